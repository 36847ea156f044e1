import Derived.Test.YtbghglkplbnnkaaGreatDoorYGraphA
import Derived.Test.YtbghglkplbnnkaaGreatDoorYHeap
set_option linter.unusedVariables false
set_option linter.unusedSimpArgs false
namespace Go.Proofs.YtbghglkplbnnkaaGreatDoor
open Go.RowKit
open Go.Proofs.YtbghglkplbnnkaaGreatDoor.Bk

def inG (n : Nat) (v : Int) : Bool := decide (0 ≤ v ∧ v ≤ n)
def nRight (n : Nat) (x : NArg) : Bool := decide (x.s.l.length ≤ 15 ∧ x.w.l.length ≤ 30) && (x.s.l.all (inG n) && x.w.l.all hbNum)
def gRight (G : GArg) : Bool := decide (G.r.l.length = 8 ∧ G.n.length ≤ 1000) && (G.r.l.all (inG G.n.length) && G.n.all (nRight G.n.length))
set_option maxRecDepth 100000 in
set_option maxHeartbeats 4000000 in
theorem rgright_is (A : GArg) (w : World) (hA : A.At w) : Calls Tryz.prog 8 #[A.val] w fun e w' => e = .returned (.bool (gRight A)) ∧ Below w.heap.size w w' := by
  have HA := Lib.hid hA
  clear hA
  obtain ⟨ar, aa, an, ac⟩ := A
  have HBX : Hid (Below w.heap.size w (w.alloc (.cells #[ar.val, .slice aa an.length ac] 27))) := Lib.hid ((Below.refl _ _).alloc (Nat.le_refl _) _)
  have hrl : ar.l.length ≤ maxLen := HA.out.1.2.2
  have hnl : an.length ≤ maxLen := HA.out.2.2.2
  unfold maxLen at hrl hnl
  by_cases h8 : ar.l.length = 8
  · by_cases h1 : an.length ≤ 1000
    · obtain ⟨t, ht⟩ : ∃ t, t = gRight ⟨ar, aa, an, ac⟩ := ⟨_, rfl⟩
      rw [← ht]
      have HT : Hid (t = (ar.l.all (inG an.length) && an.all (nRight an.length))) := Lib.hid (by rw [ht, gRight, decide_eq_true (show ar.l.length = 8 ∧ an.length ≤ 1000 from ⟨h8, h1⟩), Bool.true_and])
      clear ht
      have hcell : Hid (∀ u, Below (w.alloc (.cells #[ar.val, .slice aa an.length ac] 27)).heap.size (w.alloc (.cells #[ar.val, .slice aa an.length ac] 27)) u → u.cell? ⟨w.heap.size, 0, none⟩ = some ar.val ∧ u.cell? ⟨w.heap.size, 1, none⟩ = some (.slice aa an.length ac)) := Lib.hid (fun u y => ⟨(y.cell (p := ⟨w.heap.size, 0, none⟩) (by simp)).trans (by simp), (y.cell (p := ⟨w.heap.size, 1, none⟩) (by simp)).trans (by simp)⟩)
      unfold GArg.val IArg.val at *
      have a8 : (ar.l.length : Int) ≤ 8 := by omega
      have b8 : (8 : Int) ≤ (ar.l.length : Int) := by omega
      have h1i : (an.length : Int) ≤ 1000 := by omega
      clear h8
      go_enter Tryz.func8, Tryz.ntmps8
      go_wp2
      go_loopw [3] (fun i wr => ∃ k : Nat, k ≤ ar.l.length ∧ i = .int .i64 (k : Int) ∧ Hid ((ar.l.take k).all (inG an.length) = true) ∧ Hid (Below w.heap.size w wr ∧ wr.cell? ⟨w.heap.size, 0, none⟩ = some (.slice ar.a ar.l.length ar.c) ∧ wr.cell? ⟨w.heap.size, 1, none⟩ = some (.slice aa an.length ac))) (fun i _ => ar.l.length - (intOf i).toNat)
      case atStart => exact ⟨0, Nat.zero_le _, rfl, Lib.hid rfl, Lib.hid ⟨HBX.out, (hcell.out _ (Below.refl _ _)).1, (hcell.out _ (Below.refl _ _)).2⟩⟩
      case round =>
        clear HBX hcell
        obtain ⟨k, hk, rfl, HK, HW⟩ := hrel
        obtain ⟨_, c0, c1⟩ := HW.out
        by_cases hlt : k < ar.l.length
        · obtain ⟨b0, hb0, _, e0⟩ := (HA.out.1.1.below HW.out.1).at_ (k := k) (v := .int .i64 ar.l[k]) (by simp [vals, hlt])
          have hi1 : (k : Int) < (ar.l.length : Int) := by omega
          have HN : Hid (inG an.length ar.l[k] = false → t = false) := Lib.hid (fun q => by rw [HT.out, all_no hlt q, Bool.false_and])
          have HY : Hid (inG an.length ar.l[k] = true → (ar.l.take (k + 1)).all (inG an.length) = true) := Lib.hid (fun q => all_next hlt HK.out q)
          obtain ⟨ara, arl, arc⟩ := ar
          dsimp only at *
          subst hb0
          clear HA HT
          generalize arl[k] = v at *
          rcases Int.lt_or_le v 0 with hv | hv
          · have htf : t = false := HN.out (decide_eq_false (by omega))
            subst htf
            clear HN HY
            go_wp2_with fail
            go_quiet (fail)
            go_wp2_with fail
            go_ret
            exact ⟨rfl, bel_drewN HW.out.1 _⟩
          · rcases Int.lt_or_le (an.length : Int) v with hv2 | hv2
            · have htf : t = false := HN.out (decide_eq_false (by omega))
              subst htf
              clear HN HY
              go_wp2_with fail
              go_quiet (fail)
              go_wp2_with fail
              go_ret
              exact ⟨rfl, bel_drewN HW.out.1 _⟩
            · have HZ := Lib.hid (HY.out (decide_eq_true ⟨hv, hv2⟩))
              clear HN HY
              go_wp2_with fail
              go_quiet (fail)
              go_wp2_with fail
              exact ⟨⟨k + 1, by omega, by go_num, HZ, Lib.hid ⟨bel_drewN HW.out.1 _, HW.out.2.1, HW.out.2.2⟩⟩, by simp [intOf]; omega⟩
        · obtain rfl : k = ar.l.length := by omega
          have hnl2 : ¬ (ar.l.length : Int) < (ar.l.length : Int) := by omega
          have HR : Hid (t = an.all (nRight an.length)) := Lib.hid (by
            have := HK.out
            rw [List.take_length] at this
            rw [HT.out, this, Bool.true_and])
          go_wp2_with fail
          generalize wr = wo at *
          have HWo := Lib.hid (And.intro HW.out.1 HW.out.2.2)
          clear HW HK HT c0 hnl2 c1
          go_loopw [4] (fun i wr => ∃ k : Nat, k ≤ an.length ∧ i = .int .i64 (k : Int) ∧ Hid ((an.take k).all (nRight an.length) = true) ∧ Hid (Below w.heap.size w wr ∧ wr.cell? ⟨w.heap.size, 1, none⟩ = some (.slice aa an.length ac) ∧ w.heap.size < wr.heap.size)) (fun i _ => an.length - (intOf i).toNat)
          case atStart => exact ⟨0, Nat.zero_le _, rfl, Lib.hid rfl, Lib.hid ⟨HWo.out.1, HWo.out.2, World.block_lt_of_cell? _ _ HWo.out.2⟩⟩
          case round =>
            clear HWo
            obtain ⟨k, hk, rfl, HK, HW⟩ := hrel
            obtain ⟨_, c1, _⟩ := HW.out
            by_cases hlt : k < an.length
            · have hAr := HA.out.below HW.out.1
              obtain ⟨g1, o1, rfl, hg1, e1⟩ := hAr.2.1.elem NArg.len (by omega) (List.getElem?_eq_getElem hlt)
              have e1_0 := e1 0 _ rfl
              have e1_1 := e1 1 _ rfl
              rw [Nat.add_zero] at e1_0
              unfold IArg.val at e1_0 e1_1
              clear e1
              have HX := Lib.hid (hAr.2.2.1 an[k] (List.getElem_mem hlt))
              have hi1 : (k : Int) < (an.length : Int) := by omega
              have HN : Hid (nRight an.length an[k] = false → t = false) := Lib.hid (fun q => by rw [HR.out, all_no hlt q])
              have HY : Hid (nRight an.length an[k] = true → (an.take (k + 1)).all (nRight an.length) = true) := Lib.hid (fun q => all_next hlt HK.out q)
              clear hAr HK HR HA
              generalize an[k] = x at *
              obtain ⟨⟨sa, sl, sc⟩, ⟨xa, xl, xc⟩⟩ := x
              dsimp only at *
              have hsm : sl.length ≤ maxLen := HX.out.1.2.2
              have hxm : xl.length ≤ maxLen := HX.out.2.2.2
              unfold maxLen at hsm hxm
              by_cases hs : sl.length ≤ 15
              · by_cases hw : xl.length ≤ 30
                · have hsi : (sl.length : Int) ≤ 15 := by omega
                  have hwi : (xl.length : Int) ≤ 30 := by omega
                  have HE : Hid (nRight an.length ⟨⟨sa, sl, sc⟩, ⟨xa, xl, xc⟩⟩ = (sl.all (inG an.length) && xl.all hbNum)) := Lib.hid (by rw [nRight, decide_eq_true (show sl.length ≤ 15 ∧ xl.length ≤ 30 from ⟨hs, hw⟩), Bool.true_and])
                  go_wp2_with fail
                  have HV : Hid (Below wr.heap.size wr (wr.alloc (.cells #[.slice sa sl.length sc, .slice xa xl.length xc] 61)) ∧ (wr.alloc (.cells #[.slice sa sl.length sc, .slice xa xl.length xc] 61)).cell? ⟨wr.heap.size, 0, none⟩ = some (.slice sa sl.length sc) ∧ (wr.alloc (.cells #[.slice sa sl.length sc, .slice xa xl.length xc] 61)).cell? ⟨wr.heap.size, 1, none⟩ = some (.slice xa xl.length xc)) := Lib.hid ⟨(Below.refl _ _).alloc (Nat.le_refl _) _, by simp, by simp⟩
                  generalize (wr.alloc (.cells #[.slice sa sl.length sc, .slice xa xl.length xc] 61)) = w0 at *
                  generalize wr = wq at *
                  clear hs hw e1_0 e1_1
                  go_loopw [6] (fun i wr => ∃ j : Nat, j ≤ sl.length ∧ i = .int .i64 (j : Int) ∧ Hid ((sl.take j).all (inG an.length) = true) ∧ Hid (Below wq.heap.size wq wr ∧ wr.cell? ⟨wq.heap.size, 0, none⟩ = some (.slice sa sl.length sc) ∧ wr.cell? ⟨wq.heap.size, 1, none⟩ = some (.slice xa xl.length xc))) (fun i _ => sl.length - (intOf i).toNat)
                  case atStart => exact ⟨0, Nat.zero_le _, rfl, Lib.hid rfl, HV⟩
                  case round =>
                    clear HV
                    obtain ⟨j, hj, rfl, HJ, HU⟩ := hrel
                    obtain ⟨_, c5, c6⟩ := HU.out
                    have c7 := (HU.out.1.cell (p := ⟨w.heap.size, 1, none⟩) HW.out.2.2).trans HW.out.2.1
                    by_cases hjl : j < sl.length
                    · obtain ⟨b0, hb0, _, e0⟩ := (HX.out.1.1.below HU.out.1).at_ (k := j) (v := .int .i64 sl[j]) (by simp [vals, hjl])
                      have hji : (j : Int) < (sl.length : Int) := by omega
                      have HF : Hid (inG an.length sl[j] = false → t = false) := Lib.hid (fun q => HN.out (by rw [HE.out, all_no hjl q, Bool.false_and]))
                      have HG : Hid (inG an.length sl[j] = true → (sl.take (j + 1)).all (inG an.length) = true) := Lib.hid (fun q => all_next hjl HJ.out q)
                      dsimp only at hb0
                      subst hb0
                      clear HN HE HX HJ HY
                      generalize sl[j] = v at *
                      rcases Int.lt_or_le v 0 with hv | hv
                      · have htf : t = false := HF.out (decide_eq_false (by omega))
                        subst htf
                        clear HF HG
                        go_wp2_with fail
                        go_quiet (fail)
                        go_wp2_with fail
                        go_ret
                        exact ⟨rfl, bel_drewN (HW.out.1.trans (HU.out.1.mono HW.out.1.size)) _⟩
                      · rcases Int.lt_or_le (an.length : Int) v with hv2 | hv2
                        · have htf : t = false := HF.out (decide_eq_false (by omega))
                          subst htf
                          clear HF HG
                          go_wp2_with fail
                          go_quiet (fail)
                          go_wp2_with fail
                          go_ret
                          exact ⟨rfl, bel_drewN (HW.out.1.trans (HU.out.1.mono HW.out.1.size)) _⟩
                        · have HZ := Lib.hid (HG.out (decide_eq_true ⟨hv, hv2⟩))
                          clear HF HG
                          go_wp2_with fail
                          go_quiet (fail)
                          go_wp2_with fail
                          exact ⟨⟨j + 1, by omega, by go_num, HZ, Lib.hid ⟨bel_drewN HU.out.1 _, HU.out.2.1, HU.out.2.2⟩⟩, by simp [intOf]; omega⟩
                    · obtain rfl : j = sl.length := by omega
                      have hnl4 : ¬ (sl.length : Int) < (sl.length : Int) := by omega
                      have HE2 : Hid (nRight an.length ⟨⟨sa, sl, sc⟩, ⟨xa, xl, xc⟩⟩ = xl.all hbNum) := Lib.hid (by
                        have := HJ.out
                        rw [List.take_length] at this
                        rw [HE.out, this, Bool.true_and])
                      go_wp2_with fail
                      generalize wr = wp at *
                      clear HE HJ c5
                      have HNb := Lib.hid (fun v u => hb_number v u)
                      go_loopw [7] (fun i wr => ∃ j : Nat, j ≤ xl.length ∧ i = .int .i64 (j : Int) ∧ Hid ((xl.take j).all hbNum = true) ∧ Hid (Below wq.heap.size wq wr ∧ wr.cell? ⟨wq.heap.size, 1, none⟩ = some (.slice xa xl.length xc))) (fun i _ => xl.length - (intOf i).toNat)
                      case atStart => exact ⟨0, Nat.zero_le _, rfl, Lib.hid rfl, Lib.hid ⟨HU.out.1, HU.out.2.2⟩⟩
                      case round =>
                        clear HU c6 c7
                        obtain ⟨i, hi, rfl, HJ, HU⟩ := hrel
                        obtain ⟨_, c6⟩ := HU.out
                        have c7 := (HU.out.1.cell (p := ⟨w.heap.size, 1, none⟩) HW.out.2.2).trans HW.out.2.1
                        by_cases hil : i < xl.length
                        · obtain ⟨b0, hb0, _, e0⟩ := (HX.out.2.1.below HU.out.1).at_ (k := i) (v := .int .i64 xl[i]) (by simp [vals, hil])
                          have hii : (i : Int) < (xl.length : Int) := by omega
                          have HF : Hid (hbNum xl[i] = false → t = false) := Lib.hid (fun q => HN.out (by rw [HE2.out, all_no hil q]))
                          have HG : Hid (hbNum xl[i] = true → (xl.take (i + 1)).all hbNum = true) := Lib.hid (fun q => all_next hil HJ.out q)
                          dsimp only at hb0
                          subst hb0
                          clear HN HE2 HX HJ HY
                          replace HNb := Lib.hid (HNb.out xl[i])
                          rw [show decide (0 ≤ xl[i] ∧ xl[i] < 4294967296) = hbNum xl[i] from rfl] at HNb
                          generalize xl[i] = v at *
                          cases hv : hbNum v
                          · have htf : t = false := HF.out hv
                            subst htf
                            rw [hv] at HNb
                            clear HF HG hv
                            go_wp2_with (go_at_call 30; refine (HNb.out _).mono ?_; rintro e w' ⟨rfl, hw⟩; obtain rfl : wr = w' := hw.symm)
                            go_ret
                            exact ⟨rfl, HW.out.1.trans (HU.out.1.mono HW.out.1.size)⟩
                          · have HZ := Lib.hid (HG.out hv)
                            rw [hv] at HNb
                            clear HF HG hv
                            go_wp2_with (go_at_call 30; refine (HNb.out _).mono ?_; rintro e w' ⟨rfl, hw⟩; obtain rfl : wr = w' := hw.symm)
                            exact ⟨⟨i + 1, by omega, by go_num, HZ, Lib.hid HU.out⟩, by simp [intOf]; omega⟩
                        · obtain rfl : i = xl.length := by omega
                          have hnl5 : ¬ (xl.length : Int) < (xl.length : Int) := by omega
                          have HZ := Lib.hid (HY.out (by
                            have := HJ.out
                            rw [List.take_length] at this
                            rw [HE2.out, this]))
                          go_wp2_with fail
                          exact ⟨⟨k + 1, by omega, by go_num, HZ, Lib.hid ⟨HW.out.1.trans (HU.out.1.mono HW.out.1.size), c7, Nat.lt_of_lt_of_le HW.out.2.2 HU.out.1.size⟩⟩, by simp [intOf]; omega⟩
                · have hsi : (sl.length : Int) ≤ 15 := by omega
                  have hwi : (30 : Int) < (xl.length : Int) := by omega
                  have htf : t = false := HN.out (by rw [nRight, decide_eq_false (fun q => hw q.2), Bool.false_and])
                  subst htf
                  clear HN HY HX hs hw
                  go_wp2_with fail
                  go_ret
                  exact ⟨rfl, HW.out.1.trans (((Below.refl _ _).alloc (Nat.le_refl _) _).mono HW.out.1.size)⟩
              · have hsi : (15 : Int) < (sl.length : Int) := by omega
                have htf : t = false := HN.out (by rw [nRight, decide_eq_false (fun q => hs q.1), Bool.false_and])
                subst htf
                clear HN HY HX hs
                go_wp2_with fail
                go_ret
                exact ⟨rfl, HW.out.1.trans (((Below.refl _ _).alloc (Nat.le_refl _) _).mono HW.out.1.size)⟩
            · obtain rfl : k = an.length := by omega
              have hnl3 : ¬ (an.length : Int) < (an.length : Int) := by omega
              have htt : t = true := by
                have := HK.out
                rw [List.take_length] at this
                rw [HR.out, this]
              subst htt
              go_wp2_with fail
              go_ret
              exact ⟨rfl, HW.out.1⟩
    · rw [show gRight ⟨ar, aa, an, ac⟩ = false by rw [gRight, decide_eq_false (fun q => h1 q.2), Bool.false_and]]
      have a8 : (ar.l.length : Int) ≤ 8 := by omega
      have b8 : (8 : Int) ≤ (ar.l.length : Int) := by omega
      have h1i : (1000 : Int) < (an.length : Int) := by omega
      unfold GArg.val IArg.val
      clear HA h8 h1
      go_enter Tryz.func8, Tryz.ntmps8
      go_wp2
      go_ret
      exact ⟨rfl, HBX.out⟩
  · rw [show gRight ⟨ar, aa, an, ac⟩ = false by rw [gRight, decide_eq_false (fun q => h8 q.1), Bool.false_and]]
    unfold GArg.val IArg.val
    clear HA
    rcases Nat.lt_or_gt_of_ne h8 with q | q
    · have a8 : (ar.l.length : Int) < 8 := by omega
      clear h8 q
      go_enter Tryz.func8, Tryz.ntmps8
      go_wp2
      go_ret
      exact ⟨rfl, HBX.out⟩
    · have a8 : (8 : Int) < (ar.l.length : Int) := by omega
      clear h8 q
      go_enter Tryz.func8, Tryz.ntmps8
      go_wp2
      go_ret
      exact ⟨rfl, HBX.out⟩
end Go.Proofs.YtbghglkplbnnkaaGreatDoor
