import Derived.Deep.RegionHeld3
import Derived.Test.YtiiioeodanmieaaGreatDoorYBook
import Derived.Test.YtiiioeodanmieaaGreatDoorYObj
import Derived.Test.YtiiioeodanmieaaGreatDoorYGeo
set_option linter.unusedVariables false
set_option linter.unusedSimpArgs false
-- HeapBase
namespace Go.Proofs.YtiiioeodanmieaaGreatDoor.Sec
end Go.Proofs.YtiiioeodanmieaaGreatDoor.Sec
namespace Go.Proofs.YtiiioeodanmieaaGreatDoor
open Go.RowKit
open Go.Proofs.YtiiioeodanmieaaGreatDoor.Bk

theorem hb_same {w w' : World} {base : Nat} {e : TypeId} {k n : Nat} {v : Value} {xs : List Value} (h : w.ownsRow base e k v n xs) (hb : ∀ g, v.ownBlock = some g → w'.heap[g]? = w.heap[g]?) : w'.ownsRow base e k v n xs := by
  refine ⟨h.1, ?_⟩
  rcases h.2 with q | ⟨g, cap, cur, hv, hg, hh, r⟩
  · exact .inl q
  · exact .inr ⟨g, cap, cur, hv, hg, (hb g (by rw [hv]; rfl)).trans hh, r⟩
theorem hb_vals {l : List Int} {k : Nat} (h : k < l.length) : (vals l)[k]? = some (.int .i64 (l.getD k 0)) := by simp [vals, h]
theorem hb_results4 {fn : Func} {t u v x : Tmp} (h : fn.results = #[.tmp t, .tmp u, .tmp v, .tmp x]) (tmps : Array Value) (P : Program) (w : World) :
    (results fn tmps).run P w = .ok (.tuple #[tmps.getD t undef, tmps.getD u undef, tmps.getD v undef, tmps.getD x undef]) w := by
  simp [results, h]
end Go.Proofs.YtiiioeodanmieaaGreatDoor
-- HeapRef
namespace Go.Proofs.YtiiioeodanmieaaGreatDoor
open Go.RowKit Sec
open Go.Proofs.YtiiioeodanmieaaGreatDoor.Bk

def fineB (h l sp fr gc sc : Int) : Bool :=
  geOk h l && (decide (0 ≤ sp ∧ sp ≤ 1 ∧ 0 ≤ gc ∧ gc ≤ 1) && (decide (16 + sp * h ≤ fr ∧ fr ≤ 16 + sp * h + h) && (decide (gc = 0 ∧ sc = 0) || decide (gc = 1 ∧ 16 + sp * h ≤ sc ∧ sc ≤ fr))))
def hSp (W : List Int) : Int := W.getD 0 0
def hFr (W : List Int) : Int := W.getD 1 0
def hGc (W : List Int) : Int := W.getD 2 0
def hSc (W : List Int) : Int := W.getD 3 0
def hOk (h l : Int) (W : List Int) : Bool := fineB h l (hSp W) (hFr W) (hGc W) (hSc W)
def inB (h sp a : Int) : Bool := decide (16 + sp * h ≤ a ∧ a < 16 + sp * h + h)
theorem fine_yes {h l sp fr gc sc : Int} (q : fineB h l sp fr gc sc = true) : geOk h l = true ∧ (sp = 0 ∨ sp = 1) ∧ (gc = 0 ∨ gc = 1) ∧ (16 + sp * h ≤ fr ∧ fr ≤ 16 + sp * h + h) ∧ ((gc = 0 ∧ sc = 0) ∨ (gc = 1 ∧ 16 + sp * h ≤ sc ∧ sc ≤ fr)) := by
  simp only [fineB, Bool.and_eq_true, Bool.or_eq_true] at q
  obtain ⟨q1, q2, q3, q4⟩ := q
  have q2 := of_decide_eq_true q2
  have q3 := of_decide_eq_true q3
  refine ⟨q1, by omega, by omega, q3, ?_⟩
  rcases q4 with q4 | q4
  · exact .inl (of_decide_eq_true q4)
  · exact .inr (of_decide_eq_true q4)

structure HIs (B : Nat) (w : World) (b : Nat) (h l : Int) (W : List Int) (g c : Nat) : Prop where
  hp : B ≤ b
  blk : w.heap[b]? = some (.cells #[.int .i64 h, .int .i64 l, .slice (some ⟨g, 0, none⟩) W.length c] 65 (0, 0))
  o : w.ownsRow B 3 1 (.slice (some ⟨g, 0, none⟩) W.length c) W.length (vals W)
  ge : 16 ≤ W.length
  le : W.length ≤ 1000
section
variable {B : Nat} {w w' : World} {b g c : Nat} {h l : Int} {W : List Int}
theorem HIs.lt (k : HIs B w b h l W g c) : b < w.heap.size := by
  have hb := k.blk
  rcases Nat.lt_or_ge b w.heap.size with q | q
  · exact q
  · simp [Array.getElem?_eq_none q] at hb
theorem HIs.cs (k : HIs B w b h l W g c) : w.cell? ⟨b, 0, none⟩ = some (.int .i64 h) ∧ w.cell? ⟨b, 1, none⟩ = some (.int .i64 l) ∧ w.cell? ⟨b, 2, none⟩ = some (.slice (some ⟨g, 0, none⟩) W.length c) := by
  have hb := k.blk
  refine ⟨?_, ?_, ?_⟩ <;> simp [World.cell?, hb]
theorem HIs.glt (k : HIs B w b h l W g c) : B ≤ g ∧ g < w.heap.size := k.o.lt g rfl
theorem HIs.of_blocks (k : HIs B w b h l W g c) (e : ∀ i, i = b ∨ i = g → w'.heap[i]? = w.heap[i]?) : HIs B w' b h l W g c :=
  ⟨k.hp, (e b (.inl rfl)).trans k.blk, hb_same k.o (fun i q => e i (.inr (by simp only [Value.ownBlock, Option.some.injEq] at q; exact q.symm))), k.ge, k.le⟩
theorem HIs.below (k : HIs B w b h l W g c) (x : Below w.heap.size w w') : HIs B w' b h l W g c := k.of_blocks fun i q => x.block i (by rcases q with rfl | rfl; exact k.lt; exact k.glt.2)
theorem HIs.at (k : HIs B w b h l W g c) {i : Nat} (hi : i < W.length) : w.cell? ⟨g, i, none⟩ = some (.int .i64 (W.getD i 0)) ∧ w.frozen? ⟨g, i, none⟩ = false := owns_cell k.o (hb_vals hi)
theorem HIs.ne (k : HIs B w b h l W g c) : g ≠ b := by
  rintro rfl
  obtain ⟨cur, hh⟩ := own_type k.o rfl
  have := k.blk
  rw [hh] at this
  simp only [Option.some.injEq, Obj.cells.injEq] at this
  exact absurd this.2.1 (by decide)
theorem HIs.set (k : HIs B w b h l W g c) (i : Nat) (x : Int) : HIs B (w.setCell ⟨g, i, none⟩ (.int .i64 x)) b h l (W.set i x) g c := by
  refine ⟨k.hp, ?_, ?_, by rw [List.length_set]; exact k.ge, by rw [List.length_set]; exact k.le⟩
  · rw [List.length_set]
    exact (heap_setCell_other _ _ _ _ (fun e => k.ne e.symm)).trans k.blk
  · rw [List.length_set, vals, List.map_set]
    exact owns_set k.o i _

set_option maxRecDepth 100000 in
set_option maxHeartbeats 2000000 in
theorem rcontrol_is (k : HIs B w b h l W g c) : Calls Tryz.prog 101 #[.pointer (some ⟨b, 0, none⟩)] w fun e w' => e = .returned (.tuple #[.int .i64 (hSp W), .int .i64 (hFr W), .int .i64 (hGc W), .int .i64 (hSc W)]) ∧ Below w.heap.size w w' := by
  have hge := k.ge
  have hgei : (4 : Int) ≤ (W.length : Int) := by omega
  have y0 : (0 : Int) < (W.length : Int) := by omega
  have y0n : 0 < W.length := by omega
  have y1 : (1 : Int) < (W.length : Int) := by omega
  have y2 : (2 : Int) < (W.length : Int) := by omega
  have y3 : (3 : Int) < (W.length : Int) := by omega
  have c2 := k.cs.2.2
  have d0 : w.cell? ⟨g, 0, none⟩ = some (.int .i64 (hSp W)) := (k.at (i := 0) (by omega)).1
  have d1 : w.cell? ⟨g, 1, none⟩ = some (.int .i64 (hFr W)) := (k.at (i := 1) (by omega)).1
  have d2 : w.cell? ⟨g, 2, none⟩ = some (.int .i64 (hGc W)) := (k.at (i := 2) (by omega)).1
  have d3 : w.cell? ⟨g, 3, none⟩ = some (.int .i64 (hSc W)) := (k.at (i := 3) (by omega)).1
  have hB := Lib.hid (Below.refl w.heap.size w)
  clear k
  generalize hSp W = x0 at *
  generalize hFr W = x1 at *
  generalize hGc W = x2 at *
  generalize hSc W = x3 at *
  generalize W.length = n at *
  go_enter Tryz.func101, Tryz.ntmps101
  go_wp2
  go_region_held3 (fun u => u.cell? ⟨b, 2, none⟩ = some (.slice (some ⟨g, 0, none⟩) n c) ∧ u.cell? ⟨g, 0, none⟩ = some (.int .i64 x0) ∧ u.cell? ⟨g, 1, none⟩ = some (.int .i64 x1) ∧ u.cell? ⟨g, 2, none⟩ = some (.int .i64 x2) ∧ u.cell? ⟨g, 3, none⟩ = some (.int .i64 x3) ∧ Below w.heap.size w u) (first
      | assumption
      | exact ⟨c2, d0, d1, d2, d3, (Below.refl w.heap.size w).drew⟩
      | exact ⟨c2, d0, d1, d2, d3, Below.refl w.heap.size w⟩) (first | fail)
  rename_i hH
  have HK := Lib.hid hH.2.2.2.2.2
  clear hH
  go_wp2_with fail
  refine bodyPost_ret (hb_results4 rfl _ _ _) rfl ?_
  exact ⟨rfl, HK.out⟩
end
end Go.Proofs.YtiiioeodanmieaaGreatDoor
-- HeapFine
namespace Go.Proofs.YtiiioeodanmieaaGreatDoor
open Go.RowKit Sec
open Go.Proofs.YtiiioeodanmieaaGreatDoor.Bk

theorem ge_base {h l sp : Int} (q : geOk h l = true) (hs : sp = 0 ∨ sp = 1) : geBase h l sp = 16 + sp * h := by
  rw [geBase, if_pos]
  rw [geHalf, q, Bool.true_and]
  exact decide_eq_true (by omega)
theorem fine_no0 {h l sp fr gc sc : Int} (q : geOk h l = false) : fineB h l sp fr gc sc = false := by rw [fineB, q]; rfl
theorem fine_no1 {h l sp fr gc sc : Int} (q : ¬ (0 ≤ sp ∧ sp ≤ 1 ∧ 0 ≤ gc ∧ gc ≤ 1)) : fineB h l sp fr gc sc = false := by rw [fineB, decide_eq_false q]; simp
theorem fine_mid {h l sp fr gc sc : Int} (q0 : geOk h l = true) (q : 0 ≤ sp ∧ sp ≤ 1 ∧ 0 ≤ gc ∧ gc ≤ 1) : fineB h l sp fr gc sc = (decide (16 + sp * h ≤ fr ∧ fr ≤ 16 + sp * h + h) && (decide (gc = 0 ∧ sc = 0) || decide (gc = 1 ∧ 16 + sp * h ≤ sc ∧ sc ≤ fr))) := by
  rw [fineB, q0, decide_eq_true q]
  simp
set_option maxRecDepth 100000 in
set_option maxHeartbeats 2000000 in
theorem rfine_is (h l sp fr gc sc : Int) (w : World) : Calls Tryz.prog 128 #[.agg #[.int .i64 h, .int .i64 l], .int .i64 sp, .int .i64 fr, .int .i64 gc, .int .i64 sc] w fun e w' => e = .returned (.bool (fineB h l sp fr gc sc)) ∧ Below w.heap.size w w' := by
  have HG := Lib.hid (rgeo_is h l)
  cases q : geOk h l
  · rw [fine_no0 q]
    rw [q] at HG
    clear q
    go_enter Tryz.func128, Tryz.ntmps128
    go_wp2_with (go_at_call 11; refine (HG.out _).mono ?_; rintro e' w1 ⟨rfl, b1⟩; have HK := Lib.hid (GBox.laid b1); clear b1)
    go_ret
    exact ⟨rfl, HK.out.2⟩
  · rw [q] at HG
    by_cases c : 0 ≤ sp ∧ sp ≤ 1 ∧ 0 ≤ gc ∧ gc ≤ 1
    · have hq := geOk_yes q
      have hs : sp = 0 ∨ sp = 1 := by omega
      have HB := Lib.hid (fun u => rbase_is h l sp q hs u)
      rw [ge_base q hs] at HB
      rw [fine_mid q c]
      obtain ⟨base, hbase⟩ : ∃ base, base = 16 + sp * h := ⟨_, rfl⟩
      have hb0 : 0 ≤ base ∧ base ≤ 1000 := by rcases hs with rfl | rfl <;> omega
      rw [← hbase] at HB ⊢
      obtain ⟨b0, b1'⟩ := hb0
      obtain ⟨c1, c2, c3, c4⟩ := c
      have h4 : h ≤ 400 := by omega
      have h8 : 8 ≤ h := by omega
      clear q hq hs hbase
      have e1 : (fr < base) ∨ (base ≤ fr ∧ base + h < fr) ∨ (base ≤ fr ∧ fr ≤ base + h) := by omega
      rcases e1 with e1 | ⟨e1, e2⟩ | ⟨e1, e2⟩
      rotate_right
      · rw [decide_eq_true (show base ≤ fr ∧ fr ≤ base + h from ⟨e1, e2⟩), Bool.true_and]
        have hgc : gc = 0 ∨ gc = 1 := by omega
        rcases hgc with rfl | rfl
        · by_cases hs : sc = 0
          · subst hs
            go_enter Tryz.func128, Tryz.ntmps128
            go_wp2_with (first
              | (go_at_call 11; refine (HG.out _).mono ?_; rintro e' w1 ⟨rfl, b1⟩; have HK := Lib.hid ((GBox.laid b1).1.keep (GBox.laid b1).2); obtain ⟨z0, z1, _, _⟩ := HK.out; clear b1)
              | (go_at_call 57; refine (HB.out _).mono ?_; rintro e' w2 ⟨rfl, b2⟩; replace HK := Lib.hid (gkeep HK.out b2); clear b2 z0 z1; obtain ⟨z0, z1, _, _⟩ := HK.out))
            go_ret
            exact ⟨geo_b (by simp), HK.out.2.2.2⟩
          · have hsf : (sc == 0) = false := by simpa using hs
            go_enter Tryz.func128, Tryz.ntmps128
            go_wp2_with (first
              | (go_at_call 11; refine (HG.out _).mono ?_; rintro e' w1 ⟨rfl, b1⟩; have HK := Lib.hid ((GBox.laid b1).1.keep (GBox.laid b1).2); obtain ⟨z0, z1, _, _⟩ := HK.out; clear b1)
              | (go_at_call 57; refine (HB.out _).mono ?_; rintro e' w2 ⟨rfl, b2⟩; replace HK := Lib.hid (gkeep HK.out b2); clear b2 z0 z1; obtain ⟨z0, z1, _, _⟩ := HK.out))
            go_ret
            exact ⟨geo_b (by simp [hs]), HK.out.2.2.2⟩
        · have e3 : (sc < base) ∨ (base ≤ sc ∧ fr < sc) ∨ (base ≤ sc ∧ sc ≤ fr) := by omega
          rcases e3 with e3 | ⟨e3, e4⟩ | ⟨e3, e4⟩
          all_goals
            go_enter Tryz.func128, Tryz.ntmps128
            go_wp2_with (first
              | (go_at_call 11; refine (HG.out _).mono ?_; rintro e' w1 ⟨rfl, b1⟩; have HK := Lib.hid ((GBox.laid b1).1.keep (GBox.laid b1).2); obtain ⟨z0, z1, _, _⟩ := HK.out; clear b1)
              | (go_at_call 57; refine (HB.out _).mono ?_; rintro e' w2 ⟨rfl, b2⟩; replace HK := Lib.hid (gkeep HK.out b2); clear b2 z0 z1; obtain ⟨z0, z1, _, _⟩ := HK.out))
            go_ret
            refine ⟨geo_b ?_, HK.out.2.2.2⟩
            first
              | (simp <;> omega)
              | (rw [Bool.eq_iff_iff]; simp <;> omega)
      all_goals
        rw [decide_eq_false (show ¬ (base ≤ fr ∧ fr ≤ base + h) by omega), Bool.false_and]
        go_enter Tryz.func128, Tryz.ntmps128
        go_wp2_with (first
          | (go_at_call 11; refine (HG.out _).mono ?_; rintro e' w1 ⟨rfl, b1⟩; have HK := Lib.hid ((GBox.laid b1).1.keep (GBox.laid b1).2); obtain ⟨z0, z1, _, _⟩ := HK.out; clear b1)
          | (go_at_call 57; refine (HB.out _).mono ?_; rintro e' w2 ⟨rfl, b2⟩; replace HK := Lib.hid (gkeep HK.out b2); clear b2 z0 z1; obtain ⟨z0, z1, _, _⟩ := HK.out))
        go_ret
        exact ⟨rfl, HK.out.2.2.2⟩
    · rw [fine_no1 c]
      have hc : sp < 0 ∨ (0 ≤ sp ∧ 1 < sp) ∨ (0 ≤ sp ∧ sp ≤ 1 ∧ gc < 0) ∨ (0 ≤ sp ∧ sp ≤ 1 ∧ 0 ≤ gc ∧ 1 < gc) := by omega
      clear c q
      rcases hc with c1 | ⟨c1, c2⟩ | ⟨c1, c2, c3⟩ | ⟨c1, c2, c3, c4⟩
      all_goals
        go_enter Tryz.func128, Tryz.ntmps128
        go_wp2_with (go_at_call 11; refine (HG.out _).mono ?_; rintro e' w1 ⟨rfl, b1⟩; have HK := Lib.hid (GBox.laid b1); clear b1)
        go_ret
        exact ⟨rfl, HK.out.2⟩
end Go.Proofs.YtiiioeodanmieaaGreatDoor
-- HeapUse
namespace Go.Proofs.YtiiioeodanmieaaGreatDoor
open Go.RowKit Sec
open Go.Proofs.YtiiioeodanmieaaGreatDoor.Bk

section
variable {B : Nat} {w w' : World} {b g c : Nat} {h l : Int} {W : List Int}
set_option maxRecDepth 100000 in
set_option maxHeartbeats 1000000 in
theorem rright_is (k : HIs B w b h l W g c) : Calls Tryz.prog 56 #[.pointer (some ⟨b, 0, none⟩)] w fun e w' => e = .returned (.bool (hOk h l W)) ∧ Below w.heap.size w w' := by
  have HC := Lib.hid (rcontrol_is k)
  have HF := Lib.hid (fun u => rfine_is h l (hSp W) (hFr W) (hGc W) (hSc W) u)
  have HK := Lib.hid k
  rw [show fineB h l (hSp W) (hFr W) (hGc W) (hSc W) = hOk h l W from rfl] at HF
  clear k
  generalize hOk h l W = ok at *
  generalize hSp W = x0 at *
  generalize hFr W = x1 at *
  generalize hGc W = x2 at *
  generalize hSc W = x3 at *
  go_enter Tryz.func56, Tryz.ntmps56
  go_wp2_with (first
    | (go_at_call 101
       refine HC.out.mono ?_
       rintro e w1 ⟨rfl, b1⟩
       obtain ⟨c0, c1, _⟩ := (HK.out.below b1).cs
       have H1 := Lib.hid b1
       clear b1)
    | (go_at_call 128
       refine (HF.out _).mono ?_
       rintro e w2 ⟨rfl, b2⟩
       have H2 := Lib.hid (geo_next H1.out b2)
       clear b2))
  go_ret
  exact ⟨rfl, H2.out⟩
set_option maxRecDepth 100000 in
set_option maxHeartbeats 1000000 in
theorem rleft_is (k : HIs B w b h l W g c) (q : hOk h l W = true) : Calls Tryz.prog 71 #[.pointer (some ⟨b, 0, none⟩)] w fun e w' => e = .returned (.int .i64 (16 + hSp W * h + h - hFr W)) ∧ Below w.heap.size w w' := by
  have HC := Lib.hid (rcontrol_is k)
  have HK := Lib.hid k
  obtain ⟨q1, q2, _, q4, _⟩ := fine_yes q
  have hq := geOk_yes q1
  have HB := Lib.hid (fun u => rbase_is h l (hSp W) q1 q2 u)
  rw [ge_base q1 q2] at HB
  have hb : 0 ≤ 16 + hSp W * h ∧ 16 + hSp W * h ≤ 1000 := by rcases q2 with e | e <;> rw [e] <;> omega
  clear k q q1 q2
  generalize hSp W = x0 at *
  generalize hFr W = x1 at *
  generalize hGc W = x2 at *
  generalize hSc W = x3 at *
  generalize 16 + x0 * h = base at *
  obtain ⟨hb0, hb1⟩ := hb
  obtain ⟨q4, q5⟩ := q4
  obtain ⟨hq1, hq2, _, _⟩ := hq
  have hw1 : IntKind.i64.wrap (base + h) = base + h := by rw [IntKind.wrap_i64]; omega
  have hw2 : IntKind.i64.wrap (base + h - x1) = base + h - x1 := by rw [IntKind.wrap_i64]; omega
  go_enter Tryz.func71, Tryz.ntmps71
  go_wp2_with (go_at_call 101
               refine HC.out.mono ?_
               rintro e w1 ⟨rfl, b1⟩
               obtain ⟨c0, c1, _⟩ := (HK.out.below b1).cs
               have H1 := Lib.hid b1
               clear b1)
  have HS := Lib.hid (fun u (x : Below w1.heap.size w1 u) => (show u.cell? ⟨b, 0, none⟩ = some (.int .i64 h) ∧ u.cell? ⟨b, 1, none⟩ = some (.int .i64 l) from ⟨((HK.out.below H1.out).below x).cs.1, ((HK.out.below H1.out).below x).cs.2.1⟩))
  go_region_held3 (fun u => u.cell? ⟨b, 0, none⟩ = some (.int .i64 h) ∧ u.cell? ⟨b, 1, none⟩ = some (.int .i64 l)) (first
      | assumption
      | exact HS.out _ (Below.refl _ _)
      | exact HS.out _ (Below.refl _ _).drew
      | exact HS.out _ b2) (first
    | (go_at_call 57
       refine (HB.out _).mono ?_
       rintro e' w2 ⟨rfl, b2⟩
       replace b2 : Below w1.heap.size w1 w2 := (by first | exact Below.refl _ _ | exact (Below.refl _ _).drew : Below w1.heap.size w1 _).trans (b2.mono (by first | exact Nat.le_refl _ | simp))
       have H2 := Lib.hid (H1.out.trans (b2.mono H1.out.size))))
  all_goals
    go_wp2
    go_ret
    exact ⟨rfl, H2.out⟩
set_option maxRecDepth 100000 in
set_option maxHeartbeats 1000000 in
theorem rin_is (k : HIs B w b h l W g c) (q1 : geOk h l = true) (sp : Int) (q2 : sp = 0 ∨ sp = 1) (a : Int) : Calls Tryz.prog 108 #[.pointer (some ⟨b, 0, none⟩), .int .i64 sp, .int .i64 a] w fun e w' => e = .returned (.bool (inB h sp a)) ∧ Below w.heap.size w w' := by
  have HK := Lib.hid k
  have hq := geOk_yes q1
  have HB := Lib.hid (fun u => rbase_is h l sp q1 q2 u)
  rw [ge_base q1 q2] at HB
  have hb : 0 ≤ 16 + sp * h ∧ 16 + sp * h ≤ 1000 := by rcases q2 with e | e <;> rw [e] <;> omega
  rw [inB]
  obtain ⟨c0, c1, _⟩ := k.cs
  clear k q1 q2
  generalize 16 + sp * h = base at *
  obtain ⟨hb0, hb1⟩ := hb
  obtain ⟨hq1, hq2, _, _⟩ := hq
  have cases : a < base ∨ (base ≤ a ∧ base + h ≤ a) ∨ (base ≤ a ∧ a < base + h) := by omega
  rcases cases with e1 | ⟨e1, e2⟩ | ⟨e1, e2⟩
  all_goals
    go_enter Tryz.func108, Tryz.ntmps108
    go_wp2_with (go_at_call 57
                 refine (HB.out _).mono ?_
                 rintro e w1 ⟨rfl, b1⟩
                 clear c0 c1
                 obtain ⟨c0, c1, _⟩ := (HK.out.below b1).cs
                 have H1 := Lib.hid b1
                 clear b1)
    go_ret
    refine ⟨geo_b ?_, H1.out⟩
    first
      | exact (decide_eq_true (by omega)).symm
      | exact (decide_eq_false (by omega)).symm
      | (rw [Bool.eq_iff_iff]; simp <;> omega)
end
end Go.Proofs.YtiiioeodanmieaaGreatDoor
-- HeapNew
namespace Go.Proofs.YtiiioeodanmieaaGreatDoor
open Go.RowKit Sec
open Go.Proofs.YtiiioeodanmieaaGreatDoor.Bk

def zfill (W : List Int) (a : Nat) : Nat → List Int
  | 0 => W
  | n + 1 => (zfill W a n).set (a + n) 0
theorem zfill_len (W : List Int) (a : Nat) : ∀ n, (zfill W a n).length = W.length
  | 0 => rfl
  | n + 1 => by rw [zfill, List.length_set, zfill_len W a n]
theorem zfill_at (W : List Int) (a : Nat) (i : Nat) : ∀ n, (zfill W a n).getD i 0 = if a ≤ i ∧ i < a + n then 0 else W.getD i 0
  | 0 => by rw [zfill, if_neg (by omega)]
  | n + 1 => by
    rw [zfill, List.getD_eq_getElem?_getD, List.getElem?_set]
    by_cases e : a + n = i
    · rw [if_pos e, show (if a ≤ i ∧ i < a + (n + 1) then (0 : Int) else W.getD i 0) = 0 from if_pos (by omega)]
      split <;> rfl
    · rw [if_neg e, ← List.getD_eq_getElem?_getD, zfill_at W a i n]
      by_cases q : a ≤ i ∧ i < a + n
      · rw [if_pos q, if_pos (by omega)]
      · rw [if_neg q, if_neg (by omega)]
structure HGo (B g : Nat) (w w' : World) : Prop where
  b : Below B w w'
  k : ∀ i, i < w.heap.size → i ≠ g → w'.heap[i]? = w.heap[i]?
section
variable {B : Nat} {w w' w'' : World} {b g c : Nat} {h l : Int} {W : List Int}
theorem HGo.of_below (hB : B ≤ w.heap.size) (x : Below w.heap.size w w') : HGo B g w w' := ⟨x.mono hB, fun i hi _ => x.block i hi⟩
theorem HGo.trans (x : HGo B g w w') (y : HGo B g w' w'') : HGo B g w w'' := ⟨x.b.trans y.b, fun i hi hn => (y.k i (Nat.lt_of_lt_of_le hi x.b.size) hn).trans (x.k i hi hn)⟩
theorem HGo.set (hg : B ≤ g) (i : Nat) (v : Value) : HGo B g w (w.setCell ⟨g, i, none⟩ v) := ⟨(Below.refl B w).setCell (p := ⟨g, i, none⟩) hg v, fun j _ hn => heap_setCell_other _ _ _ _ hn⟩
theorem HIs.le' (k : HIs B w b h l W g c) : B ≤ w.heap.size := Nat.le_trans k.hp (Nat.le_of_lt k.lt)
def newE (h l : Int) (W : List Int) (s x : Int) : Int := if (hOk h l W && shOk s x) = true then (if 16 + hSp W * h + h - hFr W < 1 + s + x then 6 else 0) else 1
def newA (h l : Int) (W : List Int) (s x : Int) : Int := if newE h l W s x = 0 then hFr W else 0
def newW (h l : Int) (W : List Int) (s x : Int) : List Int := if newE h l W s x = 0 then ((zfill W (hFr W).toNat (1 + s + x).toNat).set (hFr W).toNat (hdI s x)).set 1 (hFr W + (1 + s + x)) else W
set_option maxRecDepth 100000 in
set_option maxHeartbeats 4000000 in
theorem rnew_is (k : HIs B w b h l W g c) (hWl : (W.length : Int) = 16 + 2 * h) (s x : Int) : Calls Tryz.prog 26 #[.pointer (some ⟨b, 0, none⟩), .int .i64 s, .int .i64 x] w fun e w' => e = .returned (.tuple #[.int .i64 (newA h l W s x), .int .i64 (newE h l W s x)]) ∧ HIs B w' b h l (newW h l W s x) g c ∧ HGo B g w w' := by
  have HH := Lib.hid (fun u => rheader_is s x u)
  have HR := Lib.hid (rright_is k)
  have HK := Lib.hid k
  have HLe := Lib.hid k.le'
  by_cases ok : (hOk h l W && shOk s x) = true
  · obtain ⟨q1, q2⟩ := (Bool.and_eq_true _ _).mp ok |> fun p => p
    have HL := Lib.hid (fun u (y : Below w.heap.size w u) => rleft_is (k.below y) q1)
    rw [q2] at HH
    rw [q1] at HR
    have sh := shOk_yes q2
    obtain ⟨f1, f2, _, f4, _⟩ := fine_yes q1
    have hq := geOk_yes f1
    by_cases room : 16 + hSp W * h + h - hFr W < 1 + s + x
    · have eE : newE h l W s x = 6 := by rw [newE, if_pos ok, if_pos room]
      rw [newA, newW, eE, if_neg (by decide), if_neg (by decide)]
      clear k eE ok q1 q2 f1 f2 f4 hq hWl
      obtain ⟨s0, s1, x0, x1⟩ := sh
      generalize 16 + hSp W * h + h - hFr W = left at *
      generalize hdI s x = hd at *
      go_enter Tryz.func26, Tryz.ntmps26
      go_wp2_with (first
        | (go_at_call 70; refine (HH.out _).mono ?_; rintro e w' ⟨rfl, hw⟩; obtain rfl : w = w' := hw.symm)
        | (go_at_call 56; refine HR.out.mono ?_; rintro e w1 ⟨rfl, b1⟩; have H1 := Lib.hid b1; clear b1)
        | (go_at_call 71; refine (HL.out _ H1.out).mono ?_; rintro e w2 ⟨rfl, b2⟩; have H2 := Lib.hid (geo_next H1.out b2); clear b2))
      go_ret2
      exact ⟨rfl, HK.out.below H2.out, HGo.of_below HLe.out H2.out⟩
    · have eE : newE h l W s x = 0 := by rw [newE, if_pos ok, if_neg room]
      rw [newA, newW, eE, if_pos rfl, if_pos rfl]
      obtain ⟨s0, s1, x0, x1⟩ := sh
      have hmul : hSp W * h ≤ h := by rcases f2 with e | e <;> rw [e] <;> omega
      have hmul0 : 0 ≤ hSp W * h := by rcases f2 with e | e <;> rw [e] <;> omega
      obtain ⟨n, hn⟩ := Int.eq_ofNat_of_zero_le (show 0 ≤ 1 + s + x by omega)
      obtain ⟨a, ha⟩ := Int.eq_ofNat_of_zero_le (show 0 ≤ hFr W by omega)
      have hn1 : 1 ≤ n := by omega
      have han : a + n ≤ W.length := by omega
      have ha16 : 16 ≤ a := by omega
      have hle := k.le
      have HN := Lib.hid hn
      have room' : ¬ (16 + hSp W * h + h - (a : Int) < (n : Int)) := by omega
      rw [ha] at HL
      rw [ha, hn, Int.toNat_natCast, Int.toNat_natCast]
      have HFr := Lib.hid ha
      have hz : ∀ j, (zfill W a j).length = W.length := fun j => zfill_len W a j
      have HZ := Lib.hid hz
      clear k eE ok q1 q2 f1 f2 f4 hq hWl room hn ha hmul hmul0 hz
      generalize 16 + hSp W * h + h - (a : Int) = left at *
      generalize hdI s x = hd at *
      have hsx : (1 : Int) + s + x = (n : Int) := HN.out
      go_enter Tryz.func26, Tryz.ntmps26
      go_wp2_with (first
        | (go_at_call 70; refine (HH.out _).mono ?_; rintro e w' ⟨rfl, hw⟩; obtain rfl : w = w' := hw.symm)
        | (go_at_call 56; refine HR.out.mono ?_; rintro e w1 ⟨rfl, b1⟩; have H1 := Lib.hid b1; clear b1)
        | (go_at_call 71
           refine (HL.out _ H1.out).mono ?_
           rintro e w2 ⟨rfl, b2⟩
           have b02 := geo_next H1.out b2
           have c2 := (HK.out.below b02).cs.2.2
           have d1 : w2.cell? ⟨g, 1, none⟩ = some (.int .i64 (a : Int)) := by
             have := ((HK.out.below b02).at (i := 1) (by omega)).1
             rw [show W.getD 1 0 = (a : Int) from HFr.out] at this
             exact this
           have y1 : (1 : Int) < (W.length : Int) := by omega
           have H2 := Lib.hid (And.intro (HK.out.below b02) (HGo.of_below (g := g) HLe.out b02))
           clear b2 b02))
      go_loopw [12] (fun i wr => ∃ j : Nat, j ≤ n ∧ i = .int .i64 (j : Int) ∧ HIs B wr b h l (zfill W a j) g c ∧ HGo B g w wr) (fun i _ => n - (intOf i).toNat)
      case atStart => exact ⟨0, Nat.zero_le _, rfl, H2.out.1, H2.out.2⟩
      case round =>
        obtain ⟨j, hj, rfl, hk, hgo⟩ := hrel
        by_cases hlt : j < n
        · have e2 := hk.cs.2.2
          rw [HZ.out j] at e2
          have e3 := (hk.at (i := a + j) (by rw [HZ.out j]; omega))
          obtain ⟨e3, e4⟩ := e3
          have hi1 : (j : Int) < (n : Int) := by omega
          have y2 : (0 : Int) ≤ (a : Int) + (j : Int) := by omega
          have y3 : (a : Int) + (j : Int) < (W.length : Int) := by omega
          have t3 : ((a : Int) + (j : Int)).toNat = a + j := by omega
          have HR := Lib.hid (And.intro hk hgo)
          clear hk hgo
          go_wp2_with fail
          refine ⟨⟨j + 1, by omega, by go_num, ?_, HR.out.2.trans (HGo.set HR.out.1.glt.1 _ _)⟩, by simp [intOf]; omega⟩
          exact HR.out.1.set (a + j) 0
        · obtain rfl : j = n := by omega
          have e2 := hk.cs.2.2
          rw [HZ.out j] at e2
          obtain ⟨e3, e4⟩ := (hk.at (i := a) (by rw [HZ.out j]; omega))
          obtain ⟨e5, e6⟩ := (hk.at (i := 1) (by rw [HZ.out j]; omega))
          have hnl : ¬ (j : Int) < (j : Int) := by omega
          have y2 : (a : Int) < (W.length : Int) := by omega
          have ya : a ≠ 1 := by omega
          have yg := hk.ne
          have HR := Lib.hid (And.intro hk hgo)
          clear hk hgo hlt hj
          go_wp2_with fail
          go_ret2
          refine ⟨rfl, ?_, (HR.out.2.trans (HGo.set HR.out.1.glt.1 _ _)).trans (HGo.set HR.out.1.glt.1 _ _)⟩
          exact (HR.out.1.set a hd).set 1 _
  · have eE : newE h l W s x = 1 := by rw [newE, if_neg ok]
    rw [newA, newW, eE, if_neg (by decide), if_neg (by decide)]
    rw [Bool.and_eq_true] at ok
    clear k eE
    generalize hOk h l W = p at *
    generalize shOk s x = q at *
    generalize hdI s x = hd at *
    have hpq : q = true → p = false := by rintro rfl; cases p with | false => rfl | true => exact absurd ⟨rfl, rfl⟩ ok
    clear ok
    cases q with
    | true =>
      obtain rfl := hpq rfl
      clear hpq
      go_enter Tryz.func26, Tryz.ntmps26
      go_wp2_with (first
        | (go_at_call 70; refine (HH.out _).mono ?_; rintro e w' ⟨rfl, hw⟩; obtain rfl : w = w' := hw.symm)
        | (go_at_call 56; refine HR.out.mono ?_; rintro e w1 ⟨rfl, b1⟩; have H1 := Lib.hid b1; clear b1))
      go_ret2
      exact ⟨rfl, HK.out.below H1.out, HGo.of_below HLe.out H1.out⟩
    | false =>
      clear hpq
      go_enter Tryz.func26, Tryz.ntmps26
      go_wp2_with (first
        | (go_at_call 70; refine (HH.out _).mono ?_; rintro e w' ⟨rfl, hw⟩; obtain rfl : w = w' := hw.symm)
        | (go_at_call 56; refine HR.out.mono ?_; rintro e w1 ⟨rfl, b1⟩; have H1 := Lib.hid b1; clear b1; cases p))
      all_goals go_ret2
      all_goals exact ⟨rfl, HK.out.below H1.out, HGo.of_below HLe.out H1.out⟩
end
end Go.Proofs.YtiiioeodanmieaaGreatDoor
