import Derived.Test.YtiiioeodanmieaaGreatDoorYHeapB
import Derived.Test.YtiiioeodanmieaaGreatDoorYBook
set_option linter.unusedVariables false
set_option linter.unusedSimpArgs false
-- HeapFollow
namespace Go.Proofs.YtiiioeodanmieaaGreatDoor
open Go.RowKit Sec
open Go.Proofs.YtiiioeodanmieaaGreatDoor.Bk

def cpfill (W : List Int) (a f : Nat) : Nat → List Int
  | 0 => W
  | n + 1 => (cpfill W a f n).set (f + n) ((cpfill W a f n).getD (a + n) 0)
theorem cpfill_len (W : List Int) (a f : Nat) : ∀ n, (cpfill W a f n).length = W.length
  | 0 => rfl
  | n + 1 => by rw [cpfill, List.length_set, cpfill_len W a f n]
def folM (h l : Int) (W : List Int) (a : Int) : Bool := hOk h l W && ((lk h l W a).2 && (decide (a ≠ 0) && (!inB h (hSp W) a && decide ((lk h l W a).1 = a))))
def folZ (W : List Int) (a : Int) : Int := 1 + prS (W.getD a.toNat 0) + prW (W.getD a.toNat 0)
def folE (h l : Int) (W : List Int) (a : Int) : Int :=
  if hOk h l W = false then 1 else if (lk h l W a).2 = false then 4 else if folM h l W a = true ∧ 16 + hSp W * h + h - hFr W < folZ W a then 6 else 0
def folV (h l : Int) (W : List Int) (a : Int) : Int := if folE h l W a = 0 then (if folM h l W a = true then hFr W else (lk h l W a).1) else 0
def folW (h l : Int) (W : List Int) (a : Int) : List Int :=
  if folE h l W a = 0 ∧ folM h l W a = true then ((cpfill W a.toNat (hFr W).toNat (folZ W a).toNat).set 1 (hFr W + folZ W a)).set a.toNat (33554432 + hFr W) else W
theorem HGo.drew {B g : Nat} {w w' : World} (x : HGo B g w w') : HGo B g w w'.drew := ⟨x.b.drew, x.k⟩
theorem HIs.drew {B : Nat} {w : World} {b g c : Nat} {h l : Int} {W : List Int} (k : HIs B w b h l W g c) : HIs B w.drew b h l W g c := k.below (Below.refl _ _).drew
theorem folM_yes {h l : Int} {W : List Int} {a : Int} (q : folM h l W a = true) : hOk h l W = true ∧ (lk h l W a).2 = true ∧ a ≠ 0 ∧ inB h (hSp W) a = false ∧ (lk h l W a).1 = a := by
  simp only [folM, Bool.and_eq_true, Bool.not_eq_true'] at q
  exact ⟨q.1, q.2.1, of_decide_eq_true q.2.2.1, q.2.2.2.1, of_decide_eq_true q.2.2.2.2⟩
theorem folM_at {h l : Int} {W : List Int} {a : Int} (q : folM h l W a = true) : ∃ n : Nat, a = (n : Int) ∧ 16 + (1 - hSp W) * h ≤ (n : Int) ∧ hGc W ≠ 0 ∧ hdOk (W.getD n 0) = true ∧ fwOk (W.getD n 0) = false ∧ (n : Int) + folZ W (n : Int) ≤ 16 + (1 - hSp W) * h + h := by
  obtain ⟨q1, q2, q3, q4, q5⟩ := folM_yes q
  obtain ⟨f1, f2, _⟩ := fine_yes q1
  have hq := geOk_yes f1
  have hm2 : 0 ≤ (1 - hSp W) * h := by rcases f2 with e | e <;> rw [e] <;> omega
  rw [lk, if_neg (by rw [q1]; decide), if_neg (by rw [q4]; simp [q3])] at q2 q5
  by_cases c1 : hGc W = 0 ∨ inB h (1 - hSp W) a = false
  · rw [if_pos c1] at q2
    exact absurd q2 (by decide)
  rw [if_neg c1] at q2 q5
  have c2 : hGc W ≠ 0 := fun e => c1 (.inl e)
  have c3 : inB h (1 - hSp W) a = true := by
    cases e : inB h (1 - hSp W) a
    · exact absurd (.inr e) c1
    · rfl
  have c4 := of_decide_eq_true c3
  obtain ⟨n, rfl⟩ := Int.eq_ofNat_of_zero_le (show 0 ≤ a by omega)
  rw [Int.toNat_natCast] at q2 q5
  by_cases c5 : fwOk (W.getD n 0) = true
  · rw [if_pos c5] at q2 q5
    by_cases c6 : inB h (hSp W) (fwA (W.getD n 0)) = true
    · rw [if_pos c6] at q5
      have q6 : fwA (W.getD n 0) = (n : Int) := q5
      rw [q6, q4] at c6
      exact absurd c6 (by decide)
    · rw [if_neg c6] at q2
      exact absurd q2 (by decide)
  rw [if_neg c5] at q2 q5
  by_cases c7 : hdOk (W.getD n 0) = true ∧ (n : Int) + 1 + prS (W.getD n 0) + prW (W.getD n 0) ≤ 16 + (1 - hSp W) * h + h
  · refine ⟨n, rfl, c4.1, c2, c7.1, by simpa using c5, ?_⟩
    rw [folZ, Int.toNat_natCast]
    have := c7.2
    omega
  · rw [if_neg c7] at q2
    exact absurd q2 (by decide)
section
variable {B : Nat} {w w' : World} {b g c : Nat} {h l : Int} {W : List Int}
set_option maxRecDepth 100000 in
set_option maxHeartbeats 8000000 in
theorem rfollow_is (k : HIs B w b h l W g c) (hWl : (W.length : Int) = 16 + 2 * h) (hr : Ints64 W) (a : Int) : Calls Tryz.prog 59 #[.pointer (some ⟨b, 0, none⟩), .int .i64 a] w fun e w' => e = .returned (.tuple #[.int .i64 (folV h l W a), .int .i64 (folE h l W a)]) ∧ HIs B w' b h l (folW h l W a) g c ∧ HGo B g w w' := by
  have HR := Lib.hid (rright_is k)
  have HLk := Lib.hid (fun u (y : Below w.heap.size w u) => rlook_is (k.below y) hWl hr a)
  have HC := Lib.hid (fun u (y : Below w.heap.size w u) => rcontrol_is (k.below y))
  have HK := Lib.hid k
  have HLe := Lib.hid k.le'
  cases q1 : hOk h l W with
  | false =>
    have eE : folE h l W a = 1 := if_pos q1
    rw [folV, folW, eE, if_neg (by decide), if_neg (by simp)]
    rw [q1] at HR
    clear k q1 hWl hr HC HLk eE
    go_enter Tryz.func59, Tryz.ntmps59
    go_wp2_with (go_at_call 56; refine HR.out.mono ?_; rintro e w1 ⟨rfl, b1⟩; have H1 := Lib.hid b1; clear b1)
    all_goals go_ret2
    all_goals exact ⟨rfl, HK.out.below H1.out, HGo.of_below HLe.out H1.out⟩
  | true =>
    rw [q1] at HR
    have n1 : ¬ hOk h l W = false := by rw [q1]; decide
    cases q2 : (lk h l W a).2 with
    | false =>
      have eE : folE h l W a = 4 := by rw [folE, if_neg n1, if_pos q2]
      rw [folV, folW, eE, if_neg (by decide), if_neg (by simp)]
      rw [q2] at HLk
      clear k q1 q2 n1 hWl hr HC eE
      generalize (lk h l W a).1 = t at *
      go_enter Tryz.func59, Tryz.ntmps59
      go_wp2_with (first
        | (go_at_call 56; refine HR.out.mono ?_; rintro e w1 ⟨rfl, b1⟩; have H1 := Lib.hid b1; clear b1)
        | (go_at_call 107; refine (HLk.out _ H1.out).mono ?_; rintro e w2 ⟨rfl, b2⟩; have H2 := Lib.hid (geo_next H1.out b2); clear b2))
      all_goals go_ret2
      all_goals exact ⟨rfl, HK.out.below H2.out, HGo.of_below HLe.out H2.out⟩
    | true =>
      have n2 : ¬ (lk h l W a).2 = false := by rw [q2]; decide
      obtain ⟨f1, f2, _, f4, _⟩ := fine_yes q1
      have hq := geOk_yes f1
      have hm : 0 ≤ hSp W * h ∧ hSp W * h ≤ h := by rcases f2 with e | e <;> rw [e] <;> omega
      have HI := Lib.hid (fun u (y : Below w.heap.size w u) => rin_is (k.below y) f1 (hSp W) f2 a)
      cases q3 : folM h l W a with
      | false =>
        have eE : folE h l W a = 0 := by rw [folE, if_neg n1, if_neg n2, if_neg (by rw [q3]; simp)]
        rw [folV, folW, eE, if_pos rfl, if_neg (by rw [q3]; decide), if_neg (by rw [q3]; simp)]
        rw [q2] at HLk
        rw [folM, q1, q2, Bool.true_and, Bool.true_and] at q3
        clear k q1 q2 n1 n2 hWl hr eE f1 f2 f4 hq hm
        by_cases a0 : a = 0
        · subst a0
          clear q3 HI
          generalize (lk h l W 0).1 = t at *
          generalize hSp W = x0 at *
          generalize hFr W = x1 at *
          generalize hGc W = x2 at *
          generalize hSc W = x3 at *
          go_enter Tryz.func59, Tryz.ntmps59
          go_wp2_with (first
            | (go_at_call 56; refine HR.out.mono ?_; rintro e w1 ⟨rfl, b1⟩; have H1 := Lib.hid b1; clear b1)
            | (go_at_call 107; refine (HLk.out _ H1.out).mono ?_; rintro e w2 ⟨rfl, b2⟩; have H2 := Lib.hid (geo_next H1.out b2); clear b2)
            | (go_at_call 101; refine (HC.out _ H2.out).mono ?_; rintro e w3 ⟨rfl, b3⟩; have H3 := Lib.hid (geo_next H2.out b3); clear b3))
          all_goals go_ret2
          all_goals exact ⟨rfl, HK.out.below H3.out, HGo.of_below HLe.out H3.out⟩
        · rw [decide_eq_true (show a ≠ 0 from a0), Bool.true_and] at q3
          cases q4 : inB h (hSp W) a with
          | true =>
            rw [q4] at HI
            clear q3 q4
            generalize (lk h l W a).1 = t at *
            generalize hSp W = x0 at *
            generalize hFr W = x1 at *
            generalize hGc W = x2 at *
            generalize hSc W = x3 at *
            go_enter Tryz.func59, Tryz.ntmps59
            go_wp2_with (first
              | (go_at_call 56; refine HR.out.mono ?_; rintro e w1 ⟨rfl, b1⟩; have H1 := Lib.hid b1; clear b1)
              | (go_at_call 107; refine (HLk.out _ H1.out).mono ?_; rintro e w2 ⟨rfl, b2⟩; have H2 := Lib.hid (geo_next H1.out b2); clear b2)
              | (go_at_call 101; refine (HC.out _ H2.out).mono ?_; rintro e w3 ⟨rfl, b3⟩; have H3 := Lib.hid (geo_next H2.out b3); clear b3)
              | (go_at_call 108; refine (HI.out _ H3.out).mono ?_; rintro e w4 ⟨rfl, b4⟩; have H4 := Lib.hid (geo_next H3.out b4); clear b4))
            all_goals go_ret2
            all_goals exact ⟨rfl, HK.out.below H4.out, HGo.of_below HLe.out H4.out⟩
          | false =>
            rw [q4] at HI q3
            have q5 : ((lk h l W a).1 == a) = false := by simpa using q3
            have q6 : ((lk h l W a).1 != a) = true := by simpa using q3
            have q7 : (a == 0 || (lk h l W a).1 != a) = true := by rw [q6, Bool.or_true]
            clear q3 q4
            generalize (lk h l W a).1 = t at *
            generalize hSp W = x0 at *
            generalize hFr W = x1 at *
            generalize hGc W = x2 at *
            generalize hSc W = x3 at *
            go_enter Tryz.func59, Tryz.ntmps59
            go_wp2_with (first
              | (go_at_call 56; refine HR.out.mono ?_; rintro e w1 ⟨rfl, b1⟩; have H1 := Lib.hid b1; clear b1)
              | (go_at_call 107; refine (HLk.out _ H1.out).mono ?_; rintro e w2 ⟨rfl, b2⟩; have H2 := Lib.hid (geo_next H1.out b2); clear b2)
              | (go_at_call 101; refine (HC.out _ H2.out).mono ?_; rintro e w3 ⟨rfl, b3⟩; have H3 := Lib.hid (geo_next H2.out b3); clear b3)
              | (go_at_call 108; refine (HI.out _ H3.out).mono ?_; rintro e w4 ⟨rfl, b4⟩; have H4 := Lib.hid (geo_next H3.out b4); clear b4))
            all_goals go_ret2
            all_goals exact ⟨rfl, HK.out.below H4.out, HGo.of_below HLe.out H4.out⟩
      | true =>
        obtain ⟨_, _, a0, q4, q5⟩ := folM_yes q3
        obtain ⟨n, rfl, m1, m2, m3, m4, m5⟩ := folM_at q3
        have HL := Lib.hid (fun u (y : Below w.heap.size w u) => rleft_is (k.below y) q1)
        have HP := Lib.hid (rparse_is (W.getD n 0))
        have hsz : folZ W (n : Int) = 1 + prS (W.getD n 0) + prW (W.getD n 0) := by rw [folZ, Int.toNat_natCast]
        have hp := shOk_yes (pr_range (W.getD n 0))
        have hmm : hSp W * h + (1 - hSp W) * h = h := by rw [Int.sub_mul, Int.one_mul]; omega
        have hmm2 : 0 ≤ (1 - hSp W) * h := by rcases f2 with e | e <;> rw [e] <;> omega
        have hn16 : 16 ≤ n := by omega
        have hnl : n < W.length := by omega
        have hnli : (n : Int) < (W.length : Int) := by omega
        have hle := k.le
        have HD := Lib.hid (fun u (y : Below w.heap.size w u) => (show u.cell? ⟨b, 2, none⟩ = some (.slice (some ⟨g, 0, none⟩) W.length c) ∧ u.cell? ⟨g, n, none⟩ = some (.int .i64 (W.getD n 0)) from ⟨(k.below y).cs.2.2, ((k.below y).at hnl).1⟩))
        rw [q4] at HI
        rw [q2, q5] at HLk
        rw [m3] at HP
        by_cases room : 16 + hSp W * h + h - hFr W < folZ W (n : Int)
        · have eE : folE h l W n = 6 := by rw [folE, if_neg n1, if_neg n2, if_pos ⟨q3, room⟩]
          rw [folV, folW, eE, if_neg (by decide), if_neg (by simp)]
          rw [hsz] at room
          clear k q1 q2 q3 q4 q5 n1 n2 hWl hr eE f1 f2 f4 hq hm m1 m2 m3 m4 m5 hsz hmm hmm2
          generalize 16 + hSp W * h + h - hFr W = left at *
          generalize hSp W = x0 at *
          generalize hFr W = x1 at *
          generalize hGc W = x2 at *
          generalize hSc W = x3 at *
          generalize prS (W.getD n 0) = ps at *
          generalize prW (W.getD n 0) = pw at *
          generalize W.getD n 0 = v at *
          obtain ⟨p0, p1, p2, p3⟩ := hp
          go_enter Tryz.func59, Tryz.ntmps59
          go_wp2_with (first
            | (go_at_call 56; refine HR.out.mono ?_; rintro e w1 ⟨rfl, b1⟩; have H1 := Lib.hid b1; clear b1)
            | (go_at_call 107; refine (HLk.out _ H1.out).mono ?_; rintro e w2 ⟨rfl, b2⟩; have H2 := Lib.hid (geo_next H1.out b2); clear b2)
            | (go_at_call 101; refine (HC.out _ H2.out).mono ?_; rintro e w3 ⟨rfl, b3⟩; have H3 := Lib.hid (geo_next H2.out b3); clear b3)
            | (go_at_call 108; refine (HI.out _ H3.out).mono ?_; rintro e w4 ⟨rfl, b4⟩; have H4 := Lib.hid (geo_next H3.out b4); clear b4; obtain ⟨d0, d1⟩ := HD.out _ H4.out)
            | (go_at_call 61; refine (HP.out _).mono ?_; rintro e w' ⟨rfl, hw⟩; obtain rfl : w4 = w' := hw.symm)
            | (go_at_call 71; refine (HL.out _ H4.out).mono ?_; rintro e w5 ⟨rfl, b5⟩; have H5 := Lib.hid (geo_next H4.out b5); clear b5))
          all_goals go_ret2
          all_goals exact ⟨rfl, HK.out.below H5.out, HGo.of_below HLe.out H5.out⟩
        · have eE : folE h l W n = 0 := by rw [folE, if_neg n1, if_neg n2, if_neg (fun z => room z.2)]
          rw [folV, folW, eE, if_pos rfl, if_pos q3, if_pos ⟨rfl, q3⟩, Int.toNat_natCast]
          rw [hsz] at room ⊢
          obtain ⟨z, hz⟩ := Int.eq_ofNat_of_zero_le (show 0 ≤ 1 + prS (W.getD n 0) + prW (W.getD n 0) by omega)
          obtain ⟨f, hf⟩ := Int.eq_ofNat_of_zero_le (show 0 ≤ hFr W by omega)
          have hz1 : 1 ≤ z := by omega
          have hzn : n + z ≤ W.length := by omega
          have hfz : f + z ≤ W.length := by omega
          have hf16 : 16 ≤ f := by omega
          have room' : ¬ (16 + hSp W * h + h - (f : Int) < (z : Int)) := by omega
          rw [hf] at HL HC
          rw [hf, hz, Int.toNat_natCast, Int.toNat_natCast]
          have hcl : ∀ j, (cpfill W n f j).length = W.length := fun j => cpfill_len W n f j
          have HZ := Lib.hid hcl
          obtain ⟨p0, p1, p2, p3⟩ := hp
          have hpw : 1 + prS (W.getD n 0) + prW (W.getD n 0) = (z : Int) := hz
          clear k q1 q2 q3 q4 q5 n1 n2 hWl hr eE f1 f2 f4 hq hm m1 m2 m3 m4 m5 hsz hmm hmm2 room hz hf hcl
          generalize 16 + hSp W * h + h - (f : Int) = left at *
          generalize hSp W = x0 at *
          generalize hGc W = x2 at *
          generalize hSc W = x3 at *
          generalize prS (W.getD n 0) = ps at *
          generalize prW (W.getD n 0) = pw at *
          generalize W.getD n 0 = v at *
          go_enter Tryz.func59, Tryz.ntmps59
          go_wp2_with (first
            | (go_at_call 56; refine HR.out.mono ?_; rintro e w1 ⟨rfl, b1⟩; have H1 := Lib.hid b1; clear b1)
            | (go_at_call 107; refine (HLk.out _ H1.out).mono ?_; rintro e w2 ⟨rfl, b2⟩; have H2 := Lib.hid (geo_next H1.out b2); clear b2)
            | (go_at_call 101; refine (HC.out _ H2.out).mono ?_; rintro e w3 ⟨rfl, b3⟩; have H3 := Lib.hid (geo_next H2.out b3); clear b3)
            | (go_at_call 108; refine (HI.out _ H3.out).mono ?_; rintro e w4 ⟨rfl, b4⟩; have H4 := Lib.hid (geo_next H3.out b4); clear b4; obtain ⟨d0, d1⟩ := HD.out _ H4.out)
            | (go_at_call 61; refine (HP.out _).mono ?_; rintro e w' ⟨rfl, hw⟩; obtain rfl : w4 = w' := hw.symm)
            | (go_at_call 71; clear d0 d1; refine (HL.out _ H4.out).mono ?_; rintro e w5 ⟨rfl, b5⟩; have b05 := geo_next H4.out b5; have H5 := Lib.hid (And.intro (HK.out.below b05) (HGo.of_below (g := g) HLe.out b05)); clear b5 b05))
          go_loopw [16] (fun i wr => ∃ j : Nat, j ≤ z ∧ i = .int .i64 (j : Int) ∧ HIs B wr b h l (cpfill W n f j) g c ∧ HGo B g w wr) (fun i _ => z - (intOf i).toNat)
          case atStart => exact ⟨0, Nat.zero_le _, rfl, H5.out.1, H5.out.2⟩
          case round =>
            obtain ⟨j, hj, rfl, hk, hgo⟩ := hrel
            by_cases hlt : j < z
            · have e2 := hk.cs.2.2
              rw [HZ.out j] at e2
              have e3 := (hk.at (i := n + j) (by rw [HZ.out j]; omega)).1
              obtain ⟨e4, e5⟩ := (hk.at (i := f + j) (by rw [HZ.out j]; omega))
              have hi1 : (j : Int) < (z : Int) := by omega
              have y1 : IntKind.i64.wrap ((n : Int) + (j : Int)) = (n : Int) + (j : Int) := by rw [IntKind.wrap_i64]; omega
              have y2 : IntKind.i64.wrap ((f : Int) + (j : Int)) = (f : Int) + (j : Int) := by rw [IntKind.wrap_i64]; omega
              have y3 : (n : Int) + (j : Int) < (W.length : Int) := by omega
              have y4 : (f : Int) + (j : Int) < (W.length : Int) := by omega
              have y5 : (0 : Int) ≤ (n : Int) + (j : Int) := by omega
              have y6 : (0 : Int) ≤ (f : Int) + (j : Int) := by omega
              have t3 : ((n : Int) + (j : Int)).toNat = n + j := by omega
              have t4 : ((f : Int) + (j : Int)).toNat = f + j := by omega
              have HR := Lib.hid (And.intro hk hgo)
              clear hk hgo
              generalize (cpfill W n f j).getD (f + j) 0 = old at *
              obtain ⟨v2, hv2⟩ : ∃ v2, v2 = (cpfill W n f j).getD (n + j) 0 := ⟨_, rfl⟩
              rw [← hv2] at e3
              have HV := Lib.hid hv2
              clear hv2
              go_wp2_with fail
              go_region
              all_goals
                go_wp2_with fail
                refine ⟨⟨j + 1, by omega, by go_num, ?_, ?_⟩, by simp [intOf]; omega⟩
                · rw [HV.out]
                  exact (HR.out.1.set (f + j) _).drew
                · exact (HR.out.2.trans (HGo.set HR.out.1.glt.1 _ _)).drew
            · obtain rfl : j = z := by omega
              have e2 := hk.cs.2.2
              rw [HZ.out j] at e2
              obtain ⟨e3, e4⟩ := (hk.at (i := n) (by rw [HZ.out j]; omega))
              obtain ⟨e5, e6⟩ := (hk.at (i := 1) (by rw [HZ.out j]; omega))
              have hnl : ¬ (j : Int) < (j : Int) := by omega
              have y2 : (1 : Int) < (W.length : Int) := by omega
              have ya : n ≠ 1 := by omega
              have yg := hk.ne
              have HR := Lib.hid (And.intro hk hgo)
              clear hk hgo hlt hj
              go_wp2_with fail
              go_ret2
              refine ⟨rfl, ?_, (HR.out.2.trans (HGo.set HR.out.1.glt.1 _ _)).trans (HGo.set HR.out.1.glt.1 _ _)⟩
              exact (HR.out.1.set 1 _).set n _
end
end Go.Proofs.YtiiioeodanmieaaGreatDoor
-- HeapCell
namespace Go.Proofs.YtiiioeodanmieaaGreatDoor
open Go.RowKit Sec
open Go.Proofs.YtiiioeodanmieaaGreatDoor.Bk

def celE (h l : Int) (W : List Int) (k : Nat) : Int := folE h l W (W.getD k 0)
def celV (h l : Int) (W : List Int) (k : Nat) : Int := folV h l W (W.getD k 0)
def celW (h l : Int) (W : List Int) (k : Nat) : List Int := if celE h l W k = 0 then (folW h l W (W.getD k 0)).set k (celV h l W k) else W
theorem folW_len (h l : Int) (W : List Int) (a : Int) : (folW h l W a).length = W.length := by
  unfold folW
  split
  · rw [List.length_set, List.length_set, cpfill_len]
  · rfl
theorem celW_len (h l : Int) (W : List Int) (k : Nat) : (celW h l W k).length = W.length := by
  unfold celW
  split
  · rw [List.length_set, folW_len]
  · rfl
theorem folW_no {h l : Int} {W : List Int} {a : Int} (q : folE h l W a ≠ 0) : folW h l W a = W := if_neg (fun z => q z.1)
theorem folV_no {h l : Int} {W : List Int} {a : Int} (q : folE h l W a ≠ 0) : folV h l W a = 0 := if_neg q
def rootE (h l : Int) (W : List Int) (i : Int) : Int := if i < 0 ∨ 8 ≤ i then 8 else celE h l W (8 + i.toNat)
def rootV (h l : Int) (W : List Int) (i : Int) : Int := if i < 0 ∨ 8 ≤ i then 0 else celV h l W (8 + i.toNat)
def rootW (h l : Int) (W : List Int) (i : Int) : List Int := if i < 0 ∨ 8 ≤ i then W else celW h l W (8 + i.toNat)
def loadE (h l : Int) (W : List Int) (a i : Int) : Int := if shpE h l W a = 0 then (if i < 0 ∨ shpS h l W a ≤ i then 8 else celE h l W (a + 1 + i).toNat) else shpE h l W a
section
variable {B : Nat} {w w' : World} {b g c : Nat} {h l : Int} {W : List Int}
set_option maxRecDepth 100000 in
set_option maxHeartbeats 4000000 in
theorem rcell_is (k : HIs B w b h l W g c) (hWl : (W.length : Int) = 16 + 2 * h) (hr : Ints64 W) (m : Nat) (hm : m < W.length) : Calls Tryz.prog 58 #[.pointer (some ⟨b, 0, none⟩), .int .i64 (m : Int)] w fun e w' => e = .returned (.tuple #[.int .i64 (celV h l W m), .int .i64 (celE h l W m)]) ∧ HIs B w' b h l (celW h l W m) g c ∧ HGo B g w w' := by
  have HF := Lib.hid (rfollow_is k hWl hr (W.getD m 0))
  have c2 := k.cs.2.2
  have d1 := (k.at hm).1
  have hml : (m : Int) < (W.length : Int) := by omega
  have hle := k.le
  rw [celW]
  by_cases q : celE h l W m = 0
  · rw [if_pos q]
    have eE : folE h l W (W.getD m 0) = 0 := q
    rw [q]
    rw [eE] at HF
    have HN := Lib.hid (folW_len h l W (W.getD m 0))
    rw [show folV h l W (W.getD m 0) = celV h l W m from rfl] at HF
    clear k q eE hWl hr
    generalize celV h l W m = v at *
    generalize folW h l W (W.getD m 0) = V at *
    generalize W.getD m 0 = x at *
    go_enter Tryz.func58, Tryz.ntmps58
    go_wp2_with (go_at_call 59
                 refine HF.out.mono ?_
                 rintro e w1 ⟨rfl, k1, o1⟩
                 clear c2 d1
                 have c2 := k1.cs.2.2
                 rw [HN.out] at c2
                 obtain ⟨d1, d2⟩ := k1.at (i := m) (by rw [HN.out]; omega)
                 generalize V.getD m 0 = old at *
                 have H1 := Lib.hid (And.intro k1 o1)
                 clear k1 o1)
    all_goals go_ret2
    all_goals exact ⟨rfl, H1.out.1.set m v, H1.out.2.trans (HGo.set H1.out.1.glt.1 _ _)⟩
  · rw [if_neg q]
    have eE : folE h l W (W.getD m 0) ≠ 0 := q
    rw [folW_no eE] at HF
    rw [show folV h l W (W.getD m 0) = celV h l W m from rfl, show folE h l W (W.getD m 0) = celE h l W m from rfl] at HF
    clear k eE hWl hr
    generalize celV h l W m = v at *
    generalize celE h l W m = ee at *
    generalize W.getD m 0 = x at *
    go_enter Tryz.func58, Tryz.ntmps58
    go_wp2_with (go_at_call 59
                 refine HF.out.mono ?_
                 rintro e w1 ⟨rfl, k1, o1⟩
                 have H1 := Lib.hid (And.intro k1 o1)
                 clear k1 o1)
    all_goals go_ret2
    all_goals exact ⟨rfl, H1.out.1, H1.out.2⟩
set_option maxRecDepth 100000 in
set_option maxHeartbeats 4000000 in
theorem rroot_is (k : HIs B w b h l W g c) (hWl : (W.length : Int) = 16 + 2 * h) (hr : Ints64 W) (i : Int) : Calls Tryz.prog 24 #[.pointer (some ⟨b, 0, none⟩), .int .i64 i] w fun e w' => e = .returned (.tuple #[.int .i64 (rootV h l W i), .int .i64 (rootE h l W i)]) ∧ HIs B w' b h l (rootW h l W i) g c ∧ HGo B g w w' := by
  have HK := Lib.hid k
  have HLe := Lib.hid k.le'
  by_cases r : i < 0 ∨ 8 ≤ i
  · rw [rootV, rootE, rootW, if_pos r, if_pos r, if_pos r]
    have HB := Lib.hid (Below.refl w.heap.size w)
    clear k hWl hr
    rcases r with r | r
    · go_enter Tryz.func24, Tryz.ntmps24
      go_wp2
      all_goals go_ret2
      all_goals exact ⟨rfl, HK.out, HGo.of_below HLe.out HB.out⟩
    · have r0 : ¬ i < 0 := by omega
      go_enter Tryz.func24, Tryz.ntmps24
      go_wp2
      all_goals go_ret2
      all_goals exact ⟨rfl, HK.out, HGo.of_below HLe.out HB.out⟩
  · rw [rootV, rootE, rootW, if_neg r, if_neg r, if_neg r]
    obtain ⟨m, rfl⟩ := Int.eq_ofNat_of_zero_le (show 0 ≤ i by omega)
    rw [Int.toNat_natCast]
    have hm8 : m < 8 := by omega
    have hge := k.ge
    have HC := Lib.hid (rcell_is k hWl hr (8 + m) (by omega))
    rw [show ((8 + m : Nat) : Int) = 8 + (m : Int) by omega] at HC
    have r0 : ¬ (m : Int) < 0 := by omega
    have r1 : ¬ 8 ≤ (m : Int) := by omega
    have hw : wrap64 (8 + (m : Int)) = 8 + (m : Int) := by unfold wrap64; omega
    clear k hWl hr r hge
    generalize celV h l W (8 + m) = v at *
    generalize celE h l W (8 + m) = ee at *
    generalize celW h l W (8 + m) = V at *
    go_enter Tryz.func24, Tryz.ntmps24
    go_wp2_with (go_at_call 58
                 refine HC.out.mono ?_
                 rintro e w1 ⟨rfl, k1, o1⟩
                 have H1 := Lib.hid (And.intro k1 o1)
                 clear k1 o1)
    all_goals go_ret2
    all_goals exact ⟨rfl, H1.out.1, H1.out.2⟩
end
end Go.Proofs.YtiiioeodanmieaaGreatDoor
-- HeapObjs
namespace Go.Proofs.YtiiioeodanmieaaGreatDoor
open Go.RowKit Sec
open Go.Proofs.YtiiioeodanmieaaGreatDoor.Bk

section
variable {B : Nat} {w w' : World} {b g c : Nat} {h l : Int} {W : List Int}
end
end Go.Proofs.YtiiioeodanmieaaGreatDoor
