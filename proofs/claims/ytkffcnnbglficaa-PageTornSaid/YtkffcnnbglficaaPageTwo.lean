/- PageTwo's walk. -/
import Derived.Test.YtkffcnnbglficaaPageAlive
namespace Go.Proofs.Ytkffcnnbglficaa
open Go.RowKit
open Go.Proofs.Ytkffcnnbglficaa.Bk

theorem beq_str_no {a b : ByteArray} (h : a ≠ b) : (a.toList == b.toList) = false := ne_str h
theorem parts3 {s t : ByteArray} (hs : s.size = 96) (ht : t.size = 96) : s = t ↔ part s 0 = part t 0 ∧ part s 1 = part t 1 ∧ part s 2 = part t 2 := by
  rw [← parts_eq hs ht, parts, parts]
  simp
theorem at_put {no v m u : Int} {cs : List Int} (h : pgOk no v cs = true) : atIs m u (pgL no v cs) = decide (no = m ∧ v = u) := by
  obtain ⟨h1, h2, h3, _⟩ := get_put h
  unfold atIs
  rw [h1, h2, h3]
  simp
theorem two_iff {no v m u : Int} {ca cb : List Int} (h : pgOk no v ca = true) (h' : pgOk m u cb = true) :
    ((no = m ∧ v = u) ∧ ca = cb) ↔ (part (pgB no v ca) 0 = part (pgB m u cb) 0 ∧ part (pgB no v ca) 1 = part (pgB m u cb) 1 ∧ part (pgB no v ca) 2 = part (pgB m u cb) 2) := by
  rw [← parts3 (pgB_size _ _ _ (pg_any h).2) (pgB_size _ _ _ (pg_any h').2), pg_two h h']
  exact ⟨fun q => ⟨q.1.1, q.1.2, q.2⟩, fun q => ⟨⟨q.1, q.2.1⟩, q.2.2⟩⟩
theorem take_ne {α : Type} {l1 l2 : List α} {k : Nat} (h1 : k < l1.length) (h2 : k < l2.length) (e : l1[k] ≠ l2[k]) : l1.take (k + 1) ≠ l2.take (k + 1) := fun q => by
  have : (l1.take (k + 1))[k]? = (l2.take (k + 1))[k]? := by rw [q]
  simp [h1, h2] at this
  exact e this
/-- What the law's loop holds: so far all are the same. -/
def SoFar (s : Prop) (l1 l2 : List Int) (k : Nat) (t : Bool) : Prop := t = true ↔ (s ∧ l1.take k = l2.take k)
theorem SoFar.yes {s : Prop} {l1 l2 : List Int} {k : Nat} (h : SoFar s l1 l2 k true) (h1 : k < l1.length) (h2 : k < l2.length) : SoFar s l1 l2 (k + 1) (l1[k] == l2[k]) := by
  obtain ⟨hs, ht⟩ := h.1 rfl
  rw [SoFar, beq_iff_eq]
  exact ⟨fun e => ⟨hs, take_next ht h1 h2 e⟩, fun q => Decidable.not_not.1 (fun e => take_ne h1 h2 e q.2)⟩
theorem SoFar.no {s : Prop} {l1 l2 : List Int} {k : Nat} (h : SoFar s l1 l2 k false) (_h1 : k < l1.length) (_h2 : k < l2.length) : SoFar s l1 l2 (k + 1) false := by
  refine ⟨fun q => (by cases q), fun q => ?_⟩
  have e : l1.take k = l2.take k := by
    have := congrArg (List.take k) q.2
    rwa [List.take_take, List.take_take, Nat.min_eq_left (by omega)] at this
  exact absurd (h.2 ⟨q.1, e⟩) (by decide)

theorem SoFar.zero {s : Prop} [Decidable s] {l1 l2 : List Int} {t : Bool} (h : decide s = t) : SoFar s l1 l2 0 t := by
  rw [SoFar, ← h]
  simp
theorem lies_int {w : World} {g : Nat} {l : List Int} (h : LiesAt w (some ⟨g, 0, none⟩) (vals l)) {k : Nat} (hk : k < l.length) : w.cell? ⟨g, k, none⟩ = some (.int .i64 l[k]) := by
  obtain ⟨b, hb, _, e⟩ := h.at_ (val_at hk)
  obtain rfl : (⟨g, 0, none⟩ : Addr) = b := by simpa using hb
  rwa [Addr.add_mid, Nat.zero_add] at e
theorem drew_below (w : World) (n : Nat) : Below w.heap.size w (w.drewN n) := bel_drewN (Below.refl _ _) n

theorem RowAt.drew {w : World} {g o : Nat} {l : List ByteArray} (h : RowAt w g o l) (n : Nat) : RowAt (w.drewN n) g o l := LiesAt.below h (drew_below _ _)
theorem eq_str {a b : ByteArray} (h : a = b) : (a.toList == b.toList) = true := by rw [h]; exact beq_self_eq_true _
theorem ends {t : Bool} {a b c : Prop} (h : t = true ↔ (a ∧ b ∧ c)) : (¬ a ∧ t = false) ∨ (a ∧ ¬ b ∧ t = false) ∨ (a ∧ b ∧ ¬ c ∧ t = false) ∨ (a ∧ b ∧ c ∧ t = true) := by
  cases t
  · by_cases ha : a
    · by_cases hb : b
      · exact .inr (.inr (.inl ⟨ha, hb, fun hc => absurd (h.2 ⟨ha, hb, hc⟩) (by decide), rfl⟩))
      · exact .inr (.inl ⟨ha, hb, rfl⟩)
    · exact .inl ⟨ha, rfl⟩
  · obtain ⟨ha, hb, hc⟩ := h.1 rfl
    exact .inr (.inr (.inr ⟨ha, hb, hc, rfl⟩))

set_option maxRecDepth 100000 in
set_option maxHeartbeats 4000000 in
theorem Two_ok1 (no v m u : Int) (h1 : (no == m) = false) (a b : Option Addr) (la lb : List Int) (c1 c2 : Nat) (w : World) (ha : LiesAt w a (vals la)) (hb : LiesAt w b (vals lb)) (ok1 : pgOk no v (padL la) = true) (ok2 : pgOk m u (padL lb) = true) :
    Calls Try.prog 4 #[.int .i64 no, .int .i64 v, .int .i64 m, .int .i64 u, .slice a la.length c1, .slice b lb.length c2] w fun e w' => e = .returned (.bool true) ∧ Below w.heap.size w w' := by
  have hB : Hid (Below w.heap.size w w) := Lib.hid (Below.refl _ _)
  have HA := Lib.hid (fun z => alive_is z)
  have HSA := Lib.hid (fun z (q : Below w.heap.size w z) => sixteen_is a la c1 z (ha.below q))
  have HSB := Lib.hid (fun z (q : Below w.heap.size w z) => sixteen_is b lb c2 z (hb.below q))
  have L1 := Lib.hid (padL_len la)
  have L2 := Lib.hid (padL_len lb)
  have HP1 := Lib.hid (fun (g c : Nat) z (q : LiesAt z (some ⟨g, 0, none⟩) (vals (padL la))) => pput_is no v _ (padL la) c z q (by rw [L1.out]; unfold maxLen; omega))
  have HP2 := Lib.hid (fun (g c : Nat) z (q : LiesAt z (some ⟨g, 0, none⟩) (vals (padL lb))) => pput_is m u _ (padL lb) c z q (by rw [L2.out]; unfold maxLen; omega))
  have hs : decide (no = m ∧ v = u) = false := by
    simp at *
    omega
  have HX := Lib.hid (two_iff ok1 ok2)
  have HAT := Lib.hid (fun (g c : Nat) z (q : RowAt z g 0 (parts (pgB no v (padL la)))) (hc : 3 ≤ c) => pat3 m u g 0 _ c z q rfl hc)
  rw [ok1, L1.out, pgL_yes ok1] at HP1
  rw [ok2, L2.out, pgL_yes ok2] at HP2
  rw [← pgL_yes ok1, at_put ok1, hs, pgL_yes ok1] at HAT
  have HS := Lib.hid hs
  clear ok1 ok2 hs ha hb
  rw [parts] at HP1 HP2 HAT
  generalize atC m u _ = ac at HAT
  generalize pgB no v (padL la) = s at *
  generalize pgB m u (padL lb) = t at *
  generalize part s 0 = p0 at *
  generalize part s 1 = p1 at *
  generalize part s 2 = p2 at *
  generalize part t 0 = q0 at *
  generalize part t 1 = q1 at *
  generalize part t 2 = q2 at *
  generalize padL la = ca at *
  generalize padL lb = cb at *
  go_enter Try.func4, Try.ntmps4
  go_wp2_with (first
    | (go_at_call 5
       with_reducible refine (HSA.out _ hB.out).mono ?_
       rintro e w1 ⟨x, rfl, b1, o1⟩
       obtain ⟨g1, d1, rfl, l1⟩ := own_some o1 (show 0 < 16 by omega)
       have HRA := Lib.hid l1
       replace hB := Lib.hid (below_next hB.out b1)
       clear b1 o1 l1)
    | (go_at_call 5
       with_reducible refine (HSB.out _ hB.out).mono ?_
       rintro e w1 ⟨x, rfl, b1, o1⟩
       obtain ⟨g2, d2, rfl, l1⟩ := own_some o1 (show 0 < 16 by omega)
       have HRB := Lib.hid l1
       replace HRA := Lib.hid (LiesAt.below HRA.out b1)
       replace hB := Lib.hid (below_next hB.out b1)
       clear b1 o1 l1)
    | (go_at_call 7
       with_reducible refine (HP1.out _ _ _ HRA.out).mono ?_
       rintro e w1 ⟨x, rfl, b1, o1⟩
       obtain ⟨g3, d3, rfl, hc, l1⟩ := own_somec o1 (show 0 < 3 by omega)
       have HRX := Lib.hid (And.intro hc (show RowAt _ g3 0 [p0, p1, p2] from l1))
       replace HRA := Lib.hid (LiesAt.below HRA.out b1)
       replace HRB := Lib.hid (LiesAt.below HRB.out b1)
       replace hB := Lib.hid (below_next hB.out b1)
       clear b1 o1 l1 hc)
    | (go_at_call 7
       with_reducible refine (HP2.out _ _ _ HRB.out).mono ?_
       rintro e w1 ⟨x, rfl, b1, o1⟩
       obtain ⟨g4, d4, rfl, l1⟩ := own_some o1 (show 0 < 3 by omega)
       have HRY := Lib.hid (show RowAt _ g4 0 [q0, q1, q2] from l1)
       replace HRA := Lib.hid (LiesAt.below HRA.out b1)
       replace HRB := Lib.hid (LiesAt.below HRB.out b1)
       replace HRX := Lib.hid (And.intro HRX.out.1 (show RowAt _ g3 0 [p0, p1, p2] from LiesAt.below HRX.out.2 b1))
       replace hB := Lib.hid (below_next hB.out b1)
       clear b1 o1 l1)
    | (go_at_call 6
       refine (HA.out _).mono ?_
       rintro e w1 ⟨rfl, b1⟩
       replace HRA := Lib.hid (LiesAt.below HRA.out b1)
       replace HRB := Lib.hid (LiesAt.below HRB.out b1)
       replace HRX := Lib.hid (And.intro HRX.out.1 (show RowAt _ g3 0 [p0, p1, p2] from LiesAt.below HRX.out.2 b1))
       replace HRY := Lib.hid (show RowAt _ g4 0 [q0, q1, q2] from LiesAt.below HRY.out b1)
       replace hB := Lib.hid (below_next hB.out b1)
       clear b1))
  go_loopw [17, 18] (fun tv i wr => ∃ (k n : Nat) (tb : Bool), k ≤ 16 ∧ i = .int .i64 (k : Int) ∧ tv = .bool tb ∧ wr = w1.drewN n ∧ Hid (SoFar (no = m ∧ v = u) ca cb k tb)) (fun _ i _ => 16 - (intOf i).toNat)
  case atStart => exact ⟨0, 0, false, Nat.zero_le _, rfl, rfl, rfl, Lib.hid (SoFar.zero HS.out)⟩
  case round =>
    obtain ⟨k, n, tb, hk, rfl, rfl, rfl, HF⟩ := hrel
    by_cases hlt : k < 16
    · have hi1 : (k : Int) < 16 := by omega
      have l1 : k < ca.length := by rw [L1.out]; exact hlt
      have l2 : k < cb.length := by rw [L2.out]; exact hlt
      have e1 := lies_int HRA.out l1
      have e2 := lies_int HRB.out l2
      cases tb with
      | true =>
        have HN := Lib.hid (HF.out.yes l1 l2)
        generalize ca[k] = x at *
        generalize cb[k] = y at *
        clear l1 l2
        go_wp2_with fail
        go_quiet (fail)
        go_wp2
        exact ⟨⟨k + 1, _, _, by omega, by go_num, rfl, rfl, HN⟩, by simp [intOf]; omega⟩
      | false =>
        have HN := Lib.hid (HF.out.no l1 l2)
        clear e1 e2 l1 l2
        go_wp2_with fail
        go_quiet (fail)
        go_wp2
        exact ⟨⟨k + 1, _, _, by omega, by go_num, rfl, rfl, HN⟩, by simp [intOf]; omega⟩
    · obtain rfl : k = 16 := by omega
      have HE := HF.out
      rw [SoFar, List.take_of_length_le (by rw [L1.out]; omega), List.take_of_length_le (by rw [L2.out]; omega), HX.out] at HE
      obtain ⟨r0, r1, r2⟩ := row3 HRX.out.2
      obtain ⟨s0, s1, s2⟩ := row3 HRY.out
      rw [Nat.zero_add] at r1 r2 s1 s2
      clear hk hlt HF
      rcases ends HE with ⟨x0, rfl⟩ | ⟨x0, x1, rfl⟩ | ⟨x0, x1, x2, rfl⟩ | ⟨x0, x1, x2, rfl⟩
      · have y0 := ne_str x0
        clear x0 HE HX
        go_wp2_with fail
        go_quiet (fail)
        go_wp2_with (go_at_call 11; refine (HAT.out _ _ _ (HRX.out.2.drew _) HRX.out.1).mono ?_; rintro e w2 ⟨x, rfl, b1, _⟩; replace hB := Lib.hid (below_next (bel_drewN hB.out _) b1); clear b1)
        go_ret
        exact ⟨rfl, hB.out⟩
      · have y0 := eq_str x0
        have y1 := ne_str x1
        clear x0 x1 HE HX
        go_wp2_with fail
        go_quiet (fail)
        go_wp2_with (go_at_call 11; refine (HAT.out _ _ _ (HRX.out.2.drew _) HRX.out.1).mono ?_; rintro e w2 ⟨x, rfl, b1, _⟩; replace hB := Lib.hid (below_next (bel_drewN hB.out _) b1); clear b1)
        go_ret
        exact ⟨rfl, hB.out⟩
      · have y0 := eq_str x0
        have y1 := eq_str x1
        have y2 := ne_str x2
        clear x0 x1 x2 HE HX
        go_wp2_with fail
        go_quiet (fail)
        go_wp2_with (go_at_call 11; refine (HAT.out _ _ _ (HRX.out.2.drew _) HRX.out.1).mono ?_; rintro e w2 ⟨x, rfl, b1, _⟩; replace hB := Lib.hid (below_next (bel_drewN hB.out _) b1); clear b1)
        go_ret
        exact ⟨rfl, hB.out⟩
      · have y0 := eq_str x0
        have y1 := eq_str x1
        have y2 := eq_str x2
        clear x0 x1 x2 HE HX
        go_wp2_with fail
        go_quiet (fail)
        go_wp2_with (go_at_call 11; refine (HAT.out _ _ _ (HRX.out.2.drew _) HRX.out.1).mono ?_; rintro e w2 ⟨x, rfl, b1, _⟩; replace hB := Lib.hid (below_next (bel_drewN hB.out _) b1); clear b1)
        go_ret
        exact ⟨rfl, hB.out⟩
set_option maxRecDepth 100000 in
set_option maxHeartbeats 4000000 in
theorem Two_ok2 (no v m u : Int) (h1 : (no == m) = true) (h2 : (v == u) = false) (a b : Option Addr) (la lb : List Int) (c1 c2 : Nat) (w : World) (ha : LiesAt w a (vals la)) (hb : LiesAt w b (vals lb)) (ok1 : pgOk no v (padL la) = true) (ok2 : pgOk m u (padL lb) = true) :
    Calls Try.prog 4 #[.int .i64 no, .int .i64 v, .int .i64 m, .int .i64 u, .slice a la.length c1, .slice b lb.length c2] w fun e w' => e = .returned (.bool true) ∧ Below w.heap.size w w' := by
  have hB : Hid (Below w.heap.size w w) := Lib.hid (Below.refl _ _)
  have HA := Lib.hid (fun z => alive_is z)
  have HSA := Lib.hid (fun z (q : Below w.heap.size w z) => sixteen_is a la c1 z (ha.below q))
  have HSB := Lib.hid (fun z (q : Below w.heap.size w z) => sixteen_is b lb c2 z (hb.below q))
  have L1 := Lib.hid (padL_len la)
  have L2 := Lib.hid (padL_len lb)
  have HP1 := Lib.hid (fun (g c : Nat) z (q : LiesAt z (some ⟨g, 0, none⟩) (vals (padL la))) => pput_is no v _ (padL la) c z q (by rw [L1.out]; unfold maxLen; omega))
  have HP2 := Lib.hid (fun (g c : Nat) z (q : LiesAt z (some ⟨g, 0, none⟩) (vals (padL lb))) => pput_is m u _ (padL lb) c z q (by rw [L2.out]; unfold maxLen; omega))
  have hs : decide (no = m ∧ v = u) = false := by
    simp at *
    omega
  have HX := Lib.hid (two_iff ok1 ok2)
  have HAT := Lib.hid (fun (g c : Nat) z (q : RowAt z g 0 (parts (pgB no v (padL la)))) (hc : 3 ≤ c) => pat3 m u g 0 _ c z q rfl hc)
  rw [ok1, L1.out, pgL_yes ok1] at HP1
  rw [ok2, L2.out, pgL_yes ok2] at HP2
  rw [← pgL_yes ok1, at_put ok1, hs, pgL_yes ok1] at HAT
  have HS := Lib.hid hs
  clear ok1 ok2 hs ha hb
  rw [parts] at HP1 HP2 HAT
  generalize atC m u _ = ac at HAT
  generalize pgB no v (padL la) = s at *
  generalize pgB m u (padL lb) = t at *
  generalize part s 0 = p0 at *
  generalize part s 1 = p1 at *
  generalize part s 2 = p2 at *
  generalize part t 0 = q0 at *
  generalize part t 1 = q1 at *
  generalize part t 2 = q2 at *
  generalize padL la = ca at *
  generalize padL lb = cb at *
  go_enter Try.func4, Try.ntmps4
  go_wp2_with (first
    | (go_at_call 5
       with_reducible refine (HSA.out _ hB.out).mono ?_
       rintro e w1 ⟨x, rfl, b1, o1⟩
       obtain ⟨g1, d1, rfl, l1⟩ := own_some o1 (show 0 < 16 by omega)
       have HRA := Lib.hid l1
       replace hB := Lib.hid (below_next hB.out b1)
       clear b1 o1 l1)
    | (go_at_call 5
       with_reducible refine (HSB.out _ hB.out).mono ?_
       rintro e w1 ⟨x, rfl, b1, o1⟩
       obtain ⟨g2, d2, rfl, l1⟩ := own_some o1 (show 0 < 16 by omega)
       have HRB := Lib.hid l1
       replace HRA := Lib.hid (LiesAt.below HRA.out b1)
       replace hB := Lib.hid (below_next hB.out b1)
       clear b1 o1 l1)
    | (go_at_call 7
       with_reducible refine (HP1.out _ _ _ HRA.out).mono ?_
       rintro e w1 ⟨x, rfl, b1, o1⟩
       obtain ⟨g3, d3, rfl, hc, l1⟩ := own_somec o1 (show 0 < 3 by omega)
       have HRX := Lib.hid (And.intro hc (show RowAt _ g3 0 [p0, p1, p2] from l1))
       replace HRA := Lib.hid (LiesAt.below HRA.out b1)
       replace HRB := Lib.hid (LiesAt.below HRB.out b1)
       replace hB := Lib.hid (below_next hB.out b1)
       clear b1 o1 l1 hc)
    | (go_at_call 7
       with_reducible refine (HP2.out _ _ _ HRB.out).mono ?_
       rintro e w1 ⟨x, rfl, b1, o1⟩
       obtain ⟨g4, d4, rfl, l1⟩ := own_some o1 (show 0 < 3 by omega)
       have HRY := Lib.hid (show RowAt _ g4 0 [q0, q1, q2] from l1)
       replace HRA := Lib.hid (LiesAt.below HRA.out b1)
       replace HRB := Lib.hid (LiesAt.below HRB.out b1)
       replace HRX := Lib.hid (And.intro HRX.out.1 (show RowAt _ g3 0 [p0, p1, p2] from LiesAt.below HRX.out.2 b1))
       replace hB := Lib.hid (below_next hB.out b1)
       clear b1 o1 l1)
    | (go_at_call 6
       refine (HA.out _).mono ?_
       rintro e w1 ⟨rfl, b1⟩
       replace HRA := Lib.hid (LiesAt.below HRA.out b1)
       replace HRB := Lib.hid (LiesAt.below HRB.out b1)
       replace HRX := Lib.hid (And.intro HRX.out.1 (show RowAt _ g3 0 [p0, p1, p2] from LiesAt.below HRX.out.2 b1))
       replace HRY := Lib.hid (show RowAt _ g4 0 [q0, q1, q2] from LiesAt.below HRY.out b1)
       replace hB := Lib.hid (below_next hB.out b1)
       clear b1))
  go_loopw [17, 18] (fun tv i wr => ∃ (k n : Nat) (tb : Bool), k ≤ 16 ∧ i = .int .i64 (k : Int) ∧ tv = .bool tb ∧ wr = w1.drewN n ∧ Hid (SoFar (no = m ∧ v = u) ca cb k tb)) (fun _ i _ => 16 - (intOf i).toNat)
  case atStart => exact ⟨0, 0, false, Nat.zero_le _, rfl, rfl, rfl, Lib.hid (SoFar.zero HS.out)⟩
  case round =>
    obtain ⟨k, n, tb, hk, rfl, rfl, rfl, HF⟩ := hrel
    by_cases hlt : k < 16
    · have hi1 : (k : Int) < 16 := by omega
      have l1 : k < ca.length := by rw [L1.out]; exact hlt
      have l2 : k < cb.length := by rw [L2.out]; exact hlt
      have e1 := lies_int HRA.out l1
      have e2 := lies_int HRB.out l2
      cases tb with
      | true =>
        have HN := Lib.hid (HF.out.yes l1 l2)
        generalize ca[k] = x at *
        generalize cb[k] = y at *
        clear l1 l2
        go_wp2_with fail
        go_quiet (fail)
        go_wp2
        exact ⟨⟨k + 1, _, _, by omega, by go_num, rfl, rfl, HN⟩, by simp [intOf]; omega⟩
      | false =>
        have HN := Lib.hid (HF.out.no l1 l2)
        clear e1 e2 l1 l2
        go_wp2_with fail
        go_quiet (fail)
        go_wp2
        exact ⟨⟨k + 1, _, _, by omega, by go_num, rfl, rfl, HN⟩, by simp [intOf]; omega⟩
    · obtain rfl : k = 16 := by omega
      have HE := HF.out
      rw [SoFar, List.take_of_length_le (by rw [L1.out]; omega), List.take_of_length_le (by rw [L2.out]; omega), HX.out] at HE
      obtain ⟨r0, r1, r2⟩ := row3 HRX.out.2
      obtain ⟨s0, s1, s2⟩ := row3 HRY.out
      rw [Nat.zero_add] at r1 r2 s1 s2
      clear hk hlt HF
      rcases ends HE with ⟨x0, rfl⟩ | ⟨x0, x1, rfl⟩ | ⟨x0, x1, x2, rfl⟩ | ⟨x0, x1, x2, rfl⟩
      · have y0 := ne_str x0
        clear x0 HE HX
        go_wp2_with fail
        go_quiet (fail)
        go_wp2_with (go_at_call 11; refine (HAT.out _ _ _ (HRX.out.2.drew _) HRX.out.1).mono ?_; rintro e w2 ⟨x, rfl, b1, _⟩; replace hB := Lib.hid (below_next (bel_drewN hB.out _) b1); clear b1)
        go_ret
        exact ⟨rfl, hB.out⟩
      · have y0 := eq_str x0
        have y1 := ne_str x1
        clear x0 x1 HE HX
        go_wp2_with fail
        go_quiet (fail)
        go_wp2_with (go_at_call 11; refine (HAT.out _ _ _ (HRX.out.2.drew _) HRX.out.1).mono ?_; rintro e w2 ⟨x, rfl, b1, _⟩; replace hB := Lib.hid (below_next (bel_drewN hB.out _) b1); clear b1)
        go_ret
        exact ⟨rfl, hB.out⟩
      · have y0 := eq_str x0
        have y1 := eq_str x1
        have y2 := ne_str x2
        clear x0 x1 x2 HE HX
        go_wp2_with fail
        go_quiet (fail)
        go_wp2_with (go_at_call 11; refine (HAT.out _ _ _ (HRX.out.2.drew _) HRX.out.1).mono ?_; rintro e w2 ⟨x, rfl, b1, _⟩; replace hB := Lib.hid (below_next (bel_drewN hB.out _) b1); clear b1)
        go_ret
        exact ⟨rfl, hB.out⟩
      · have y0 := eq_str x0
        have y1 := eq_str x1
        have y2 := eq_str x2
        clear x0 x1 x2 HE HX
        go_wp2_with fail
        go_quiet (fail)
        go_wp2_with (go_at_call 11; refine (HAT.out _ _ _ (HRX.out.2.drew _) HRX.out.1).mono ?_; rintro e w2 ⟨x, rfl, b1, _⟩; replace hB := Lib.hid (below_next (bel_drewN hB.out _) b1); clear b1)
        go_ret
        exact ⟨rfl, hB.out⟩
set_option maxRecDepth 100000 in
set_option maxHeartbeats 4000000 in
theorem Two_ok3 (no v m u : Int) (h1 : (no == m) = true) (h2 : (v == u) = true) (a b : Option Addr) (la lb : List Int) (c1 c2 : Nat) (w : World) (ha : LiesAt w a (vals la)) (hb : LiesAt w b (vals lb)) (ok1 : pgOk no v (padL la) = true) (ok2 : pgOk m u (padL lb) = true) :
    Calls Try.prog 4 #[.int .i64 no, .int .i64 v, .int .i64 m, .int .i64 u, .slice a la.length c1, .slice b lb.length c2] w fun e w' => e = .returned (.bool true) ∧ Below w.heap.size w w' := by
  have hB : Hid (Below w.heap.size w w) := Lib.hid (Below.refl _ _)
  have HA := Lib.hid (fun z => alive_is z)
  have HSA := Lib.hid (fun z (q : Below w.heap.size w z) => sixteen_is a la c1 z (ha.below q))
  have HSB := Lib.hid (fun z (q : Below w.heap.size w z) => sixteen_is b lb c2 z (hb.below q))
  have L1 := Lib.hid (padL_len la)
  have L2 := Lib.hid (padL_len lb)
  have HP1 := Lib.hid (fun (g c : Nat) z (q : LiesAt z (some ⟨g, 0, none⟩) (vals (padL la))) => pput_is no v _ (padL la) c z q (by rw [L1.out]; unfold maxLen; omega))
  have HP2 := Lib.hid (fun (g c : Nat) z (q : LiesAt z (some ⟨g, 0, none⟩) (vals (padL lb))) => pput_is m u _ (padL lb) c z q (by rw [L2.out]; unfold maxLen; omega))
  have hs : decide (no = m ∧ v = u) = true := by
    simp at *
    omega
  have HX := Lib.hid (two_iff ok1 ok2)
  have HAT := Lib.hid (fun (g c : Nat) z (q : RowAt z g 0 (parts (pgB no v (padL la)))) (hc : 3 ≤ c) => pat3 m u g 0 _ c z q rfl hc)
  rw [ok1, L1.out, pgL_yes ok1] at HP1
  rw [ok2, L2.out, pgL_yes ok2] at HP2
  rw [← pgL_yes ok1, at_put ok1, hs, pgL_yes ok1] at HAT
  have HS := Lib.hid hs
  clear ok1 ok2 hs ha hb
  rw [parts] at HP1 HP2 HAT
  generalize atC m u _ = ac at HAT
  generalize pgB no v (padL la) = s at *
  generalize pgB m u (padL lb) = t at *
  generalize part s 0 = p0 at *
  generalize part s 1 = p1 at *
  generalize part s 2 = p2 at *
  generalize part t 0 = q0 at *
  generalize part t 1 = q1 at *
  generalize part t 2 = q2 at *
  generalize padL la = ca at *
  generalize padL lb = cb at *
  go_enter Try.func4, Try.ntmps4
  go_wp2_with (first
    | (go_at_call 5
       with_reducible refine (HSA.out _ hB.out).mono ?_
       rintro e w1 ⟨x, rfl, b1, o1⟩
       obtain ⟨g1, d1, rfl, l1⟩ := own_some o1 (show 0 < 16 by omega)
       have HRA := Lib.hid l1
       replace hB := Lib.hid (below_next hB.out b1)
       clear b1 o1 l1)
    | (go_at_call 5
       with_reducible refine (HSB.out _ hB.out).mono ?_
       rintro e w1 ⟨x, rfl, b1, o1⟩
       obtain ⟨g2, d2, rfl, l1⟩ := own_some o1 (show 0 < 16 by omega)
       have HRB := Lib.hid l1
       replace HRA := Lib.hid (LiesAt.below HRA.out b1)
       replace hB := Lib.hid (below_next hB.out b1)
       clear b1 o1 l1)
    | (go_at_call 7
       with_reducible refine (HP1.out _ _ _ HRA.out).mono ?_
       rintro e w1 ⟨x, rfl, b1, o1⟩
       obtain ⟨g3, d3, rfl, hc, l1⟩ := own_somec o1 (show 0 < 3 by omega)
       have HRX := Lib.hid (And.intro hc (show RowAt _ g3 0 [p0, p1, p2] from l1))
       replace HRA := Lib.hid (LiesAt.below HRA.out b1)
       replace HRB := Lib.hid (LiesAt.below HRB.out b1)
       replace hB := Lib.hid (below_next hB.out b1)
       clear b1 o1 l1 hc)
    | (go_at_call 7
       with_reducible refine (HP2.out _ _ _ HRB.out).mono ?_
       rintro e w1 ⟨x, rfl, b1, o1⟩
       obtain ⟨g4, d4, rfl, l1⟩ := own_some o1 (show 0 < 3 by omega)
       have HRY := Lib.hid (show RowAt _ g4 0 [q0, q1, q2] from l1)
       replace HRA := Lib.hid (LiesAt.below HRA.out b1)
       replace HRB := Lib.hid (LiesAt.below HRB.out b1)
       replace HRX := Lib.hid (And.intro HRX.out.1 (show RowAt _ g3 0 [p0, p1, p2] from LiesAt.below HRX.out.2 b1))
       replace hB := Lib.hid (below_next hB.out b1)
       clear b1 o1 l1)
    | (go_at_call 6
       refine (HA.out _).mono ?_
       rintro e w1 ⟨rfl, b1⟩
       replace HRA := Lib.hid (LiesAt.below HRA.out b1)
       replace HRB := Lib.hid (LiesAt.below HRB.out b1)
       replace HRX := Lib.hid (And.intro HRX.out.1 (show RowAt _ g3 0 [p0, p1, p2] from LiesAt.below HRX.out.2 b1))
       replace HRY := Lib.hid (show RowAt _ g4 0 [q0, q1, q2] from LiesAt.below HRY.out b1)
       replace hB := Lib.hid (below_next hB.out b1)
       clear b1))
  go_loopw [17, 18] (fun tv i wr => ∃ (k n : Nat) (tb : Bool), k ≤ 16 ∧ i = .int .i64 (k : Int) ∧ tv = .bool tb ∧ wr = w1.drewN n ∧ Hid (SoFar (no = m ∧ v = u) ca cb k tb)) (fun _ i _ => 16 - (intOf i).toNat)
  case atStart => exact ⟨0, 0, true, Nat.zero_le _, rfl, rfl, rfl, Lib.hid (SoFar.zero HS.out)⟩
  case round =>
    obtain ⟨k, n, tb, hk, rfl, rfl, rfl, HF⟩ := hrel
    by_cases hlt : k < 16
    · have hi1 : (k : Int) < 16 := by omega
      have l1 : k < ca.length := by rw [L1.out]; exact hlt
      have l2 : k < cb.length := by rw [L2.out]; exact hlt
      have e1 := lies_int HRA.out l1
      have e2 := lies_int HRB.out l2
      cases tb with
      | true =>
        have HN := Lib.hid (HF.out.yes l1 l2)
        generalize ca[k] = x at *
        generalize cb[k] = y at *
        clear l1 l2
        go_wp2_with fail
        go_quiet (fail)
        go_wp2
        exact ⟨⟨k + 1, _, _, by omega, by go_num, rfl, rfl, HN⟩, by simp [intOf]; omega⟩
      | false =>
        have HN := Lib.hid (HF.out.no l1 l2)
        clear e1 e2 l1 l2
        go_wp2_with fail
        go_quiet (fail)
        go_wp2
        exact ⟨⟨k + 1, _, _, by omega, by go_num, rfl, rfl, HN⟩, by simp [intOf]; omega⟩
    · obtain rfl : k = 16 := by omega
      have HE := HF.out
      rw [SoFar, List.take_of_length_le (by rw [L1.out]; omega), List.take_of_length_le (by rw [L2.out]; omega), HX.out] at HE
      obtain ⟨r0, r1, r2⟩ := row3 HRX.out.2
      obtain ⟨s0, s1, s2⟩ := row3 HRY.out
      rw [Nat.zero_add] at r1 r2 s1 s2
      clear hk hlt HF
      rcases ends HE with ⟨x0, rfl⟩ | ⟨x0, x1, rfl⟩ | ⟨x0, x1, x2, rfl⟩ | ⟨x0, x1, x2, rfl⟩
      · have y0 := ne_str x0
        clear x0 HE HX
        go_wp2_with fail
        go_quiet (fail)
        go_wp2_with (go_at_call 11; refine (HAT.out _ _ _ (HRX.out.2.drew _) HRX.out.1).mono ?_; rintro e w2 ⟨x, rfl, b1, _⟩; replace hB := Lib.hid (below_next (bel_drewN hB.out _) b1); clear b1)
        go_ret
        exact ⟨rfl, hB.out⟩
      · have y0 := eq_str x0
        have y1 := ne_str x1
        clear x0 x1 HE HX
        go_wp2_with fail
        go_quiet (fail)
        go_wp2_with (go_at_call 11; refine (HAT.out _ _ _ (HRX.out.2.drew _) HRX.out.1).mono ?_; rintro e w2 ⟨x, rfl, b1, _⟩; replace hB := Lib.hid (below_next (bel_drewN hB.out _) b1); clear b1)
        go_ret
        exact ⟨rfl, hB.out⟩
      · have y0 := eq_str x0
        have y1 := eq_str x1
        have y2 := ne_str x2
        clear x0 x1 x2 HE HX
        go_wp2_with fail
        go_quiet (fail)
        go_wp2_with (go_at_call 11; refine (HAT.out _ _ _ (HRX.out.2.drew _) HRX.out.1).mono ?_; rintro e w2 ⟨x, rfl, b1, _⟩; replace hB := Lib.hid (below_next (bel_drewN hB.out _) b1); clear b1)
        go_ret
        exact ⟨rfl, hB.out⟩
      · have y0 := eq_str x0
        have y1 := eq_str x1
        have y2 := eq_str x2
        clear x0 x1 x2 HE HX
        go_wp2_with fail
        go_quiet (fail)
        go_wp2_with (go_at_call 11; refine (HAT.out _ _ _ (HRX.out.2.drew _) HRX.out.1).mono ?_; rintro e w2 ⟨x, rfl, b1, _⟩; replace hB := Lib.hid (below_next (bel_drewN hB.out _) b1); clear b1)
        go_ret
        exact ⟨rfl, hB.out⟩

set_option maxRecDepth 100000 in
set_option maxHeartbeats 2000000 in
theorem Two_bad1 (no v m u : Int) (a b : Option Addr) (la lb : List Int) (c1 c2 : Nat) (w : World) (ha : LiesAt w a (vals la)) (hb : LiesAt w b (vals lb)) (ok1 : pgOk no v (padL la) = false) :
    Calls Try.prog 4 #[.int .i64 no, .int .i64 v, .int .i64 m, .int .i64 u, .slice a la.length c1, .slice b lb.length c2] w fun e w' => e = .returned (.bool true) ∧ Below w.heap.size w w' := by
  have hB : Hid (Below w.heap.size w w) := Lib.hid (Below.refl _ _)
  have HA := Lib.hid (fun z => alive_is z)
  have HSA := Lib.hid (fun z (q : Below w.heap.size w z) => sixteen_is a la c1 z (ha.below q))
  have HSB := Lib.hid (fun z (q : Below w.heap.size w z) => sixteen_is b lb c2 z (hb.below q))
  have L1 := Lib.hid (padL_len la)
  have L2 := Lib.hid (padL_len lb)
  have HP1 := Lib.hid (fun (g c : Nat) z (q : LiesAt z (some ⟨g, 0, none⟩) (vals (padL la))) => pput_is no v _ (padL la) c z q (by rw [L1.out]; unfold maxLen; omega))
  have HP2 := Lib.hid (fun (g c : Nat) z (q : LiesAt z (some ⟨g, 0, none⟩) (vals (padL lb))) => pput_is m u _ (padL lb) c z q (by rw [L2.out]; unfold maxLen; omega))
  rw [L1.out] at HP1
  rw [L2.out] at HP2
  rw [ok1] at HP1
  generalize pgOk m u (padL lb) = o2 at *
  clear ha hb
  try clear ok1
  try clear ok2
  generalize pgL no v (padL la) = pl at *
  generalize pgL m u (padL lb) = ql at *
  generalize padL la = ca at *
  generalize padL lb = cb at *
  go_enter Try.func4, Try.ntmps4
  go_wp2_with (first
    | (go_at_call 5
       with_reducible refine (HSA.out _ hB.out).mono ?_
       rintro e w1 ⟨x, rfl, b1, o1⟩
       obtain ⟨g1, d1, rfl, l1⟩ := own_some o1 (show 0 < 16 by omega)
       have HRA := Lib.hid l1
       replace hB := Lib.hid (below_next hB.out b1)
       clear b1 o1 l1)
    | (go_at_call 5
       with_reducible refine (HSB.out _ hB.out).mono ?_
       rintro e w1 ⟨x, rfl, b1, o1⟩
       obtain ⟨g2, d2, rfl, l1⟩ := own_some o1 (show 0 < 16 by omega)
       have HRB := Lib.hid l1
       replace HRA := Lib.hid (LiesAt.below HRA.out b1)
       replace hB := Lib.hid (below_next hB.out b1)
       clear b1 o1 l1)
    | (go_at_call 7
       with_reducible refine (HP1.out _ _ _ HRA.out).mono ?_
       rintro e w1 ⟨x, rfl, b1, o1⟩
       replace HRB := Lib.hid (LiesAt.below HRB.out b1)
       replace hB := Lib.hid (below_next hB.out b1)
       clear b1 o1)
    | (go_at_call 7
       with_reducible refine (HP2.out _ _ _ HRB.out).mono ?_
       rintro e w1 ⟨x, rfl, b1, o1⟩
       replace hB := Lib.hid (below_next hB.out b1)
       clear b1 o1)
    | (go_at_call 6
       refine (HA.out _).mono ?_
       rintro e w1 ⟨rfl, b1⟩
       replace hB := Lib.hid (below_next hB.out b1)
       clear b1))
  all_goals
    go_ret
    exact ⟨rfl, hB.out⟩
set_option maxRecDepth 100000 in
set_option maxHeartbeats 2000000 in
theorem Two_bad2 (no v m u : Int) (a b : Option Addr) (la lb : List Int) (c1 c2 : Nat) (w : World) (ha : LiesAt w a (vals la)) (hb : LiesAt w b (vals lb)) (ok1 : pgOk no v (padL la) = true) (ok2 : pgOk m u (padL lb) = false) :
    Calls Try.prog 4 #[.int .i64 no, .int .i64 v, .int .i64 m, .int .i64 u, .slice a la.length c1, .slice b lb.length c2] w fun e w' => e = .returned (.bool true) ∧ Below w.heap.size w w' := by
  have hB : Hid (Below w.heap.size w w) := Lib.hid (Below.refl _ _)
  have HA := Lib.hid (fun z => alive_is z)
  have HSA := Lib.hid (fun z (q : Below w.heap.size w z) => sixteen_is a la c1 z (ha.below q))
  have HSB := Lib.hid (fun z (q : Below w.heap.size w z) => sixteen_is b lb c2 z (hb.below q))
  have L1 := Lib.hid (padL_len la)
  have L2 := Lib.hid (padL_len lb)
  have HP1 := Lib.hid (fun (g c : Nat) z (q : LiesAt z (some ⟨g, 0, none⟩) (vals (padL la))) => pput_is no v _ (padL la) c z q (by rw [L1.out]; unfold maxLen; omega))
  have HP2 := Lib.hid (fun (g c : Nat) z (q : LiesAt z (some ⟨g, 0, none⟩) (vals (padL lb))) => pput_is m u _ (padL lb) c z q (by rw [L2.out]; unfold maxLen; omega))
  rw [L1.out] at HP1
  rw [L2.out] at HP2
  rw [ok1] at HP1
  rw [ok2] at HP2
  clear ha hb
  try clear ok1
  try clear ok2
  generalize pgL no v (padL la) = pl at *
  generalize pgL m u (padL lb) = ql at *
  generalize padL la = ca at *
  generalize padL lb = cb at *
  go_enter Try.func4, Try.ntmps4
  go_wp2_with (first
    | (go_at_call 5
       with_reducible refine (HSA.out _ hB.out).mono ?_
       rintro e w1 ⟨x, rfl, b1, o1⟩
       obtain ⟨g1, d1, rfl, l1⟩ := own_some o1 (show 0 < 16 by omega)
       have HRA := Lib.hid l1
       replace hB := Lib.hid (below_next hB.out b1)
       clear b1 o1 l1)
    | (go_at_call 5
       with_reducible refine (HSB.out _ hB.out).mono ?_
       rintro e w1 ⟨x, rfl, b1, o1⟩
       obtain ⟨g2, d2, rfl, l1⟩ := own_some o1 (show 0 < 16 by omega)
       have HRB := Lib.hid l1
       replace HRA := Lib.hid (LiesAt.below HRA.out b1)
       replace hB := Lib.hid (below_next hB.out b1)
       clear b1 o1 l1)
    | (go_at_call 7
       with_reducible refine (HP1.out _ _ _ HRA.out).mono ?_
       rintro e w1 ⟨x, rfl, b1, o1⟩
       replace HRB := Lib.hid (LiesAt.below HRB.out b1)
       replace hB := Lib.hid (below_next hB.out b1)
       clear b1 o1)
    | (go_at_call 7
       with_reducible refine (HP2.out _ _ _ HRB.out).mono ?_
       rintro e w1 ⟨x, rfl, b1, o1⟩
       replace hB := Lib.hid (below_next hB.out b1)
       clear b1 o1)
    | (go_at_call 6
       refine (HA.out _).mono ?_
       rintro e w1 ⟨rfl, b1⟩
       replace hB := Lib.hid (below_next hB.out b1)
       clear b1))
  all_goals
    go_ret
    exact ⟨rfl, hB.out⟩

theorem Two_walk (no v m u : Int) (a b : Option Addr) (la lb : List Int) (c1 c2 : Nat) (w : World) (ha : LiesAt w a (vals la)) (hb : LiesAt w b (vals lb)) :
    Calls Try.prog 4 #[.int .i64 no, .int .i64 v, .int .i64 m, .int .i64 u, .slice a la.length c1, .slice b lb.length c2] w fun e w' => e = .returned (.bool true) ∧ Below w.heap.size w w' := by
  cases ok1 : pgOk no v (padL la) with
  | false => exact Two_bad1 no v m u a b la lb c1 c2 w ha hb ok1
  | true =>
    cases ok2 : pgOk m u (padL lb) with
    | false => exact Two_bad2 no v m u a b la lb c1 c2 w ha hb ok1 ok2
    | true =>
      cases h1 : no == m with
      | false => exact Two_ok1 no v m u h1 a b la lb c1 c2 w ha hb ok1 ok2
      | true =>
        cases h2 : v == u with
        | false => exact Two_ok2 no v m u h1 h2 a b la lb c1 c2 w ha hb ok1 ok2
        | true => exact Two_ok3 no v m u h1 h2 a b la lb c1 c2 w ha hb ok1 ok2
end Go.Proofs.Ytkffcnnbglficaa
