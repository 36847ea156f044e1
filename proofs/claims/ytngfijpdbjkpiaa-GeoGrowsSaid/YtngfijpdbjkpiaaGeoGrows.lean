/- GeoGrows: a heap with a greater half, or a longer log, needs no fewer sectors; each page lies behind the one ahead of it. -/
import Derived.Test.YtngfijpdbjkpiaaGeoAlive
namespace Go.Proofs.Ytngfijpdbjkpiaa
open Go.RowKit

set_option maxRecDepth 100000 in
set_option maxHeartbeats 2000000 in
theorem Grows_out (h l a b : Int) (q : gOk h l = false ∨ (gOk h l = true ∧ (a < 0 ∨ b < 0 ∨ 400 < a ∨ 300 < b))) (w : World) : Calls Try.prog 5 #[.agg #[.int .i64 h, .int .i64 l], .int .i64 a, .int .i64 b] w fun e w' => e = .returned (.bool true) ∧ Below w.heap.size w w' := by
  have HA := Lib.hid galive_is
  have H1 := Lib.hid (fun u => gright_is h l u)
  generalize gOk h l = k at *
  rcases q with rfl | ⟨rfl, q⟩
  all_goals
    go_enter Try.func5, Try.ntmps5
    go_wp2_with (first
      | (go_at_call 8; refine (H1.out _).mono ?_; rintro e w1 ⟨rfl, b1⟩; have HK := Lib.hid (GBox.laid b1).2; clear b1)
      | (go_at_call 6; refine (HA.out _).mono ?_; rintro e w2 ⟨rfl, b2⟩; replace HK := Lib.hid (geo_next HK.out b2); clear b2))
    all_goals first
      | (exfalso; omega)
      | (go_ret
         exact ⟨rfl, HK.out⟩)
/-- Two geometries in blocks of their own, kept through calls. -/
theorem gkeep4 {w u u' : World} {g : Nat} {v0 v1 v2 v3 : Value} (h : u.cell? ⟨w.heap.size, 0, none⟩ = some v0 ∧ u.cell? ⟨w.heap.size, 1, none⟩ = some v1 ∧ u.cell? ⟨g, 0, none⟩ = some v2 ∧ u.cell? ⟨g, 1, none⟩ = some v3 ∧ w.heap.size < u.heap.size ∧ g < u.heap.size ∧ Below w.heap.size w u) (b : Below u.heap.size u u') :
    u'.cell? ⟨w.heap.size, 0, none⟩ = some v0 ∧ u'.cell? ⟨w.heap.size, 1, none⟩ = some v1 ∧ u'.cell? ⟨g, 0, none⟩ = some v2 ∧ u'.cell? ⟨g, 1, none⟩ = some v3 ∧ w.heap.size < u'.heap.size ∧ g < u'.heap.size ∧ Below w.heap.size w u' := by
  obtain ⟨h0, h1, h2, h3, h4, h5, h6⟩ := h
  exact ⟨(b.cell (p := ⟨w.heap.size, 0, none⟩) h4).trans h0, (b.cell (p := ⟨w.heap.size, 1, none⟩) h4).trans h1, (b.cell (p := ⟨g, 0, none⟩) h5).trans h2, (b.cell (p := ⟨g, 1, none⟩) h5).trans h3, Nat.lt_of_lt_of_le h4 b.size, Nat.lt_of_lt_of_le h5 b.size, geo_next h6 b⟩

theorem GBox.two {w u u' : World} {g : Nat} {h l h2 l2 : Int} (x : u.cell? ⟨w.heap.size, 0, none⟩ = some (.int .i64 h) ∧ u.cell? ⟨w.heap.size, 1, none⟩ = some (.int .i64 l) ∧ w.heap.size < u.heap.size ∧ Below w.heap.size w u) (y : GBox u' g h2 l2) (b : Below u.heap.size u u') :
    u'.cell? ⟨w.heap.size, 0, none⟩ = some (.int .i64 h) ∧ u'.cell? ⟨w.heap.size, 1, none⟩ = some (.int .i64 l) ∧ u'.cell? ⟨g, 0, none⟩ = some (.int .i64 h2) ∧ u'.cell? ⟨g, 1, none⟩ = some (.int .i64 l2) ∧ w.heap.size < u'.heap.size ∧ g < u'.heap.size ∧ Below w.heap.size w u' :=
  have z := gkeep x b
  ⟨z.1, z.2.1, y.c0, y.c1, z.2.2.1, y.lt, z.2.2.2⟩

set_option maxRecDepth 100000 in
set_option maxHeartbeats 4000000 in
theorem Grows_no (h l a b : Int) (q : gOk h l = true) (ha : 0 ≤ a ∧ a ≤ 400) (hb : 0 ≤ b ∧ b ≤ 300) (q2 : gOk (h + a) (l + b) = false) (w : World) : Calls Try.prog 5 #[.agg #[.int .i64 h, .int .i64 l], .int .i64 a, .int .i64 b] w fun e w' => e = .returned (.bool true) ∧ Below w.heap.size w w' := by
  have HA := Lib.hid galive_is
  have H1 := Lib.hid (fun u => gright_is h l u)
  have H2 := Lib.hid (fun u => gright_is (h + a) (l + b) u)
  have H3 := Lib.hid (fun u => gsectors_is (h + a) (l + b) u)
  have hq := gOk_yes q
  rw [q] at H1
  rw [q2] at H2
  rw [gSectors_no q2] at H3
  clear q q2
  go_enter Try.func5, Try.ntmps5
  go_wp2_with (first
    | (go_at_call 8; with_reducible refine (H1.out _).mono ?_; rintro e w1 ⟨rfl, b1⟩; have HK := Lib.hid ((GBox.laid b1).1.keep (GBox.laid b1).2); clear b1)
    | (go_at_call 6; refine (HA.out _).mono ?_; rintro e w2 ⟨rfl, b2⟩; replace HK := Lib.hid (gkeep HK.out b2); obtain ⟨c0, c1, _, _⟩ := HK.out; clear b2)
    | (go_at_call 8; with_reducible refine (H2.out _).mono ?_; rintro e w3 ⟨rfl, b3⟩; replace HK := Lib.hid (GBox.two HK.out (GBox.laid b3).1 (GBox.laid b3).2); obtain ⟨_, _, c2, c3, _, _, _⟩ := HK.out; clear b3 c0 c1)
    | (go_at_call 13; refine (H3.out _).mono ?_; rintro e w4 ⟨rfl, b4⟩; replace HK := Lib.hid (gkeep4 HK.out b4).2.2.2.2.2.2; clear b4))
  go_ret
  exact ⟨rfl, HK.out⟩

theorem gPages_up {h l h2 l2 : Int} (q : gOk h l = true) (q2 : gOk h2 l2 = true) (hh : h ≤ h2) : gPages h l ≤ gPages h2 l2 := by
  rw [gPages, gPages, gCells_yes q, gCells_yes q2]
  omega
theorem gPages_two {h l : Int} (q : gOk h l = true) : 2 ≤ gPages h l := by
  have := gOk_yes q
  rw [gPages, gCells_yes q]
  omega

set_option maxRecDepth 100000 in
set_option maxHeartbeats 4000000 in
theorem Grows_yes (h l a b : Int) (q : gOk h l = true) (ha : 0 ≤ a ∧ a ≤ 400) (hb : 0 ≤ b ∧ b ≤ 300) (q2 : gOk (h + a) (l + b) = true) (w : World) : Calls Try.prog 5 #[.agg #[.int .i64 h, .int .i64 l], .int .i64 a, .int .i64 b] w fun e w' => e = .returned (.bool true) ∧ Below w.heap.size w w' := by
  have hp := gPages_le h l
  have hp2 := gPages_two q
  obtain ⟨P, hP⟩ := Int.eq_ofNat_of_zero_le hp.1
  have HA := Lib.hid galive_is
  have H1 := Lib.hid (fun u => gright_is h l u)
  have H2 := Lib.hid (fun u => gright_is (h + a) (l + b) u)
  have H3 := Lib.hid (fun u => gsectors_is (h + a) (l + b) u)
  have H4 := Lib.hid (fun u => gsectors_is h l u)
  have H5 := Lib.hid (fun u => gcells_is (h + a) (l + b) u)
  have H6 := Lib.hid (fun u => gcells_is h l u)
  have H7 := Lib.hid (fun u => glog_is h l u)
  have H8 := Lib.hid (fun u => gpages_is h l u)
  have HA0 := Lib.hid (fun u (k : Nat) (hk : k < P) => gpage_is h l k 0 u)
  have HA1 := Lib.hid (fun u (k : Nat) (hk : k < P) => gpage_is h l (IntKind.i64.wrap ((k : Int) - 1)) 1 u)
  have HP0 : Hid (∀ k : Nat, 1 ≤ k → k < P → gPage h l k 0 = IntKind.i64.wrap (gPage h l (IntKind.i64.wrap ((k : Int) - 1)) 1 + 3)) := Lib.hid (fun k h0 h1 => by
    rw [IntWalk.i64_in ((k : Int) - 1) (by omega), gPage, gPage, if_pos (by omega), if_pos (by omega), IntKind.wrap_i64]
    omega)
  have hq := gOk_yes q
  have hs : IntKind.i64.wrap (gSectors h l + b) ≤ gSectors (h + a) (l + b) := by
    have := gPages_up q q2 (by omega)
    have := gPages_le (h + a) (l + b)
    rw [gSectors_yes q, gSectors_yes q2, IntKind.wrap_i64]
    omega
  have hc : gCells (h + a) (l + b) = IntKind.i64.wrap (gCells h l + IntKind.i64.wrap (2 * a)) := by
    rw [gCells_yes q, gCells_yes q2, IntKind.wrap_i64, IntKind.wrap_i64]
    omega
  have hl : gSectors h l = IntKind.i64.wrap (gLog h l + l) := by
    rw [gSectors_yes q, gLog_yes q, IntKind.wrap_i64]
    omega
  rw [q] at H1
  rw [q2] at H2
  rw [hP] at H8
  have hP2 : 2 ≤ P := by omega
  have hP3 : P ≤ 51 := by omega
  clear q q2 hP hp hp2
  rw [hc] at H5
  rw [hl] at H4 hs
  clear hc hl
  generalize gSectors (h + a) (l + b) = s2 at *
  generalize gCells h l = n1 at *
  generalize gLog h l = lg at *
  have HF := Lib.hid (decide_eq_true hs)
  clear hs
  go_enter Try.func5, Try.ntmps5
  go_wp2_with (first
    | (go_at_call 8; with_reducible refine (H1.out _).mono ?_; rintro e w1 ⟨rfl, b1⟩; have HK := Lib.hid ((GBox.laid b1).1.keep (GBox.laid b1).2); clear b1)
    | (go_at_call 6; refine (HA.out _).mono ?_; rintro e w2 ⟨rfl, b2⟩; replace HK := Lib.hid (gkeep HK.out b2); obtain ⟨c0, c1, _, _⟩ := HK.out; clear b2)
    | (go_at_call 8; with_reducible refine (H2.out _).mono ?_; rintro e w3 ⟨rfl, b3⟩; replace HK := Lib.hid (GBox.two HK.out (GBox.laid b3).1 (GBox.laid b3).2); clear b3 c0 c1))
  generalize w2.heap.size = g at *
  go_loopw [8] (fun i wr => ∃ k : Nat, 1 ≤ k ∧ k ≤ P ∧ i = .int .i64 (k : Int) ∧ Hid (wr.cell? ⟨w.heap.size, 0, none⟩ = some (.int .i64 h) ∧ wr.cell? ⟨w.heap.size, 1, none⟩ = some (.int .i64 l) ∧ wr.cell? ⟨g, 0, none⟩ = some (.int .i64 (h + a)) ∧ wr.cell? ⟨g, 1, none⟩ = some (.int .i64 (l + b)) ∧ w.heap.size < wr.heap.size ∧ g < wr.heap.size ∧ Below w.heap.size w wr)) (fun i _ => P - (intOf i).toNat)
  case atStart => exact ⟨1, Nat.le_refl _, by omega, rfl, HK⟩
  case round =>
    clear HK
    obtain ⟨k, hk1, hk, rfl, HK⟩ := hrel
    obtain ⟨c0, c1, _, _, _, _, _⟩ := HK.out
    have hki : (k : Int) ≤ 1000 := by omega
    by_cases hlt : k < P
    · have hlt' : (k : Int) < (P : Int) := by omega
      have HV := Lib.hid (HP0.out k hk1 hlt)
      have E0 := Lib.hid (fun u => HA0.out u k hlt)
      have E1 := Lib.hid (fun u => HA1.out u k hlt)
      rw [HV.out] at E0
      generalize gPage h l (IntKind.i64.wrap ((k : Int) - 1)) 1 = v at *
      clear HV HA0 HA1 HP0
      go_wp2_with (go_at_call 10; refine (H8.out _).mono ?_; rintro e w5 ⟨rfl, b5⟩; replace HK := Lib.hid (gkeep4 HK.out b5); clear b5 c0 c1)
      go_region_held3 (fun u => u.cell? ⟨w.heap.size, 0, none⟩ = some (.int .i64 h) ∧ u.cell? ⟨w.heap.size, 1, none⟩ = some (.int .i64 l) ∧ u.cell? ⟨g, 0, none⟩ = some (.int .i64 (h + a)) ∧ u.cell? ⟨g, 1, none⟩ = some (.int .i64 (l + b)) ∧ w.heap.size < u.heap.size ∧ g < u.heap.size ∧ Below w.heap.size w u) (first
          | assumption
          | exact HK.out
          | exact gkeep4 HK.out (Below.refl _ _).drew
          | exact gkeep4 (by assumption) b2) (first
        | (go_at_call 11; first | (with_reducible refine (E0.out _).mono ?_) | (with_reducible refine (E1.out _).mono ?_)
           rintro e' w2 ⟨rfl, b2⟩))
      rename_i hH
      have HL := Lib.hid hH
      clear hH HK
      go_wp2_with fail
      exact ⟨⟨k + 1, by omega, by omega, by go_num, HL⟩, by simp [intOf]; omega⟩
    · obtain rfl : k = P := by omega
      clear HP0 HA0 HA1 hlt
      go_wp2_with (go_at_call 10; refine (H8.out _).mono ?_; rintro e w5 ⟨rfl, b5⟩; replace HK := Lib.hid (gkeep4 HK.out b5); clear b5 c0 c1)
      have hd := HF.out
      go_region_held3 (fun u => u.cell? ⟨w.heap.size, 0, none⟩ = some (.int .i64 h) ∧ u.cell? ⟨w.heap.size, 1, none⟩ = some (.int .i64 l) ∧ u.cell? ⟨g, 0, none⟩ = some (.int .i64 (h + a)) ∧ u.cell? ⟨g, 1, none⟩ = some (.int .i64 (l + b)) ∧ w.heap.size < u.heap.size ∧ g < u.heap.size ∧ Below w.heap.size w u) (first
          | assumption
          | exact HK.out
          | exact gkeep4 HK.out (Below.refl _ _).drew
          | exact gkeep4 (by assumption) b2) (first
        | (go_at_call 13; first | (with_reducible refine (H3.out _).mono ?_) | (with_reducible refine (H4.out _).mono ?_)
           rintro e' w2 ⟨rfl, b2⟩)
        | (go_at_call 9; first | (with_reducible refine (H5.out _).mono ?_) | (with_reducible refine (H6.out _).mono ?_)
           rintro e' w2 ⟨rfl, b2⟩)
        | (go_at_call 12; refine (H7.out _).mono ?_; rintro e' w2 ⟨rfl, b2⟩))
      rename_i hH
      have HL := Lib.hid hH
      clear hH HK
      go_wp2_with fail
      go_ret
      exact ⟨rfl, HL.out.2.2.2.2.2.2⟩

theorem Grows_walk (h l a b : Int) (w : World) : Calls Try.prog 5 #[.agg #[.int .i64 h, .int .i64 l], .int .i64 a, .int .i64 b] w fun e w' => e = .returned (.bool true) ∧ Below w.heap.size w w' := by
  cases q : gOk h l
  · exact Grows_out h l a b (.inl q) w
  · by_cases hc : a < 0 ∨ b < 0 ∨ 400 < a ∨ 300 < b
    · exact Grows_out h l a b (.inr ⟨q, hc⟩) w
    · cases q2 : gOk (h + a) (l + b)
      · exact Grows_no h l a b q (by omega) (by omega) q2 w
      · exact Grows_yes h l a b q (by omega) (by omega) q2 w
end Go.Proofs.Ytngfijpdbjkpiaa
