/- Package geo: where things lie; its calls as plain functions of numbers. -/
import Derived.Test.YtngfijpdbjkpiaaProg
import Derived.WalkKit
import Derived.ProofKit
import Derived.Lib.Hide
import Derived.Below
import Derived.Deep.RegionHeld3
namespace Go.Proofs.Ytngfijpdbjkpiaa
open Go.RowKit

theorem geo_b {a b : Bool} (h : a = b) : Ending.returned (.bool a) = .returned (.bool b) := by rw [h]
theorem geo_i {a b : Int} (h : a = b) : Ending.returned (.int .i64 a) = .returned (.int .i64 b) := by rw [h]
theorem geo_next {w w1 w2 : World} (h1 : Below w.heap.size w w1) (h2 : Below w1.heap.size w1 w2) : Below w.heap.size w w2 := h1.trans (h2.mono h1.size)

/-- Which geometries may be; what there is in one, and where. -/
def gOk (h l : Int) : Bool := decide (8 ≤ h ∧ h ≤ 400 ∧ 4 ≤ l ∧ l ≤ 300)
def gCells (h l : Int) : Int := if gOk h l = true then 16 + 2 * h else 0
def gPages (h l : Int) : Int := (gCells h l + 15) / 16
def gPage (h l no slot : Int) : Int := if 0 ≤ no ∧ no < gPages h l ∧ 0 ≤ slot ∧ slot < 2 then 2 + no * 6 + slot * 3 else 0
def gLog (h l : Int) : Int := if gOk h l = true then 2 + gPages h l * 6 else 0
def gSectors (h l : Int) : Int := if gOk h l = true then gLog h l + l else 0
def gHalf (h l sp : Int) : Bool := gOk h l && decide (0 ≤ sp ∧ sp < 2)
def gBase (h l sp : Int) : Int := if gHalf h l sp = true then 16 + sp * h else 0
def gEnd (h l sp : Int) : Int := if gHalf h l sp = true then 16 + sp * h + h else 0
def gIn (h l sp c : Int) : Bool := decide (gBase h l sp ≤ c ∧ c < gEnd h l sp)
theorem gOk_yes {h l : Int} (q : gOk h l = true) : 8 ≤ h ∧ h ≤ 400 ∧ 4 ≤ l ∧ l ≤ 300 := of_decide_eq_true q
theorem gOk_no {h l : Int} (q : gOk h l = false) : ¬ (8 ≤ h ∧ h ≤ 400 ∧ 4 ≤ l ∧ l ≤ 300) := of_decide_eq_false q
theorem gCells_yes {h l : Int} (q : gOk h l = true) : gCells h l = 16 + 2 * h := if_pos q
theorem gCells_no {h l : Int} (q : gOk h l = false) : gCells h l = 0 := if_neg (by rw [q]; decide)
theorem gCells_le (h l : Int) : 0 ≤ gCells h l ∧ gCells h l ≤ 816 := by
  cases q : gOk h l
  · rw [gCells_no q]; omega
  · have := gOk_yes q
    rw [gCells_yes q]; omega
theorem gPages_le (h l : Int) : 0 ≤ gPages h l ∧ gPages h l ≤ 51 := by
  have := gCells_le h l
  unfold gPages
  omega
theorem gLog_yes {h l : Int} (q : gOk h l = true) : gLog h l = 2 + gPages h l * 6 := if_pos q
theorem gLog_no {h l : Int} (q : gOk h l = false) : gLog h l = 0 := if_neg (by rw [q]; decide)
theorem gSectors_yes {h l : Int} (q : gOk h l = true) : gSectors h l = 2 + gPages h l * 6 + l := by rw [gSectors, if_pos q, gLog_yes q]
theorem gSectors_no {h l : Int} (q : gOk h l = false) : gSectors h l = 0 := if_neg (by rw [q]; decide)

/-- A geometry in a block of its own. -/
structure GBox (u : World) (g : Nat) (h l : Int) : Prop where
  lt : g < u.heap.size
  c0 : u.cell? ⟨g, 0, none⟩ = some (.int .i64 h)
  c1 : u.cell? ⟨g, 1, none⟩ = some (.int .i64 l)
theorem GBox.below {u u' : World} {g : Nat} {h l : Int} (x : GBox u g h l) (b : Below u.heap.size u u') : GBox u' g h l :=
  ⟨Nat.lt_of_lt_of_le x.lt b.size, (b.cell (p := ⟨g, 0, none⟩) x.lt).trans x.c0, (b.cell (p := ⟨g, 1, none⟩) x.lt).trans x.c1⟩
theorem GBox.made (w : World) (h l : Int) (t : TypeId) : GBox (w.alloc (.cells #[.int .i64 h, .int .i64 l] t)) w.heap.size h l := by
  refine ⟨?_, ?_, ?_⟩ <;> simp
theorem GBox.laid {w u : World} {h l : Int} {t : TypeId} (b : Below (w.alloc (.cells #[.int .i64 h, .int .i64 l] t)).heap.size (w.alloc (.cells #[.int .i64 h, .int .i64 l] t)) u) : GBox u w.heap.size h l ∧ Below w.heap.size w u :=
  ⟨(GBox.made w h l t).below b, ((Below.refl _ _).alloc (Nat.le_refl _) _).trans (b.mono (by simp))⟩

/-- The same as it is kept through a drawn region. -/
theorem gkeep {w u u' : World} {v0 v1 : Value} (h : u.cell? ⟨w.heap.size, 0, none⟩ = some v0 ∧ u.cell? ⟨w.heap.size, 1, none⟩ = some v1 ∧ w.heap.size < u.heap.size ∧ Below w.heap.size w u) (b : Below u.heap.size u u') :
    u'.cell? ⟨w.heap.size, 0, none⟩ = some v0 ∧ u'.cell? ⟨w.heap.size, 1, none⟩ = some v1 ∧ w.heap.size < u'.heap.size ∧ Below w.heap.size w u' := by
  obtain ⟨h0, h1, h2, h3⟩ := h
  exact ⟨(b.cell (p := ⟨w.heap.size, 0, none⟩) h2).trans h0, (b.cell (p := ⟨w.heap.size, 1, none⟩) h2).trans h1, Nat.lt_of_lt_of_le h2 b.size, geo_next h3 b⟩
theorem GBox.keep {w u : World} {h l : Int} (x : GBox u w.heap.size h l) (b : Below w.heap.size w u) : u.cell? ⟨w.heap.size, 0, none⟩ = some (.int .i64 h) ∧ u.cell? ⟨w.heap.size, 1, none⟩ = some (.int .i64 l) ∧ w.heap.size < u.heap.size ∧ Below w.heap.size w u := ⟨x.c0, x.c1, x.lt, b⟩

set_option maxRecDepth 100000 in
theorem gright_is (h l : Int) (w : World) : Calls Try.prog 8 #[.agg #[.int .i64 h, .int .i64 l]] w fun e w' => e = .returned (.bool (gOk h l)) ∧ Below w.heap.size w w' := by
  go_enter Try.func8, Try.ntmps8
  go_wp2
  all_goals
    go_ret
    refine ⟨geo_b ?_, (Below.refl _ _).alloc (Nat.le_refl _) _⟩
    first
      | exact (decide_eq_true (by omega)).symm
      | exact (decide_eq_false (by omega)).symm

set_option maxRecDepth 100000 in
theorem gcells_is (h l : Int) (w : World) : Calls Try.prog 9 #[.agg #[.int .i64 h, .int .i64 l]] w fun e w' => e = .returned (.int .i64 (gCells h l)) ∧ Below w.heap.size w w' := by
  have HR := Lib.hid (gright_is h l)
  cases q : gOk h l
  · rw [q] at HR
    rw [gCells_no q]
    clear q
    go_enter Try.func9, Try.ntmps9
    go_wp2_with (go_at_call 8; refine (HR.out _).mono ?_; rintro e' w1 ⟨rfl, b1⟩; have HK := Lib.hid (GBox.laid b1); clear b1)
    go_ret
    exact ⟨rfl, HK.out.2⟩
  · rw [q] at HR
    rw [gCells_yes q]
    have hq := gOk_yes q
    clear q
    go_enter Try.func9, Try.ntmps9
    go_wp2_with (go_at_call 8; refine (HR.out _).mono ?_; rintro e' w1 ⟨rfl, b1⟩; have HK := Lib.hid (GBox.laid b1); have c0 := HK.out.1.c0; clear b1)
    go_ret
    exact ⟨geo_i (by omega), HK.out.2⟩

set_option maxRecDepth 100000 in
theorem gpages_is (h l : Int) (w : World) : Calls Try.prog 10 #[.agg #[.int .i64 h, .int .i64 l]] w fun e w' => e = .returned (.int .i64 (gPages h l)) ∧ Below w.heap.size w w' := by
  have HC := Lib.hid (gcells_is h l)
  have hc := gCells_le h l
  rw [show gPages h l = (gCells h l + 15) / 16 from rfl]
  generalize gCells h l = c at *
  go_enter Try.func10, Try.ntmps10
  go_wp2_with (go_at_call 9; refine (HC.out _).mono ?_; rintro e' w1 ⟨rfl, b1⟩; have HK := Lib.hid b1; clear b1)
  go_ret
  exact ⟨geo_i (by omega), ((Below.refl _ _).alloc (Nat.le_refl _) _).trans (HK.out.mono (by simp))⟩

set_option maxRecDepth 100000 in
set_option maxHeartbeats 1000000 in
theorem gpage_is (h l no slot : Int) (w : World) : Calls Try.prog 11 #[.agg #[.int .i64 h, .int .i64 l], .int .i64 no, .int .i64 slot] w fun e w' => e = .returned (.int .i64 (gPage h l no slot)) ∧ Below w.heap.size w w' := by
  have HP := Lib.hid (gpages_is h l)
  have hp := gPages_le h l
  rw [show gPage h l no slot = if 0 ≤ no ∧ no < gPages h l ∧ 0 ≤ slot ∧ slot < 2 then 2 + no * 6 + slot * 3 else 0 from rfl]
  generalize gPages h l = p at *
  have hB := Lib.hid ((Below.refl w.heap.size w).alloc (Nat.le_refl _) (.cells #[.int .i64 h, .int .i64 l] 23))
  by_cases q : 0 ≤ no ∧ no < p ∧ 0 ≤ slot ∧ slot < 2
  · rw [if_pos q]
    obtain ⟨q1, q2, q3, q4⟩ := q
    go_enter Try.func11, Try.ntmps11
    go_wp2_with (go_at_call 10; refine (HP.out _).mono ?_; rintro e' w1 ⟨rfl, b1⟩; have HK := Lib.hid b1; clear b1)
    go_ret
    exact ⟨geo_i (by omega), hB.out.trans (HK.out.mono (by simp))⟩
  · rw [if_neg q]
    go_enter Try.func11, Try.ntmps11
    go_wp2_with (go_at_call 10; refine (HP.out _).mono ?_; rintro e' w1 ⟨rfl, b1⟩; have HK := Lib.hid b1; clear b1)
    all_goals first
      | (exfalso; omega)
      | (go_ret
         first
           | exact ⟨rfl, hB.out.trans (HK.out.mono (by simp))⟩
           | exact ⟨rfl, hB.out⟩)

set_option maxRecDepth 100000 in
theorem glog_is (h l : Int) (w : World) : Calls Try.prog 12 #[.agg #[.int .i64 h, .int .i64 l]] w fun e w' => e = .returned (.int .i64 (gLog h l)) ∧ Below w.heap.size w w' := by
  have HR := Lib.hid (gright_is h l)
  have HP := Lib.hid (gpages_is h l)
  have hp := gPages_le h l
  rw [show gLog h l = if gOk h l = true then 2 + gPages h l * 6 else 0 from rfl]
  generalize gPages h l = p at *
  cases q : gOk h l
  all_goals
    rw [q] at HR
    clear q
    go_enter Try.func12, Try.ntmps12
    go_wp2_with (first
      | (go_at_call 8; refine (HR.out _).mono ?_; rintro e' w1 ⟨rfl, b1⟩; have HK := Lib.hid (GBox.laid b1); obtain ⟨_, c0, c1⟩ := HK.out.1; clear b1)
      | (go_at_call 10; refine (HP.out _).mono ?_; rintro e' w2 ⟨rfl, b2⟩; replace HK := Lib.hid (And.intro HK.out.1 (geo_next HK.out.2 b2)); clear b2))
    go_ret
    exact ⟨geo_i (by simp <;> omega), HK.out.2⟩

set_option maxRecDepth 100000 in
theorem gsectors_is (h l : Int) (w : World) : Calls Try.prog 13 #[.agg #[.int .i64 h, .int .i64 l]] w fun e w' => e = .returned (.int .i64 (gSectors h l)) ∧ Below w.heap.size w w' := by
  have HR := Lib.hid (gright_is h l)
  have HL := Lib.hid (glog_is h l)
  have hp := gPages_le h l
  cases q : gOk h l
  · rw [q] at HR
    rw [gSectors_no q]
    clear q
    go_enter Try.func13, Try.ntmps13
    go_wp2_with (go_at_call 8; refine (HR.out _).mono ?_; rintro e' w1 ⟨rfl, b1⟩; have HK := Lib.hid (GBox.laid b1); clear b1)
    go_ret
    exact ⟨rfl, HK.out.2⟩
  · rw [q] at HR
    rw [gLog_yes q] at HL
    rw [gSectors_yes q]
    have hq := gOk_yes q
    clear q
    generalize gPages h l = p at *
    go_enter Try.func13, Try.ntmps13
    go_wp2_with (go_at_call 8; refine (HR.out _).mono ?_; rintro e' w1 ⟨rfl, b1⟩; have HK := Lib.hid ((GBox.laid b1).1.keep (GBox.laid b1).2); clear b1)
    go_region_held3 (fun u => u.cell? ⟨w.heap.size, 0, none⟩ = some (.int .i64 h) ∧ u.cell? ⟨w.heap.size, 1, none⟩ = some (.int .i64 l) ∧ w.heap.size < u.heap.size ∧ Below w.heap.size w u) (first
        | assumption
        | exact HK.out
        | exact gkeep HK.out (Below.refl _ _).drew
        | exact gkeep (by assumption) b2) (first
      | (go_at_call 12; refine (HL.out _).mono ?_; rintro e' w2 ⟨rfl, b2⟩))
    rename_i hH
    have HK := Lib.hid hH
    clear hH
    go_wp2_with fail
    go_ret
    exact ⟨geo_i (by rw [IntKind.wrap_i64]; omega), HK.out.2.2.2⟩

set_option maxRecDepth 100000 in
theorem ghalf_is (h l sp : Int) (w : World) : Calls Try.prog 22 #[.agg #[.int .i64 h, .int .i64 l], .int .i64 sp] w fun e w' => e = .returned (.bool (gHalf h l sp)) ∧ Below w.heap.size w w' := by
  have HR := Lib.hid (gright_is h l)
  rw [show gHalf h l sp = (gOk h l && decide (0 ≤ sp ∧ sp < 2)) from rfl]
  generalize gOk h l = k at *
  cases k
  all_goals
    go_enter Try.func22, Try.ntmps22
    go_wp2_with (go_at_call 8; refine (HR.out _).mono ?_; rintro e' w1 ⟨rfl, b1⟩; have HK := Lib.hid (GBox.laid b1); clear b1)
    all_goals
      go_ret
      refine ⟨geo_b ?_, HK.out.2⟩
      first
        | rfl
        | exact (decide_eq_true (by omega)).symm
        | exact (decide_eq_false (by omega)).symm

set_option maxRecDepth 100000 in
theorem gbase_is (h l sp : Int) (w : World) : Calls Try.prog 14 #[.agg #[.int .i64 h, .int .i64 l], .int .i64 sp] w fun e w' => e = .returned (.int .i64 (gBase h l sp)) ∧ Below w.heap.size w w' := by
  have HH := Lib.hid (ghalf_is h l sp)
  rw [show gBase h l sp = if gHalf h l sp = true then 16 + sp * h else 0 from rfl]
  cases q : gHalf h l sp
  · rw [q] at HH
    clear q
    go_enter Try.func14, Try.ntmps14
    go_wp2_with (go_at_call 22; refine (HH.out _).mono ?_; rintro e' w1 ⟨rfl, b1⟩; have HK := Lib.hid (GBox.laid b1); clear b1)
    go_ret
    exact ⟨rfl, HK.out.2⟩
  · rw [q] at HH
    obtain ⟨k1, k2⟩ := Bool.and_eq_true_iff.1 (show (gOk h l && decide (0 ≤ sp ∧ sp < 2)) = true from q)
    have hq := gOk_yes k1
    have hs := of_decide_eq_true k2
    clear q k1 k2
    obtain rfl | rfl : sp = 0 ∨ sp = 1 := by omega
    all_goals
      go_enter Try.func14, Try.ntmps14
      go_wp2_with (go_at_call 22; refine (HH.out _).mono ?_; rintro e' w1 ⟨rfl, b1⟩; have HK := Lib.hid (GBox.laid b1); obtain ⟨_, c0, c1⟩ := HK.out.1; clear b1)
      go_ret
      exact ⟨geo_i (by simp <;> omega), HK.out.2⟩

set_option maxRecDepth 100000 in
theorem gend_is (h l sp : Int) (w : World) : Calls Try.prog 15 #[.agg #[.int .i64 h, .int .i64 l], .int .i64 sp] w fun e w' => e = .returned (.int .i64 (gEnd h l sp)) ∧ Below w.heap.size w w' := by
  have HH := Lib.hid (ghalf_is h l sp)
  have HB := Lib.hid (gbase_is h l sp)
  rw [show gBase h l sp = if gHalf h l sp = true then 16 + sp * h else 0 from rfl] at HB
  rw [show gEnd h l sp = if gHalf h l sp = true then 16 + sp * h + h else 0 from rfl]
  cases q : gHalf h l sp
  · rw [q] at HH
    clear q
    go_enter Try.func15, Try.ntmps15
    go_wp2_with (go_at_call 22; refine (HH.out _).mono ?_; rintro e' w1 ⟨rfl, b1⟩; have HK := Lib.hid (GBox.laid b1); clear b1)
    go_ret
    exact ⟨rfl, HK.out.2⟩
  · rw [q] at HH
    rw [q, if_pos rfl] at HB
    obtain ⟨k1, k2⟩ := Bool.and_eq_true_iff.1 (show (gOk h l && decide (0 ≤ sp ∧ sp < 2)) = true from q)
    have hq := gOk_yes k1
    have hs := of_decide_eq_true k2
    clear q k1 k2
    rw [if_pos rfl]
    obtain ⟨b, hb, hb0⟩ : ∃ b, b = 16 + sp * h ∧ 0 ≤ b ∧ b ≤ 1000 := by
      obtain rfl | rfl : sp = 0 ∨ sp = 1 := by omega
      · exact ⟨16, by omega, by omega⟩
      · exact ⟨16 + h, by omega, by omega⟩
    rw [← hb] at HB ⊢
    clear hb
    go_enter Try.func15, Try.ntmps15
    go_wp2_with (go_at_call 22; refine (HH.out _).mono ?_; rintro e' w1 ⟨rfl, b1⟩; have HK := Lib.hid ((GBox.laid b1).1.keep (GBox.laid b1).2); clear b1)
    go_region_held3 (fun u => u.cell? ⟨w.heap.size, 0, none⟩ = some (.int .i64 h) ∧ u.cell? ⟨w.heap.size, 1, none⟩ = some (.int .i64 l) ∧ w.heap.size < u.heap.size ∧ Below w.heap.size w u) (first
        | assumption
        | exact HK.out
        | exact gkeep HK.out (Below.refl _ _).drew
        | exact gkeep (by assumption) b2) (first
      | (go_at_call 14; refine (HB.out _).mono ?_; rintro e' w2 ⟨rfl, b2⟩))
    rename_i hH
    have HK := Lib.hid hH
    clear hH
    go_wp2_with fail
    go_ret
    exact ⟨geo_i (by rw [IntKind.wrap_i64]; omega), HK.out.2.2.2⟩

set_option maxRecDepth 100000 in
theorem gin_is (h l sp c : Int) (w : World) : Calls Try.prog 16 #[.agg #[.int .i64 h, .int .i64 l], .int .i64 sp, .int .i64 c] w fun e w' => e = .returned (.bool (gIn h l sp c)) ∧ Below w.heap.size w w' := by
  have HB := Lib.hid (gbase_is h l sp)
  have HE := Lib.hid (gend_is h l sp)
  rw [show gIn h l sp c = decide (gBase h l sp ≤ c ∧ c < gEnd h l sp) from rfl]
  generalize gBase h l sp = b at *
  generalize gEnd h l sp = d at *
  go_enter Try.func16, Try.ntmps16
  go_wp2_with (first
    | (go_at_call 14; refine (HB.out _).mono ?_; rintro e' w1 ⟨rfl, b1⟩; have HK := Lib.hid (GBox.laid b1); obtain ⟨_, c0, c1⟩ := HK.out.1; clear b1)
    | (go_at_call 15; refine (HE.out _).mono ?_; rintro e' w2 ⟨rfl, b2⟩; replace HK := Lib.hid (And.intro HK.out.1 (geo_next HK.out.2 b2)); clear b2))
  all_goals
    go_ret
    refine ⟨geo_b ?_, HK.out.2⟩
    first
      | exact (decide_eq_true (by omega)).symm
      | exact (decide_eq_false (by omega)).symm
      | (rw [Bool.eq_iff_iff]; simp; omega)
end Go.Proofs.Ytngfijpdbjkpiaa
