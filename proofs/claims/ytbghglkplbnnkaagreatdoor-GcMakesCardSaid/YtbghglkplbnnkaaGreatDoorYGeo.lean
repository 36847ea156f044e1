import Derived.Test.YtbghglkplbnnkaaGreatDoorProg
import Derived.WalkKit
import Derived.ProofKit
import Derived.Lib.Hide
import Derived.Below
import Derived.Deep.RegionHeld3
import Derived.Test.YtbghglkplbnnkaaGreatDoorYBook
set_option linter.unusedVariables false
set_option linter.unusedSimpArgs false
-- GeoIs
namespace Go.Proofs.YtbghglkplbnnkaaGreatDoor
open Go.RowKit

theorem geo_b {a b : Bool} (h : a = b) : Ending.returned (.bool a) = .returned (.bool b) := by rw [h]
theorem geo_i {a b : Int} (h : a = b) : Ending.returned (.int .i64 a) = .returned (.int .i64 b) := by rw [h]
theorem geo_next {w w1 w2 : World} (h1 : Below w.heap.size w w1) (h2 : Below w1.heap.size w1 w2) : Below w.heap.size w w2 := h1.trans (h2.mono h1.size)

def geOk (h l : Int) : Bool := decide (8 ≤ h ∧ h ≤ 400 ∧ 4 ≤ l ∧ l ≤ 300)
def geCells (h l : Int) : Int := if geOk h l = true then 16 + 2 * h else 0
def gePages (h l : Int) : Int := (geCells h l + 15) / 16
def gePage (h l no slot : Int) : Int := if 0 ≤ no ∧ no < gePages h l ∧ 0 ≤ slot ∧ slot < 2 then 2 + no * 6 + slot * 3 else 0
def geLog (h l : Int) : Int := if geOk h l = true then 2 + gePages h l * 6 else 0
def geSectors (h l : Int) : Int := if geOk h l = true then geLog h l + l else 0
def geHalf (h l sp : Int) : Bool := geOk h l && decide (0 ≤ sp ∧ sp < 2)
def geBase (h l sp : Int) : Int := if geHalf h l sp = true then 16 + sp * h else 0
def geEnd (h l sp : Int) : Int := if geHalf h l sp = true then 16 + sp * h + h else 0
def geIn (h l sp c : Int) : Bool := decide (geBase h l sp ≤ c ∧ c < geEnd h l sp)
theorem geOk_yes {h l : Int} (q : geOk h l = true) : 8 ≤ h ∧ h ≤ 400 ∧ 4 ≤ l ∧ l ≤ 300 := of_decide_eq_true q
theorem geCells_yes {h l : Int} (q : geOk h l = true) : geCells h l = 16 + 2 * h := if_pos q
theorem geCells_no {h l : Int} (q : geOk h l = false) : geCells h l = 0 := if_neg (by rw [q]; decide)
theorem geCells_le (h l : Int) : 0 ≤ geCells h l ∧ geCells h l ≤ 816 := by
  cases q : geOk h l
  · rw [geCells_no q]; omega
  · have := geOk_yes q
    rw [geCells_yes q]; omega
theorem gePages_le (h l : Int) : 0 ≤ gePages h l ∧ gePages h l ≤ 51 := by
  have := geCells_le h l
  unfold gePages
  omega
theorem geLog_yes {h l : Int} (q : geOk h l = true) : geLog h l = 2 + gePages h l * 6 := if_pos q
theorem geSectors_yes {h l : Int} (q : geOk h l = true) : geSectors h l = 2 + gePages h l * 6 + l := by rw [geSectors, if_pos q, geLog_yes q]
theorem geSectors_no {h l : Int} (q : geOk h l = false) : geSectors h l = 0 := if_neg (by rw [q]; decide)

structure GBox (u : World) (g : Nat) (h l : Int) : Prop where
  lt : g < u.heap.size
  c0 : u.cell? ⟨g, 0, none⟩ = some (.int .i64 h)
  c1 : u.cell? ⟨g, 1, none⟩ = some (.int .i64 l)
theorem GBox.below {u u' : World} {g : Nat} {h l : Int} (x : GBox u g h l) (b : Below u.heap.size u u') : GBox u' g h l :=
  ⟨Nat.lt_of_lt_of_le x.lt b.size, (b.cell (p := ⟨g, 0, none⟩) x.lt).trans x.c0, (b.cell (p := ⟨g, 1, none⟩) x.lt).trans x.c1⟩
theorem GBox.made (w : World) (h l : Int) (t : TypeId) : GBox (w.alloc (.cells #[.int .i64 h, .int .i64 l] t)) w.heap.size h l := by
  refine ⟨?_, ?_, ?_⟩ <;> simp
theorem GBox.laid {w u : World} {h l : Int} {t : TypeId} (b : Below (w.alloc (.cells #[.int .i64 h, .int .i64 l] t)).heap.size (w.alloc (.cells #[.int .i64 h, .int .i64 l] t)) u) : GBox u w.heap.size h l ∧ Below w.heap.size w u :=
  ⟨(GBox.made w h l t).below b, ((Below.refl _ _).alloc (Nat.le_refl _) _).trans (b.mono (by simp))⟩

theorem gkeep {w u u' : World} {v0 v1 : Value} (h : u.cell? ⟨w.heap.size, 0, none⟩ = some v0 ∧ u.cell? ⟨w.heap.size, 1, none⟩ = some v1 ∧ w.heap.size < u.heap.size ∧ Below w.heap.size w u) (b : Below u.heap.size u u') :
    u'.cell? ⟨w.heap.size, 0, none⟩ = some v0 ∧ u'.cell? ⟨w.heap.size, 1, none⟩ = some v1 ∧ w.heap.size < u'.heap.size ∧ Below w.heap.size w u' := by
  obtain ⟨h0, h1, h2, h3⟩ := h
  exact ⟨(b.cell (p := ⟨w.heap.size, 0, none⟩) h2).trans h0, (b.cell (p := ⟨w.heap.size, 1, none⟩) h2).trans h1, Nat.lt_of_lt_of_le h2 b.size, geo_next h3 b⟩
theorem GBox.keep {w u : World} {h l : Int} (x : GBox u w.heap.size h l) (b : Below w.heap.size w u) : u.cell? ⟨w.heap.size, 0, none⟩ = some (.int .i64 h) ∧ u.cell? ⟨w.heap.size, 1, none⟩ = some (.int .i64 l) ∧ w.heap.size < u.heap.size ∧ Below w.heap.size w u := ⟨x.c0, x.c1, x.lt, b⟩

set_option maxRecDepth 100000 in
theorem gright_is (h l : Int) (w : World) : Calls Tryz.prog 86 #[.agg #[.int .i64 h, .int .i64 l]] w fun e w' => e = .returned (.bool (geOk h l)) ∧ Below w.heap.size w w' := by
  go_enter Tryz.func86, Tryz.ntmps86
  go_wp2
  all_goals
    go_ret
    refine ⟨geo_b ?_, (Below.refl _ _).alloc (Nat.le_refl _) _⟩
    first
      | exact (decide_eq_true (by omega)).symm
      | exact (decide_eq_false (by omega)).symm

set_option maxRecDepth 100000 in
theorem gcells_is (h l : Int) (w : World) : Calls Tryz.prog 75 #[.agg #[.int .i64 h, .int .i64 l]] w fun e w' => e = .returned (.int .i64 (geCells h l)) ∧ Below w.heap.size w w' := by
  have HR := Lib.hid (gright_is h l)
  cases q : geOk h l
  · rw [q] at HR
    rw [geCells_no q]
    clear q
    go_enter Tryz.func75, Tryz.ntmps75
    go_wp2_with (go_at_call 86; refine (HR.out _).mono ?_; rintro e' w1 ⟨rfl, b1⟩; have HK := Lib.hid (GBox.laid b1); clear b1)
    go_ret
    exact ⟨rfl, HK.out.2⟩
  · rw [q] at HR
    rw [geCells_yes q]
    have hq := geOk_yes q
    clear q
    go_enter Tryz.func75, Tryz.ntmps75
    go_wp2_with (go_at_call 86; refine (HR.out _).mono ?_; rintro e' w1 ⟨rfl, b1⟩; have HK := Lib.hid (GBox.laid b1); have c0 := HK.out.1.c0; clear b1)
    go_ret
    exact ⟨geo_i (by omega), HK.out.2⟩

set_option maxRecDepth 100000 in
theorem gpages_is (h l : Int) (w : World) : Calls Tryz.prog 98 #[.agg #[.int .i64 h, .int .i64 l]] w fun e w' => e = .returned (.int .i64 (gePages h l)) ∧ Below w.heap.size w w' := by
  have HC := Lib.hid (gcells_is h l)
  have hc := geCells_le h l
  rw [show gePages h l = (geCells h l + 15) / 16 from rfl]
  generalize geCells h l = c at *
  go_enter Tryz.func98, Tryz.ntmps98
  go_wp2_with (go_at_call 75; refine (HC.out _).mono ?_; rintro e' w1 ⟨rfl, b1⟩; have HK := Lib.hid b1; clear b1)
  go_ret
  exact ⟨geo_i (by omega), ((Below.refl _ _).alloc (Nat.le_refl _) _).trans (HK.out.mono (by simp))⟩

set_option maxRecDepth 100000 in
set_option maxHeartbeats 1000000 in
theorem gpage_is (h l no slot : Int) (w : World) : Calls Tryz.prog 122 #[.agg #[.int .i64 h, .int .i64 l], .int .i64 no, .int .i64 slot] w fun e w' => e = .returned (.int .i64 (gePage h l no slot)) ∧ Below w.heap.size w w' := by
  have HP := Lib.hid (gpages_is h l)
  have hp := gePages_le h l
  rw [show gePage h l no slot = if 0 ≤ no ∧ no < gePages h l ∧ 0 ≤ slot ∧ slot < 2 then 2 + no * 6 + slot * 3 else 0 from rfl]
  generalize gePages h l = p at *
  have hB := Lib.hid ((Below.refl w.heap.size w).alloc (Nat.le_refl _) (.cells #[.int .i64 h, .int .i64 l] 23))
  by_cases q : 0 ≤ no ∧ no < p ∧ 0 ≤ slot ∧ slot < 2
  · rw [if_pos q]
    obtain ⟨q1, q2, q3, q4⟩ := q
    go_enter Tryz.func122, Tryz.ntmps122
    go_wp2_with (go_at_call 98; refine (HP.out _).mono ?_; rintro e' w1 ⟨rfl, b1⟩; have HK := Lib.hid b1; clear b1)
    go_ret
    exact ⟨geo_i (by omega), hB.out.trans (HK.out.mono (by simp))⟩
  · rw [if_neg q]
    go_enter Tryz.func122, Tryz.ntmps122
    go_wp2_with (go_at_call 98; refine (HP.out _).mono ?_; rintro e' w1 ⟨rfl, b1⟩; have HK := Lib.hid b1; clear b1)
    all_goals first
      | (exfalso; omega)
      | (go_ret
         first
           | exact ⟨rfl, hB.out.trans (HK.out.mono (by simp))⟩
           | exact ⟨rfl, hB.out⟩)

set_option maxRecDepth 100000 in
theorem glog_is (h l : Int) (w : World) : Calls Tryz.prog 87 #[.agg #[.int .i64 h, .int .i64 l]] w fun e w' => e = .returned (.int .i64 (geLog h l)) ∧ Below w.heap.size w w' := by
  have HR := Lib.hid (gright_is h l)
  have HP := Lib.hid (gpages_is h l)
  have hp := gePages_le h l
  rw [show geLog h l = if geOk h l = true then 2 + gePages h l * 6 else 0 from rfl]
  generalize gePages h l = p at *
  cases q : geOk h l
  all_goals
    rw [q] at HR
    clear q
    go_enter Tryz.func87, Tryz.ntmps87
    go_wp2_with (first
      | (go_at_call 86; refine (HR.out _).mono ?_; rintro e' w1 ⟨rfl, b1⟩; have HK := Lib.hid (GBox.laid b1); obtain ⟨_, c0, c1⟩ := HK.out.1; clear b1)
      | (go_at_call 98; refine (HP.out _).mono ?_; rintro e' w2 ⟨rfl, b2⟩; replace HK := Lib.hid (And.intro HK.out.1 (geo_next HK.out.2 b2)); clear b2))
    go_ret
    exact ⟨geo_i (by simp <;> omega), HK.out.2⟩

set_option maxRecDepth 100000 in
theorem gsectors_is (h l : Int) (w : World) : Calls Tryz.prog 61 #[.agg #[.int .i64 h, .int .i64 l]] w fun e w' => e = .returned (.int .i64 (geSectors h l)) ∧ Below w.heap.size w w' := by
  have HR := Lib.hid (gright_is h l)
  have HL := Lib.hid (glog_is h l)
  have hp := gePages_le h l
  cases q : geOk h l
  · rw [q] at HR
    rw [geSectors_no q]
    clear q
    go_enter Tryz.func61, Tryz.ntmps61
    go_wp2_with (go_at_call 86; refine (HR.out _).mono ?_; rintro e' w1 ⟨rfl, b1⟩; have HK := Lib.hid (GBox.laid b1); clear b1)
    go_ret
    exact ⟨rfl, HK.out.2⟩
  · rw [q] at HR
    rw [geLog_yes q] at HL
    rw [geSectors_yes q]
    have hq := geOk_yes q
    clear q
    generalize gePages h l = p at *
    go_enter Tryz.func61, Tryz.ntmps61
    go_wp2_with (go_at_call 86; refine (HR.out _).mono ?_; rintro e' w1 ⟨rfl, b1⟩; have HK := Lib.hid ((GBox.laid b1).1.keep (GBox.laid b1).2); clear b1)
    go_region_held3 (fun u => u.cell? ⟨w.heap.size, 0, none⟩ = some (.int .i64 h) ∧ u.cell? ⟨w.heap.size, 1, none⟩ = some (.int .i64 l) ∧ w.heap.size < u.heap.size ∧ Below w.heap.size w u) (first
        | assumption
        | exact HK.out
        | exact gkeep HK.out (Below.refl _ _).drew
        | exact gkeep (by assumption) b2) (first
      | (go_at_call 87; refine (HL.out _).mono ?_; rintro e' w2 ⟨rfl, b2⟩))
    rename_i hH
    have HK := Lib.hid hH
    clear hH
    go_wp2_with fail
    go_ret
    exact ⟨geo_i (by rw [IntKind.wrap_i64]; omega), HK.out.2.2.2⟩

set_option maxRecDepth 100000 in
theorem ghalf_is (h l sp : Int) (w : World) : Calls Tryz.prog 78 #[.agg #[.int .i64 h, .int .i64 l], .int .i64 sp] w fun e w' => e = .returned (.bool (geHalf h l sp)) ∧ Below w.heap.size w w' := by
  have HR := Lib.hid (gright_is h l)
  rw [show geHalf h l sp = (geOk h l && decide (0 ≤ sp ∧ sp < 2)) from rfl]
  generalize geOk h l = k at *
  cases k
  all_goals
    go_enter Tryz.func78, Tryz.ntmps78
    go_wp2_with (go_at_call 86; refine (HR.out _).mono ?_; rintro e' w1 ⟨rfl, b1⟩; have HK := Lib.hid (GBox.laid b1); clear b1)
    all_goals
      go_ret
      refine ⟨geo_b ?_, HK.out.2⟩
      first
        | rfl
        | exact (decide_eq_true (by omega)).symm
        | exact (decide_eq_false (by omega)).symm

set_option maxRecDepth 100000 in
theorem gbase_is (h l sp : Int) (w : World) : Calls Tryz.prog 44 #[.agg #[.int .i64 h, .int .i64 l], .int .i64 sp] w fun e w' => e = .returned (.int .i64 (geBase h l sp)) ∧ Below w.heap.size w w' := by
  have HH := Lib.hid (ghalf_is h l sp)
  rw [show geBase h l sp = if geHalf h l sp = true then 16 + sp * h else 0 from rfl]
  cases q : geHalf h l sp
  · rw [q] at HH
    clear q
    go_enter Tryz.func44, Tryz.ntmps44
    go_wp2_with (go_at_call 78; refine (HH.out _).mono ?_; rintro e' w1 ⟨rfl, b1⟩; have HK := Lib.hid (GBox.laid b1); clear b1)
    go_ret
    exact ⟨rfl, HK.out.2⟩
  · rw [q] at HH
    obtain ⟨k1, k2⟩ := Bool.and_eq_true_iff.1 (show (geOk h l && decide (0 ≤ sp ∧ sp < 2)) = true from q)
    have hq := geOk_yes k1
    have hs := of_decide_eq_true k2
    clear q k1 k2
    obtain rfl | rfl : sp = 0 ∨ sp = 1 := by omega
    all_goals
      go_enter Tryz.func44, Tryz.ntmps44
      go_wp2_with (go_at_call 78; refine (HH.out _).mono ?_; rintro e' w1 ⟨rfl, b1⟩; have HK := Lib.hid (GBox.laid b1); obtain ⟨_, c0, c1⟩ := HK.out.1; clear b1)
      go_ret
      exact ⟨geo_i (by simp <;> omega), HK.out.2⟩

set_option maxRecDepth 100000 in
theorem gend_is (h l sp : Int) (w : World) : Calls Tryz.prog 50 #[.agg #[.int .i64 h, .int .i64 l], .int .i64 sp] w fun e w' => e = .returned (.int .i64 (geEnd h l sp)) ∧ Below w.heap.size w w' := by
  have HH := Lib.hid (ghalf_is h l sp)
  have HB := Lib.hid (gbase_is h l sp)
  rw [show geBase h l sp = if geHalf h l sp = true then 16 + sp * h else 0 from rfl] at HB
  rw [show geEnd h l sp = if geHalf h l sp = true then 16 + sp * h + h else 0 from rfl]
  cases q : geHalf h l sp
  · rw [q] at HH
    clear q
    go_enter Tryz.func50, Tryz.ntmps50
    go_wp2_with (go_at_call 78; refine (HH.out _).mono ?_; rintro e' w1 ⟨rfl, b1⟩; have HK := Lib.hid (GBox.laid b1); clear b1)
    go_ret
    exact ⟨rfl, HK.out.2⟩
  · rw [q] at HH
    rw [q, if_pos rfl] at HB
    obtain ⟨k1, k2⟩ := Bool.and_eq_true_iff.1 (show (geOk h l && decide (0 ≤ sp ∧ sp < 2)) = true from q)
    have hq := geOk_yes k1
    have hs := of_decide_eq_true k2
    clear q k1 k2
    rw [if_pos rfl]
    obtain ⟨b, hb, hb0⟩ : ∃ b, b = 16 + sp * h ∧ 0 ≤ b ∧ b ≤ 1000 := by
      obtain rfl | rfl : sp = 0 ∨ sp = 1 := by omega
      · exact ⟨16, by omega, by omega⟩
      · exact ⟨16 + h, by omega, by omega⟩
    rw [← hb] at HB ⊢
    clear hb
    go_enter Tryz.func50, Tryz.ntmps50
    go_wp2_with (go_at_call 78; refine (HH.out _).mono ?_; rintro e' w1 ⟨rfl, b1⟩; have HK := Lib.hid ((GBox.laid b1).1.keep (GBox.laid b1).2); clear b1)
    go_region_held3 (fun u => u.cell? ⟨w.heap.size, 0, none⟩ = some (.int .i64 h) ∧ u.cell? ⟨w.heap.size, 1, none⟩ = some (.int .i64 l) ∧ w.heap.size < u.heap.size ∧ Below w.heap.size w u) (first
        | assumption
        | exact HK.out
        | exact gkeep HK.out (Below.refl _ _).drew
        | exact gkeep (by assumption) b2) (first
      | (go_at_call 44; refine (HB.out _).mono ?_; rintro e' w2 ⟨rfl, b2⟩))
    rename_i hH
    have HK := Lib.hid hH
    clear hH
    go_wp2_with fail
    go_ret
    exact ⟨geo_i (by rw [IntKind.wrap_i64]; omega), HK.out.2.2.2⟩

set_option maxRecDepth 100000 in
theorem gin_is (h l sp c : Int) (w : World) : Calls Tryz.prog 96 #[.agg #[.int .i64 h, .int .i64 l], .int .i64 sp, .int .i64 c] w fun e w' => e = .returned (.bool (geIn h l sp c)) ∧ Below w.heap.size w w' := by
  have HB := Lib.hid (gbase_is h l sp)
  have HE := Lib.hid (gend_is h l sp)
  rw [show geIn h l sp c = decide (geBase h l sp ≤ c ∧ c < geEnd h l sp) from rfl]
  generalize geBase h l sp = b at *
  generalize geEnd h l sp = d at *
  go_enter Tryz.func96, Tryz.ntmps96
  go_wp2_with (first
    | (go_at_call 44; refine (HB.out _).mono ?_; rintro e' w1 ⟨rfl, b1⟩; have HK := Lib.hid (GBox.laid b1); obtain ⟨_, c0, c1⟩ := HK.out.1; clear b1)
    | (go_at_call 50; refine (HE.out _).mono ?_; rintro e' w2 ⟨rfl, b2⟩; replace HK := Lib.hid (And.intro HK.out.1 (geo_next HK.out.2 b2)); clear b2))
  all_goals
    go_ret
    refine ⟨geo_b ?_, HK.out.2⟩
    first
      | exact (decide_eq_true (by omega)).symm
      | exact (decide_eq_false (by omega)).symm
      | (rw [Bool.eq_iff_iff]; simp; omega)
end Go.Proofs.YtbghglkplbnnkaaGreatDoor
-- GeoRef
namespace Go.Proofs.YtbghglkplbnnkaaGreatDoor
open Go.RowKit

set_option maxRecDepth 100000 in
theorem rgeo_is (h l : Int) (w : World) : Calls Tryz.prog 7 #[.agg #[.int .i64 h, .int .i64 l]] w fun e w' => e = .returned (.bool (geOk h l)) ∧ Below w.heap.size w w' := by
  go_enter Tryz.func7, Tryz.ntmps7
  go_wp2
  all_goals
    go_ret
    refine ⟨geo_b ?_, (Below.refl _ _).alloc (Nat.le_refl _) _⟩
    first
      | exact (decide_eq_true (by omega)).symm
      | exact (decide_eq_false (by omega)).symm
      | (rw [Bool.eq_iff_iff]; simp [geOk]; omega)

set_option maxRecDepth 100000 in
theorem rbase_is (h l sp : Int) (q : geOk h l = true) (hs : sp = 0 ∨ sp = 1) (w : World) : Calls Tryz.prog 76 #[.agg #[.int .i64 h, .int .i64 l], .int .i64 sp] w fun e w' => e = .returned (.int .i64 (geBase h l sp)) ∧ Below w.heap.size w w' := by
  have hq := geOk_yes q
  have hv : geBase h l sp = 16 + sp * h := if_pos (by rw [geHalf, q, Bool.true_and]; exact decide_eq_true (by omega))
  rw [hv]
  clear q hv
  rcases hs with rfl | rfl
  all_goals
    go_enter Tryz.func76, Tryz.ntmps76
    go_wp2
    go_ret
    exact ⟨geo_i (by simp <;> omega), (Below.refl _ _).alloc (Nat.le_refl _) _⟩
end Go.Proofs.YtbghglkplbnnkaaGreatDoor
-- StoreBase
namespace Go.Proofs.YtbghglkplbnnkaaGreatDoor
open Go.RowKit
open Go.Proofs.YtbghglkplbnnkaaGreatDoor.Bk

theorem owns_same {w w' : World} {base : Nat} {e : TypeId} {k n : Nat} {v : Value} {xs : List Value} (h : w.ownsRow base e k v n xs) (hb : ∀ g, v.ownBlock = some g → w'.heap[g]? = w.heap[g]?) : w'.ownsRow base e k v n xs := by
  refine ⟨h.1, ?_⟩
  rcases h.2 with q | ⟨g, cap, cur, hv, hg, hh, r⟩
  · exact .inl q
  · exact .inr ⟨g, cap, cur, hv, hg, (hb g (by rw [hv]; rfl)).trans hh, r⟩
def RF (p : Nat) (vC vW : Value) (b : Nat) : Prop := b = p ∨ vC.ownBlock = some b ∨ vW.ownBlock = some b
end Go.Proofs.YtbghglkplbnnkaaGreatDoor
