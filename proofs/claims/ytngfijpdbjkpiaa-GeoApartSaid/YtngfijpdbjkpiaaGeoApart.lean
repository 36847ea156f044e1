/- GeoApart: no two things lie in one sector, and none behind the last one; each cell of the heap lies in one half. -/
import Derived.Test.YtngfijpdbjkpiaaGeoTells
import Derived.Test.YtngfijpdbjkpiaaBookBase
import Derived.Deep.LoopGhost
namespace Go.Proofs.Ytngfijpdbjkpiaa
open Go.RowKit
open Go.Proofs.Ytngfijpdbjkpiaa.Bk

/-- The first m are taken. -/
def marksB (m n : Nat) : List Value := (List.range n).map fun j => .bool (decide (j < m))
theorem marksB_len (m n : Nat) : (marksB m n).length = n := by simp [marksB]
theorem marksB_at (m n j : Nat) (h : j < n) : (marksB m n)[j]? = some (.bool (decide (j < m))) := by simp [marksB, h]
theorem marksB_set (m n : Nat) : (marksB m n).set m (.bool true) = marksB (m + 1) n := by
  apply List.ext_getElem
  · simp [marksB]
  · intro i h1 h2
    by_cases q : i = m
    · subst q
      simp [marksB]
    · simp [marksB, List.getElem_set, Ne.symm q, show (i < m + 1) = (i < m) from propext ⟨fun p => by omega, fun p => by omega⟩]
theorem marksB_zero (n : Nat) : List.replicate n (.bool false) = marksB 0 n := by
  apply List.ext_getElem <;> simp [marksB]
theorem boolInfo : (Try.prog.info? 4).map (fun i => (i.zero, i.size, i.bytes)) = some (some (.bool false), 1, 1) := by kernel_rfl
theorem make_bools (u : World) (n : Nat) (hn : n ≤ 100000) :
    ∃ w', (Instr.makeSlice 31 (.int .i64 (n : Int)) (.int .i64 (n : Int))).run Try.prog u = .ok (.slice (some ⟨u.heap.size, 0, none⟩) n n) w' ∧ Below u.heap.size u w' ∧ w'.ownsRow u.heap.size 4 1 (.slice (some ⟨u.heap.size, 0, none⟩) n n) n (marksB 0 n) := by
  obtain ⟨i1, hi, hz0, hz1, hz2⟩ := info_parts boolInfo
  have h := run_make (P := Try.prog) u 31 4 i1 _ Try.underlying31 hi hz0 .i64 .i64 (n : Int) (n : Int) (by omega) (Int.le_refl _) (by rw [hz2]; omega) (by omega)
  refine ⟨_, by simpa using h, (Below.refl _ _).alloc (Nat.le_refl _) _, by rw [marksB_len, Nat.mul_one], .inr ⟨u.heap.size, n, _, rfl, Nat.le_refl _, heap_alloc_new u _, Nat.le_refl _, by unfold maxLen; omega, ?_, ?_⟩⟩
  · rw [size_madeCells, hz1]
  · rw [← marksB_zero, hz1]
    apply List.ext_getElem
    · simp [madeCells]
    · intro j h1 h2
      simp [madeCells, Value.cells, Nat.mod_one]

/-- The geometry's block, and the row of which the first m are taken. -/
structure GMk (w u : World) (g n m : Nat) (h l : Int) : Prop where
  box : u.cell? ⟨w.heap.size, 0, none⟩ = some (.int .i64 h) ∧ u.cell? ⟨w.heap.size, 1, none⟩ = some (.int .i64 l) ∧ w.heap.size < u.heap.size ∧ Below w.heap.size w u
  row : u.ownsRow g 4 1 (.slice (some ⟨g, 0, none⟩) n n) n (marksB m n)
  gt : w.heap.size < g
theorem GMk.below {w u u' : World} {g n m : Nat} {h l : Int} (x : GMk w u g n m h l) (b : Below u.heap.size u u') : GMk w u' g n m h l := ⟨gkeep x.box b, own_below x.row b, x.gt⟩
theorem GMk.set {w u : World} {g n m : Nat} {h l : Int} (x : GMk w u g n m h l) : GMk w (u.setCell ⟨g, m, none⟩ (.bool true)) g n (m + 1) h l := by
  have hne : w.heap.size ≠ g := Nat.ne_of_lt x.gt
  refine ⟨⟨(World.cell?_setCell_other _ _ _ _ (by simp [hne])).trans x.box.1, (World.cell?_setCell_other _ _ _ _ (by simp [hne])).trans x.box.2.1, by simpa using x.box.2.2.1, x.box.2.2.2.setCell (p := ⟨g, m, none⟩) (Nat.le_of_lt x.gt) _⟩, ?_, x.gt⟩
  rw [← marksB_set]
  exact owns_set x.row m _
theorem GMk.at_ {w u : World} {g n m : Nat} {h l : Int} (x : GMk w u g n m h l) (j : Nat) (hj : j < n) : u.cell? ⟨g, j, none⟩ = some (.bool (decide (j < m))) ∧ u.frozen? ⟨g, j, none⟩ = false := owns_cell x.row (marksB_at m n j hj)
theorem GMk.lt {w u : World} {g n m : Nat} {h l : Int} (x : GMk w u g n m h l) : g < u.heap.size := (x.row.lt g rfl).2

set_option maxRecDepth 100000 in
set_option maxHeartbeats 2000000 in
theorem Apart_no (h l : Int) (q : gOk h l = false) (w : World) : Calls Try.prog 4 #[.agg #[.int .i64 h, .int .i64 l]] w fun e w' => e = .returned (.bool true) ∧ Below w.heap.size w w' := by
  have HA := Lib.hid galive_is
  have H1 := Lib.hid (fun u => gright_is h l u)
  rw [q] at H1
  clear q
  go_enter Try.func4, Try.ntmps4
  go_wp2_with (first
    | (go_at_call 8; refine (H1.out _).mono ?_; rintro e w1 ⟨rfl, b1⟩; have HK := Lib.hid (GBox.laid b1).2; clear b1)
    | (go_at_call 6; refine (HA.out _).mono ?_; rintro e w2 ⟨rfl, b2⟩; replace HK := Lib.hid (geo_next HK.out b2); clear b2))
  go_ret
  exact ⟨rfl, HK.out⟩
theorem GMk.to {w u : World} {g n m m' : Nat} {h l : Int} (x : GMk w u g n m h l) (e : m = m') : GMk w u g n m' h l := by rw [← e]; exact x
theorem gIn_0 {h l : Int} (q : gOk h l = true) (c : Int) : gIn h l 0 c = decide (16 ≤ c ∧ c < 16 + h) := by
  have := gEdge_or 0 q
  have e : gBase h l 0 = 16 ∧ gEnd h l 0 = 16 + h := by omega
  rw [gIn, e.1, e.2]
theorem gIn_1 {h l : Int} (q : gOk h l = true) (c : Int) : gIn h l 1 c = decide (16 + h ≤ c ∧ c < 16 + h + h) := by
  have := gEdge_or 1 q
  have e : gBase h l 1 = 16 + h ∧ gEnd h l 1 = 16 + h + h := by omega
  rw [gIn, e.1, e.2]
theorem gpage_at {h l : Int} {P : Nat} (hP : gPages h l = P) (no s : Nat) (h1 : no < P) (h2 : s < 2) (u : World) : Calls Try.prog 11 #[.agg #[.int .i64 h, .int .i64 l], .int .i64 (no : Int), .int .i64 (s : Int)] u fun e w' => e = .returned (.int .i64 ((2 + 6 * no + 3 * s : Nat) : Int)) ∧ Below u.heap.size u w' := by
  refine (gpage_is h l no s u).mono fun e w' ⟨he, hb⟩ => ⟨he.trans (geo_i ?_), hb⟩
  rw [gPage, if_pos (by omega)]
  omega

set_option maxRecDepth 100000 in
set_option maxHeartbeats 8000000 in
theorem Apart_yes (H L : Nat) (q : gOk H L = true) (w : World) : Calls Try.prog 4 #[.agg #[.int .i64 (H : Int), .int .i64 (L : Int)]] w fun e w' => e = .returned (.bool true) ∧ Below w.heap.size w w' := by
  have hp := gPages_le H L
  have hq := gOk_yes q
  obtain ⟨P, hP⟩ := Int.eq_ofNat_of_zero_le hp.1
  have hPC : P = (16 + 2 * H + 15) / 16 := by
    have := hP
    rw [gPages, gCells_yes q] at this
    omega
  obtain ⟨C, hC⟩ : ∃ C, C = 16 + 2 * H := ⟨_, rfl⟩
  obtain ⟨N, hN⟩ : ∃ N, N = 2 + 6 * P + L := ⟨_, rfl⟩
  obtain ⟨Q, hQ⟩ : ∃ Q, Q = 2 + 6 * P := ⟨_, rfl⟩
  have HA := Lib.hid galive_is
  have H1 := Lib.hid (fun u => gright_is H L u)
  have H3 := Lib.hid (fun u => gsectors_is H L u)
  have HP := Lib.hid (fun u => gpages_is H L u)
  have HC := Lib.hid (fun u => gcells_is H L u)
  have HL := Lib.hid (fun u => glog_is H L u)
  have HG := Lib.hid (fun no s h1 h2 u => gpage_at hP no s h1 h2 u)
  have H0 := Lib.hid (fun c u => gin_is H L 0 c u)
  have HI := Lib.hid (fun c u => gin_is H L 1 c u)
  have HX := Lib.hid (And.intro (gIn_0 q) (gIn_1 q))
  rw [q] at H1
  rw [show gSectors H L = (N : Int) by rw [gSectors_yes q, hP]; omega] at H3
  rw [hP] at HP
  rw [show gCells H L = (C : Int) by rw [gCells_yes q]; omega] at HC
  rw [show gLog H L = (Q : Int) by rw [gLog_yes q, hP]; omega] at HL
  have HN := Lib.hid (And.intro hN (And.intro hQ (And.intro hC hPC)))
  have hP51 : P ≤ 51 := by omega
  have hN0 : N ≤ 1000 := by omega
  have hN2 : 2 + 4 ≤ N := by omega
  have hC0 : C ≤ 1000 := by omega
  clear q hP hp hPC hC hN hQ
  go_enter Try.func4, Try.ntmps4
  go_wp2_with (first
    | (go_at_call 8; refine (H1.out _).mono ?_; rintro e w1 ⟨rfl, b1⟩; have HK := Lib.hid ((GBox.laid b1).1.keep (GBox.laid b1).2); clear b1)
    | (go_at_call 6; refine (HA.out _).mono ?_; rintro e w2 ⟨rfl, b2⟩; replace HK := Lib.hid (gkeep HK.out b2); obtain ⟨c0, c1, _, _⟩ := HK.out; clear b2)
    | (go_at_call 13; refine (H3.out _).mono ?_; rintro e w3 ⟨rfl, b3⟩; replace HK := Lib.hid (gkeep HK.out b3); obtain ⟨wm, hmk, bm, om⟩ := make_bools w3 N (by omega); have HM : Hid (GMk w wm w3.heap.size N 0 H L) := Lib.hid ⟨gkeep HK.out bm, om, HK.out.2.2.1⟩; clear c0 c1 b3 bm om HK))
  clear hmk
  generalize w3.heap.size = g at *
  clear HA H1 H3
  go_loopg [5] 2 (fun gk i wr => ∃ k : Nat, k ≤ 2 ∧ gk = 2 - k ∧ i = .int .i64 (k : Int) ∧ Hid (GMk w wr g N k H L))
  case atStart => exact ⟨0, Nat.zero_le _, rfl, rfl, HM⟩
  case round =>
  clear HM
  obtain ⟨k, hk, rfl, rfl, HK⟩ := hrel
  by_cases hlt : k < 2
  · have hi : (k : Int) < 2 := by omega
    have hn : (k : Int) < (N : Int) := by omega
    obtain ⟨ck, fk⟩ := HK.out.at_ k (by omega)
    go_wp2
    go_roundg (2 - (k + 1))
    case measure => omega
    case rel => exact ⟨k + 1, by omega, rfl, by go_num, Lib.hid HK.out.set⟩
  obtain rfl : k = 2 := by omega
  clear hlt hk
  go_wp2
  go_loopg [6] P (fun gk i wr => ∃ no : Nat, no ≤ P ∧ gk = P - no ∧ i = .int .i64 (no : Int) ∧ Hid (GMk w wr g N (2 + 6 * no) H L))
  case atStart => exact ⟨0, Nat.zero_le _, rfl, rfl, HK⟩
  case round =>
  clear HK
  obtain ⟨no, hno, rfl, rfl, HK⟩ := hrel
  obtain ⟨c0, c1, _, _⟩ := HK.out.box
  by_cases hlt : no < P
  · have hi : (no : Int) < (P : Int) := by omega
    go_wp2_with (go_at_call 10; refine (HP.out _).mono ?_; rintro e w4 ⟨rfl, b4⟩; replace HK := Lib.hid (HK.out.below b4); clear b4 c0 c1)
    go_loopg [7] 2 (fun gk i wr => ∃ s : Nat, s ≤ 2 ∧ gk = 2 - s ∧ i = .int .i64 (s : Int) ∧ Hid (GMk w wr g N (2 + 6 * no + 3 * s) H L))
    case atStart => exact ⟨0, Nat.zero_le _, rfl, rfl, HK⟩
    case round =>
    clear HK
    obtain ⟨s, hs, rfl, rfl, HK⟩ := hrel
    by_cases hls : s < 2
    · have his : (s : Int) < 2 := by omega
      go_wp2
      go_loopg [8] 3 (fun gk i wr => ∃ k : Nat, k ≤ 3 ∧ gk = 3 - k ∧ i = .int .i64 (k : Int) ∧ Hid (GMk w wr g N (2 + 6 * no + 3 * s + k) H L))
      case atStart => exact ⟨0, Nat.zero_le _, rfl, rfl, HK⟩
      case round =>
      clear HK
      obtain ⟨k, hk, rfl, rfl, HK⟩ := hrel
      obtain ⟨c0, c1, _, _⟩ := HK.out.box
      by_cases hlk : k < 3
      · have hik : (k : Int) < 3 := by omega
        have HE := Lib.hid (HG.out no s hlt hls)
        obtain ⟨A, hA⟩ : ∃ A, A = 2 + 6 * no + 3 * s := ⟨_, rfl⟩
        obtain ⟨J, hJ⟩ : ∃ J, J = A + k := ⟨_, rfl⟩
        have hJ0 : J < N := by have := HN.out.1; omega
        have hA0 : (A : Int) ≤ 1000 := by omega
        have hJi : (A : Int) + (k : Int) = (J : Int) := by omega
        have hJn : (J : Int) < (N : Int) := by omega
        rw [← hA] at HE HK
        rw [← hJ] at HK
        have HJ := Lib.hid (And.intro hA hJ)
        clear hA hJ
        go_wp2_with (go_at_call 11; refine (HE.out _).mono ?_; rintro e w5 ⟨rfl, b5⟩; replace HK := Lib.hid (HK.out.below b5); obtain ⟨ck, fk⟩ := HK.out.at_ J hJ0; rw [decide_eq_false (Nat.lt_irrefl _)] at ck; clear b5 c0 c1)
        go_roundg (3 - (k + 1))
        case measure => omega
        case rel => exact ⟨k + 1, by omega, rfl, by go_num, Lib.hid (HK.out.set.to (by have := HJ.out; omega))⟩
      · obtain rfl : k = 3 := by omega
        clear hlk hk c0 c1
        go_wp2
        go_roundg (2 - (s + 1))
        case measure => omega
        case rel => exact ⟨s + 1, by omega, rfl, by go_num, Lib.hid (HK.out.to (by omega))⟩
    · obtain rfl : s = 2 := by omega
      clear hls hs
      go_wp2
      go_roundg (P - (no + 1))
      case measure => omega
      case rel => exact ⟨no + 1, by omega, rfl, by go_num, Lib.hid (HK.out.to (by omega))⟩
  obtain rfl : P = no := by omega
  replace HK := Lib.hid (HK.out.to (show 2 + 6 * P = Q by have := HN.out; omega))
  clear hlt hno
  go_wp2_with (go_at_call 10; refine (HP.out _).mono ?_; rintro e w4 ⟨rfl, b4⟩; replace HK := Lib.hid (HK.out.below b4); clear b4 c0 c1)
  go_loopg [10] L (fun gk i wr => ∃ k : Nat, k ≤ L ∧ gk = L - k ∧ i = .int .i64 (k : Int) ∧ Hid (GMk w wr g N (Q + k) H L))
  case atStart => exact ⟨0, Nat.zero_le _, rfl, rfl, HK⟩
  case round =>
  clear HK
  obtain ⟨k, hk, rfl, rfl, HK⟩ := hrel
  obtain ⟨c0, c1, _, _⟩ := HK.out.box
  by_cases hlt : k < L
  · have hi : (k : Int) < (L : Int) := by omega
    obtain ⟨J, hJ⟩ : ∃ J, J = Q + k := ⟨_, rfl⟩
    have hJ0 : J < N := by have := HN.out; omega
    have hQ0 : (Q : Int) ≤ 1000 := by omega
    have hJi : (Q : Int) + (k : Int) = (J : Int) := by omega
    have hJn : (J : Int) < (N : Int) := by omega
    rw [← hJ] at HK
    have HJ := Lib.hid hJ
    clear hJ
    go_wp2_with (go_at_call 12; refine (HL.out _).mono ?_; rintro e w5 ⟨rfl, b5⟩; replace HK := Lib.hid (HK.out.below b5); obtain ⟨ck, fk⟩ := HK.out.at_ J hJ0; rw [decide_eq_false (Nat.lt_irrefl _)] at ck; clear b5 c0 c1)
    go_roundg (L - (k + 1))
    case measure => omega
    case rel => exact ⟨k + 1, by omega, rfl, by go_num, Lib.hid (HK.out.set.to (by have := HJ.out; omega))⟩
  obtain rfl : L = k := by omega
  replace HK := Lib.hid (HK.out.to (show Q + L = N by have := HN.out; omega))
  clear hlt hk
  go_wp2
  clear c0 c1
  go_loopg [12] N (fun gk i wr => ∃ k : Nat, k ≤ N ∧ gk = N - k ∧ i = .int .i64 (k : Int) ∧ Hid (GMk w wr g N N H L))
  case atStart => exact ⟨0, Nat.zero_le _, rfl, rfl, HK⟩
  case round =>
  clear HK
  obtain ⟨k, hk, rfl, rfl, HK⟩ := hrel
  by_cases hlt : k < N
  · have hi : (k : Int) < (N : Int) := by omega
    obtain ⟨ck, fk⟩ := HK.out.at_ k hlt
    rw [decide_eq_true hlt] at ck
    go_wp2
    go_roundg (N - (k + 1))
    case measure => omega
    case rel => exact ⟨k + 1, by omega, rfl, by go_num, HK⟩
  obtain rfl : N = k := by omega
  clear hlt hk
  go_wp2
  replace HK := Lib.hid HK.out.box
  go_loopg [13] C (fun gk i wr => ∃ c : Nat, c ≤ C ∧ gk = C - c ∧ i = .int .i64 (c : Int) ∧ Hid (wr.cell? ⟨w.heap.size, 0, none⟩ = some (.int .i64 H) ∧ wr.cell? ⟨w.heap.size, 1, none⟩ = some (.int .i64 L) ∧ w.heap.size < wr.heap.size ∧ Below w.heap.size w wr))
  case atStart => exact ⟨0, Nat.zero_le _, rfl, rfl, HK⟩
  case round =>
  clear HK
  obtain ⟨c, hc, rfl, rfl, HK⟩ := hrel
  obtain ⟨c0, c1, _, _⟩ := HK.out
  by_cases hlt : c < C
  · have hi : (c : Int) < (C : Int) := by omega
    have HC2 := Lib.hid HN.out.2.2.1
    have HS : Hid ((decide ((16 : Int) ≤ (c : Int)) = false ∧ gIn H L 0 c = false ∧ gIn H L 1 c = false) ∨ (decide ((16 : Int) ≤ (c : Int)) = true ∧ gIn H L 0 c = true ∧ gIn H L 1 c = false) ∨ (decide ((16 : Int) ≤ (c : Int)) = true ∧ gIn H L 0 c = false ∧ gIn H L 1 c = true)) := Lib.hid (by
      rw [HX.out.1, HX.out.2]
      have := HC2.out
      by_cases h1 : c < 16
      · exact .inl ⟨decide_eq_false (by omega), decide_eq_false (by omega), decide_eq_false (by omega)⟩
      · by_cases h2 : c < 16 + H
        · exact .inr (.inl ⟨decide_eq_true (by omega), decide_eq_true (by omega), decide_eq_false (by omega)⟩)
        · exact .inr (.inr ⟨decide_eq_true (by omega), decide_eq_false (by omega), decide_eq_true (by omega)⟩))
    have E0 := Lib.hid (fun u => H0.out c u)
    have E1 := Lib.hid (fun u => HI.out c u)
    clear HG HL HP H0 HI HX HC2 HN
    generalize gIn H L 0 c = i0 at *
    generalize gIn H L 1 c = i1 at *
    go_wp2_with (go_at_call 9; refine (HC.out _).mono ?_; rintro e w5 ⟨rfl, b5⟩; replace HK := Lib.hid (gkeep HK.out b5); clear b5 c0 c1)
    rcases HS.out with ⟨hd, rfl, rfl⟩ | ⟨hd, rfl, rfl⟩ | ⟨hd, rfl, rfl⟩
    all_goals
      go_region_held3 (fun u => u.cell? ⟨w.heap.size, 0, none⟩ = some (.int .i64 H) ∧ u.cell? ⟨w.heap.size, 1, none⟩ = some (.int .i64 L) ∧ w.heap.size < u.heap.size ∧ Below w.heap.size w u) (first
          | assumption
          | exact HK.out
          | exact gkeep HK.out (Below.refl _ _).drew
          | exact gkeep (by assumption) b2) (first
        | (go_at_call 16
           first | (with_reducible refine (E0.out _).mono ?_) | (with_reducible refine (E1.out _).mono ?_)
           rintro e' w2 ⟨rfl, b2⟩))
      rename_i hH
      have HM := Lib.hid hH
      clear hH HK
      go_wp2_with fail
      go_roundg (C - (c + 1))
      case measure => omega
      case rel => exact ⟨c + 1, by omega, rfl, by go_num, HM⟩
  obtain rfl : C = c := by omega
  clear hlt hc
  go_wp2_with (go_at_call 9; refine (HC.out _).mono ?_; rintro e w5 ⟨rfl, b5⟩; replace HK := Lib.hid (gkeep HK.out b5); clear b5 c0 c1)
  have hd : decide ((C : Int) ≤ IntKind.i64.wrap ((P : Int) * 16)) = true := decide_eq_true (by
    have := HN.out
    rw [IntKind.wrap_i64]
    omega)
  go_region_held3 (fun u => u.cell? ⟨w.heap.size, 0, none⟩ = some (.int .i64 H) ∧ u.cell? ⟨w.heap.size, 1, none⟩ = some (.int .i64 L) ∧ w.heap.size < u.heap.size ∧ Below w.heap.size w u) (first
      | assumption
      | exact HK.out
      | exact gkeep HK.out (Below.refl _ _).drew
      | exact gkeep (by assumption) b2) (first
    | (go_at_call 10; refine (HP.out _).mono ?_; rintro e' w2 ⟨rfl, b2⟩)
    | (go_at_call 9; refine (HC.out _).mono ?_; rintro e' w2 ⟨rfl, b2⟩))
  rename_i hH
  have HM := Lib.hid hH
  clear hH HK
  go_wp2_with fail
  go_ret
  exact ⟨rfl, HM.out.2.2.2⟩

theorem Apart_walk (h l : Int) (w : World) : Calls Try.prog 4 #[.agg #[.int .i64 h, .int .i64 l]] w fun e w' => e = .returned (.bool true) ∧ Below w.heap.size w w' := by
  cases q : gOk h l
  · exact Apart_no h l q w
  · have hq := gOk_yes q
    obtain ⟨H, rfl⟩ := Int.eq_ofNat_of_zero_le (show 0 ≤ h by omega)
    obtain ⟨L, rfl⟩ := Int.eq_ofNat_of_zero_le (show 0 ≤ l by omega)
    exact Apart_yes H L q w
end Go.Proofs.Ytngfijpdbjkpiaa
