import Derived.Test.YtbghglkplbnnkaaGreatDoorYHeap
import Derived.Test.YtbghglkplbnnkaaGreatDoorYFive
import Derived.Test.YtbghglkplbnnkaaGreatDoorYStoreG
set_option linter.unusedVariables false
set_option linter.unusedSimpArgs false
-- SpaceIs
namespace Go.Proofs.YtbghglkplbnnkaaGreatDoor
open Go.RowKit Sec
open Go.Proofs.YtbghglkplbnnkaaGreatDoor.Bk

structure Row4 (u : World) (g : Nat) (v0 v1 v2 v3 : Value) : Prop where
  lt : g < u.heap.size
  c0 : u.cell? ⟨g, 0, none⟩ = some v0
  c1 : u.cell? ⟨g, 1, none⟩ = some v1
  c2 : u.cell? ⟨g, 2, none⟩ = some v2
  c3 : u.cell? ⟨g, 3, none⟩ = some v3
  f0 : u.frozen? ⟨g, 0, none⟩ = false
  f1 : u.frozen? ⟨g, 1, none⟩ = false
  f2 : u.frozen? ⟨g, 2, none⟩ = false
  f3 : u.frozen? ⟨g, 3, none⟩ = false
theorem Row4.below {u u' : World} {g : Nat} {v0 v1 v2 v3 : Value} (h : Row4 u g v0 v1 v2 v3) (b : Below u.heap.size u u') : Row4 u' g v0 v1 v2 v3 :=
  have c : ∀ o, u'.cell? ⟨g, o, none⟩ = u.cell? ⟨g, o, none⟩ := fun o => b.cell (p := ⟨g, o, none⟩) h.lt
  have f : ∀ o, u'.frozen? ⟨g, o, none⟩ = u.frozen? ⟨g, o, none⟩ := fun o => b.frozen (p := ⟨g, o, none⟩) h.lt
  ⟨Nat.lt_of_lt_of_le h.lt b.size, (c 0).trans h.c0, (c 1).trans h.c1, (c 2).trans h.c2, (c 3).trans h.c3, (f 0).trans h.f0, (f 1).trans h.f1, (f 2).trans h.f2, (f 3).trans h.f3⟩
theorem Row4.made (w : World) (v0 v1 v2 v3 : Value) (t : TypeId) : Row4 (w.alloc (.cells #[v0, v1, v2, v3] t)) w.heap.size v0 v1 v2 v3 := by
  refine ⟨?_, ?_, ?_, ?_, ?_, ?_, ?_, ?_, ?_⟩ <;> simp
theorem Row4.set4 {u : World} {g : Nat} {z0 z1 z2 z3 : Value} (h : Row4 u g z0 z1 z2 z3) (v0 v1 v2 v3 : Value) :
    Row4 ((((u.setCell ⟨g, 0, none⟩ v0).setCell ⟨g, 1, none⟩ v1).setCell ⟨g, 2, none⟩ v2).setCell ⟨g, 3, none⟩ v3) g v0 v1 v2 v3 := by
  obtain ⟨l0, c0, c1, c2, c3, f0, f1, f2, f3⟩ := h
  refine ⟨?_, ?_, ?_, ?_, ?_, ?_, ?_, ?_, ?_⟩ <;> (first | exact (by simpa using l0) | (simp only [World.frozen?_setCell]; assumption) | simp [go_sem, set_same, c0, c1, c2, c3])
theorem Row4.kept {B : Nat} {w u : World} {g : Nat} {v0 v1 v2 v3 : Value} (b : Below B w u) (hg : B ≤ g) : Below B w ((((u.setCell ⟨g, 0, none⟩ v0).setCell ⟨g, 1, none⟩ v1).setCell ⟨g, 2, none⟩ v2).setCell ⟨g, 3, none⟩ v3) :=
  (((b.setCell (p := ⟨g, 0, none⟩) hg _).setCell (p := ⟨g, 1, none⟩) hg _).setCell (p := ⟨g, 2, none⟩) hg _).setCell (p := ⟨g, 3, none⟩) hg _
theorem Row4.load {w : World} {g : Nat} {v0 v1 v2 v3 : Value} (h : Row4 w g v0 v1 v2 v3) : (loadVar 56 ⟨g, 0, none⟩).run Tryz.prog w = .ok (.agg #[v0, v1, v2, v3]) w := by
  obtain ⟨l0, c0, c1, c2, c3, f0, f1, f2, f3⟩ := h
  simp [go_sem, c0, c1, c2, c3]

def ctlB (b d fr gc sc : Int) : Bool := decide (b ≠ 0) && (decide (b ≤ fr ∧ fr ≤ d) && (decide (gc = 0 ∧ sc = 0) || decide (gc = 1 ∧ b ≤ sc ∧ sc ≤ fr)))
theorem ctl_fine (h l sp fr gc sc : Int) : ctlB (geBase h l sp) (geEnd h l sp) fr gc sc = fineB h l sp fr gc sc := by
  cases q : geHalf h l sp
  · rw [geBase, q, if_neg (by decide), ctlB, decide_eq_false (by decide), Bool.false_and]
    cases q1 : geOk h l
    · rw [fine_no0 q1]
    · rw [geHalf, q1, Bool.true_and] at q
      have := of_decide_eq_false q
      rw [fine_no1 (by omega)]
  · rw [geBase, geEnd, q, if_pos rfl, if_pos rfl]
    obtain ⟨k1, k2⟩ := Bool.and_eq_true_iff.1 (show (geOk h l && decide (0 ≤ sp ∧ sp < 2)) = true from q)
    have hq := geOk_yes k1
    have hs := of_decide_eq_true k2
    have hb : 16 + sp * h ≠ 0 := by
      obtain rfl | rfl : sp = 0 ∨ sp = 1 := by omega
      · omega
      · omega
    by_cases c : 0 ≤ gc ∧ gc ≤ 1
    · rw [fine_mid k1 ⟨by omega, by omega, c.1, c.2⟩, ctlB, decide_eq_true hb, Bool.true_and]
    · rw [fine_no1 (fun x => c ⟨x.2.2.1, x.2.2.2⟩), ctlB, decide_eq_false (show ¬ (gc = 0 ∧ sc = 0) by omega), decide_eq_false (show ¬ (gc = 1 ∧ 16 + sp * h ≤ sc ∧ sc ≤ fr) by omega)]
      simp
theorem ctl_yes {b d fr gc sc : Int} (h : b ≠ 0 ∧ (b ≤ fr ∧ fr ≤ d) ∧ ((gc = 0 ∧ sc = 0) ∨ (gc = 1 ∧ b ≤ sc ∧ sc ≤ fr))) : ctlB b d fr gc sc = true := by
  obtain ⟨h1, h2, h3⟩ := h
  rw [ctlB, decide_eq_true h1, decide_eq_true h2, Bool.true_and, Bool.true_and]
  rcases h3 with h3 | h3
  · rw [decide_eq_true h3, Bool.true_or]
  · rw [decide_eq_true h3, Bool.or_true]
theorem ctl_no {b d fr gc sc : Int} (h : ¬ (b ≠ 0 ∧ (b ≤ fr ∧ fr ≤ d) ∧ ((gc = 0 ∧ sc = 0) ∨ (gc = 1 ∧ b ≤ sc ∧ sc ≤ fr)))) : ctlB b d fr gc sc = false := by
  cases q : ctlB b d fr gc sc
  · rfl
  · exfalso
    simp only [ctlB, Bool.and_eq_true, Bool.or_eq_true, decide_eq_true_eq] at q
    exact h q
theorem ctl_cases (b d fr gc sc : Int) : (b == 0) = true ∨ ((b == 0) = false ∧ fr < b) ∨ ((b == 0) = false ∧ b ≤ fr ∧ d < fr) ∨ ((b == 0) = false ∧ b ≤ fr ∧ fr ≤ d ∧ gc < 0) ∨ ((b == 0) = false ∧ b ≤ fr ∧ fr ≤ d ∧ 0 ≤ gc ∧ 1 < gc) ∨
    ((b == 0) = false ∧ b ≤ fr ∧ fr ≤ d ∧ 0 ≤ gc ∧ gc ≤ 1 ∧ (gc == 0) = true ∧ (gc == 1) = false ∧ (sc == 0) = true) ∨ ((b == 0) = false ∧ b ≤ fr ∧ fr ≤ d ∧ 0 ≤ gc ∧ gc ≤ 1 ∧ (gc == 0) = true ∧ (gc == 1) = false ∧ (sc == 0) = false) ∨
    ((b == 0) = false ∧ b ≤ fr ∧ fr ≤ d ∧ 0 ≤ gc ∧ gc ≤ 1 ∧ (gc == 0) = false ∧ (gc == 1) = true ∧ sc < b) ∨ ((b == 0) = false ∧ b ≤ fr ∧ fr ≤ d ∧ 0 ≤ gc ∧ gc ≤ 1 ∧ (gc == 0) = false ∧ (gc == 1) = true ∧ b ≤ sc ∧ fr < sc) ∨ ((b == 0) = false ∧ b ≤ fr ∧ fr ≤ d ∧ 0 ≤ gc ∧ gc ≤ 1 ∧ (gc == 0) = false ∧ (gc == 1) = true ∧ b ≤ sc ∧ sc ≤ fr) := by
  have one : ∀ x y : Int, (x == y) = true ∨ (x == y) = false := fun x y => by cases x == y <;> simp
  have no : ∀ x y : Int, x ≠ y → (x == y) = false := fun x y h => by simpa using h
  have yes : ∀ x y : Int, x = y → (x == y) = true := fun x y h => by simpa using h
  rcases one b 0 with h | h
  · exact .inl h
  refine .inr ?_
  rcases Int.lt_or_le fr b with h1 | h1
  · exact .inl ⟨h, h1⟩
  refine .inr ?_
  rcases Int.lt_or_le d fr with h2 | h2
  · exact .inl ⟨h, h1, h2⟩
  refine .inr ?_
  rcases Int.lt_or_le gc 0 with h3 | h3
  · exact .inl ⟨h, h1, h2, h3⟩
  refine .inr ?_
  rcases Int.lt_or_le 1 gc with h4 | h4
  · exact .inl ⟨h, h1, h2, h3, h4⟩
  refine .inr ?_
  rcases Decidable.em (gc = 0) with h5 | h5
  · rcases one sc 0 with h6 | h6
    · exact .inl ⟨h, h1, h2, h3, h4, yes _ _ h5, no _ _ (by omega), h6⟩
    · exact .inr (.inl ⟨h, h1, h2, h3, h4, yes _ _ h5, no _ _ (by omega), h6⟩)
  · refine .inr (.inr ?_)
    have h6 := no _ _ h5
    have h7 := yes gc 1 (by omega)
    rcases Int.lt_or_le sc b with h8 | h8
    · exact .inl ⟨h, h1, h2, h3, h4, h6, h7, h8⟩
    refine .inr ?_
    rcases Int.lt_or_le fr sc with h9 | h9
    · exact .inl ⟨h, h1, h2, h3, h4, h6, h7, h8, h9⟩
    · exact .inr ⟨h, h1, h2, h3, h4, h6, h7, h8, h9⟩
def Kept6 (w : World) (h l sp fr gc sc : Int) (u : World) : Prop :=
  (u.cell? ⟨w.heap.size, 0, none⟩ = some (.int .i64 h) ∧ u.cell? ⟨w.heap.size, 1, none⟩ = some (.int .i64 l) ∧ u.cell? ⟨w.heap.size + 1, 0, none⟩ = some (.int .i64 sp) ∧ u.cell? ⟨w.heap.size + 1, 1, none⟩ = some (.int .i64 fr) ∧ u.cell? ⟨w.heap.size + 1, 2, none⟩ = some (.int .i64 gc) ∧ u.cell? ⟨w.heap.size + 1, 3, none⟩ = some (.int .i64 sc)) ∧ w.heap.size + 1 < u.heap.size ∧ Below w.heap.size w u
theorem kept6_made (w : World) (h l sp fr gc sc : Int) : Kept6 w h l sp fr gc sc ((w.alloc (.cells #[.int .i64 h, .int .i64 l] 23)).alloc (.cells #[.int .i64 sp, .int .i64 fr, .int .i64 gc, .int .i64 sc] 56)) := by
  have m := Row4.made (w.alloc (.cells #[.int .i64 h, .int .i64 l] 23)) (.int .i64 sp) (.int .i64 fr) (.int .i64 gc) (.int .i64 sc) 56
  rw [size_alloc] at m
  have k := (GBox.made w h l 23).below ((Below.refl _ _).alloc (Nat.le_refl _) (.cells #[.int .i64 sp, .int .i64 fr, .int .i64 gc, .int .i64 sc] 56))
  exact ⟨⟨k.c0, k.c1, m.c0, m.c1, m.c2, m.c3⟩, by simp, ((Below.refl _ _).alloc (Nat.le_refl _) _).alloc (by simp) _⟩
theorem kept6_keep {w u u' : World} {h l sp fr gc sc : Int} (x : Kept6 w h l sp fr gc sc u) (b : Below u.heap.size u u') : Kept6 w h l sp fr gc sc u' := by
  obtain ⟨⟨x0, x1, x2, x3, x4, x5⟩, x6, x7⟩ := x
  have c : ∀ k o, k < u.heap.size → u'.cell? ⟨k, o, none⟩ = u.cell? ⟨k, o, none⟩ := fun k o q => b.cell (p := ⟨k, o, none⟩) q
  exact ⟨⟨(c _ _ (by omega)).trans x0, (c _ _ (by omega)).trans x1, (c _ _ x6).trans x2, (c _ _ x6).trans x3, (c _ _ x6).trans x4, (c _ _ x6).trans x5⟩, Nat.lt_of_lt_of_le x6 b.size, geo_next x7 b⟩
set_option maxRecDepth 100000 in
set_option maxHeartbeats 4000000 in
theorem spright_is (h l sp fr gc sc : Int) (w : World) : Calls Tryz.prog 43 #[.agg #[.int .i64 h, .int .i64 l], .agg #[.int .i64 sp, .int .i64 fr, .int .i64 gc, .int .i64 sc]] w fun e w' => e = .returned (.bool (fineB h l sp fr gc sc)) ∧ Below w.heap.size w w' := by
  have HB := Lib.hid (fun u => gbase_is h l sp u)
  have HE := Lib.hid (fun u => gend_is h l sp u)
  rw [← ctl_fine]
  generalize geBase h l sp = b at *
  generalize geEnd h l sp = d at *
  have HK := Lib.hid (kept6_made w h l sp fr gc sc)
  have HC := Lib.hid (fun (t : Bool) (x : ctlB b d fr gc sc = t) => x)
  have hc := ctl_cases b d fr gc sc
  rcases hc with hc | ⟨hb, hc⟩ | ⟨hb, hc1, hc2⟩ | ⟨hb, hc1, hc2, hc3⟩ | ⟨hb, hc1, hc2, hc3, hc4⟩ | ⟨hb, hc1, hc2, hc3, hc4, hc5, hc6, hc7⟩ | ⟨hb, hc1, hc2, hc3, hc4, hc5, hc6, hc7⟩ | ⟨hb, hc1, hc2, hc3, hc4, hc5, hc6, hc7⟩ | ⟨hb, hc1, hc2, hc3, hc4, hc5, hc6, hc7, hc8⟩ | ⟨hb, hc1, hc2, hc3, hc4, hc5, hc6, hc7, hc8⟩
  all_goals
    generalize hC : ctlB b d fr gc sc = t at *
    replace HC := Lib.hid hC
    clear hC
    go_enter Tryz.func43, Tryz.ntmps43
    go_wp2_with fail
    go_region_held3 (fun u => (u.cell? ⟨w.heap.size, 0, none⟩ = some (.int .i64 h) ∧ u.cell? ⟨w.heap.size, 1, none⟩ = some (.int .i64 l) ∧ u.cell? ⟨w.heap.size + 1, 0, none⟩ = some (.int .i64 sp) ∧ u.cell? ⟨w.heap.size + 1, 1, none⟩ = some (.int .i64 fr) ∧ u.cell? ⟨w.heap.size + 1, 2, none⟩ = some (.int .i64 gc) ∧ u.cell? ⟨w.heap.size + 1, 3, none⟩ = some (.int .i64 sc)) ∧ w.heap.size + 1 < u.heap.size ∧ Below w.heap.size w u) (first
        | assumption
        | exact HK.out
        | exact kept6_keep HK.out (Below.refl _ _).drew
        | exact kept6_keep (by assumption) b2) (first
      | (go_at_call 44; refine (HB.out _).mono ?_; rintro e' w2 ⟨rfl, b2⟩)
      | (go_at_call 50; refine (HE.out _).mono ?_; rintro e' w2 ⟨rfl, b2⟩))
    rename_i hH
    have HL := Lib.hid hH.2.2
    obtain ⟨⟨_, _, _, x1, x2, x3⟩, _, _⟩ := hH
    go_wp2_with fail
    go_ret
    refine ⟨geo_b ?_, HL.out⟩
    rw [← HC.out]
    clear HL HC x1 x2 x3 HB HE HK
    first
      | exact (ctl_yes (by simp only [beq_eq_false_iff_ne, ne_eq, beq_iff_eq] at *; omega)).symm
      | exact (ctl_no (by simp only [beq_eq_false_iff_ne, ne_eq, beq_iff_eq] at *; omega)).symm
end Go.Proofs.YtbghglkplbnnkaaGreatDoor
-- StoreNil
namespace Go.Proofs.YtbghglkplbnnkaaGreatDoor
open Go.RowKit Sec
open Go.Proofs.YtbghglkplbnnkaaGreatDoor.Bk

end Go.Proofs.YtbghglkplbnnkaaGreatDoor
-- SpaceGet
namespace Go.Proofs.YtbghglkplbnnkaaGreatDoor
open Go.RowKit Sec
open Go.Proofs.YtbghglkplbnnkaaGreatDoor.Bk

def Kept4 (w : World) (sp fr gc sc : Int) (u : World) : Prop :=
  (u.cell? ⟨w.heap.size, 0, none⟩ = some (.int .i64 sp) ∧ u.cell? ⟨w.heap.size, 1, none⟩ = some (.int .i64 fr) ∧ u.cell? ⟨w.heap.size, 2, none⟩ = some (.int .i64 gc) ∧ u.cell? ⟨w.heap.size, 3, none⟩ = some (.int .i64 sc)) ∧ w.heap.size < u.heap.size ∧ Below w.heap.size w u
theorem kept4_made (w : World) (sp fr gc sc : Int) : Kept4 w sp fr gc sc (w.alloc (.cells #[.int .i64 sp, .int .i64 fr, .int .i64 gc, .int .i64 sc] 56)) := by
  have m := Row4.made w (.int .i64 sp) (.int .i64 fr) (.int .i64 gc) (.int .i64 sc) 56
  exact ⟨⟨m.c0, m.c1, m.c2, m.c3⟩, m.lt, (Below.refl _ _).alloc (Nat.le_refl _) _⟩
theorem kept4_keep {w u u' : World} {sp fr gc sc : Int} (x : Kept4 w sp fr gc sc u) (b : Below u.heap.size u u') : Kept4 w sp fr gc sc u' := by
  obtain ⟨⟨x2, x3, x4, x5⟩, x6, x7⟩ := x
  have c : ∀ k o, k < u.heap.size → u'.cell? ⟨k, o, none⟩ = u.cell? ⟨k, o, none⟩ := fun k o q => b.cell (p := ⟨k, o, none⟩) q
  exact ⟨⟨(c _ _ x6).trans x2, (c _ _ x6).trans x3, (c _ _ x6).trans x4, (c _ _ x6).trans x5⟩, Nat.lt_of_lt_of_le x6 b.size, geo_next x7 b⟩
theorem ge_end {h l sp : Int} (q : geOk h l = true) (hs : sp = 0 ∨ sp = 1) : geEnd h l sp = 16 + sp * h + h := by
  rw [geEnd, if_pos]
  rw [geHalf, q, Bool.true_and]
  exact decide_eq_true (by omega)
section
variable {w : World} {x : Option Addr} {gv : Int → Int} {h l : Int}
set_option maxRecDepth 100000 in
set_option maxHeartbeats 2000000 in
theorem spget_any (hg : ∀ c u, Below w.heap.size w u → Calls Tryz.prog 35 #[.pointer x, .int .i64 c] u fun e w' => e = .returned (.int .i64 (gv c)) ∧ Below u.heap.size u w') :
    Calls Tryz.prog 28 #[.pointer x] w fun e w' => e = .returned (.agg #[.int .i64 (gv 0), .int .i64 (gv 1), .int .i64 (gv 2), .int .i64 (gv 3)]) ∧ Below w.heap.size w w' := by
  have H0 := Lib.hid (hg 0)
  have H1 := Lib.hid (hg 1)
  have H2 := Lib.hid (hg 2)
  have H3 := Lib.hid (hg 3)
  have HM := Lib.hid (Row4.made w (.int .i64 0) (.int .i64 0) (.int .i64 0) (.int .i64 0) 56)
  have HB : Hid (Below w.heap.size w (w.alloc (.cells #[.int .i64 0, .int .i64 0, .int .i64 0, .int .i64 0] 56))) := Lib.hid ((Below.refl _ _).alloc (Nat.le_refl _) _)
  clear hg
  generalize gv 0 = g0 at *
  generalize gv 1 = g1 at *
  generalize gv 2 = g2 at *
  generalize gv 3 = g3 at *
  go_enter Tryz.func28, Tryz.ntmps28
  go_wp2_with (first
    | (go_at_call 35; refine (H0.out _ HB.out).mono ?_; rintro e w1 ⟨rfl, b1⟩; replace HM := Lib.hid (HM.out.below b1); replace HB := Lib.hid (geo_next HB.out b1); clear b1 H0)
    | (go_at_call 35; refine (H1.out _ HB.out).mono ?_; rintro e w2 ⟨rfl, b2⟩; replace HM := Lib.hid (HM.out.below b2); replace HB := Lib.hid (geo_next HB.out b2); clear b2 H1)
    | (go_at_call 35; refine (H2.out _ HB.out).mono ?_; rintro e w3 ⟨rfl, b3⟩; replace HM := Lib.hid (HM.out.below b3); replace HB := Lib.hid (geo_next HB.out b3); clear b3 H2)
    | (go_at_call 35; refine (H3.out _ HB.out).mono ?_; rintro e w4 ⟨rfl, b4⟩; replace HM := Lib.hid (HM.out.below b4); replace HB := Lib.hid (geo_next HB.out b4); obtain ⟨_, c0, c1, c2, c3, f0, f1, f2, f3⟩ := HM.out; clear b4 H3))
  refine bodyPost_ret (results_cell1 rfl rfl (HM.out.set4 _ _ _ _).load) rfl ?_
  exact ⟨rfl, Row4.kept HB.out (Nat.le_refl _)⟩
set_option maxRecDepth 100000 in
set_option maxHeartbeats 2000000 in
theorem spleft_any (hg : ∀ c u, Below w.heap.size w u → Calls Tryz.prog 35 #[.pointer x, .int .i64 c] u fun e w' => e = .returned (.int .i64 (gv c)) ∧ Below u.heap.size u w')
    (hq : ∀ u, Below w.heap.size w u → Calls Tryz.prog 37 #[.pointer x] u fun e w' => e = .returned (.agg #[.int .i64 h, .int .i64 l]) ∧ Below u.heap.size u w') :
    Calls Tryz.prog 23 #[.pointer x] w fun e w' => e = .returned (.int .i64 (if fineB h l (gv 0) (gv 1) (gv 2) (gv 3) then 16 + gv 0 * h + h - gv 1 else 0)) ∧ Below w.heap.size w w' := by
  have HG := Lib.hid (fun u (y : Below w.heap.size w u) => spget_any (w := u) (x := x) (gv := gv) (fun c v z => hg c v (geo_next y z)))
  have HQ := Lib.hid hq
  have HR := Lib.hid (fun u => spright_is h l (gv 0) (gv 1) (gv 2) (gv 3) u)
  have HE := Lib.hid (fun u => gend_is h l (gv 0) u)
  clear hg hq
  cases q : fineB h l (gv 0) (gv 1) (gv 2) (gv 3)
  · rw [if_neg (by decide)]
    rw [q] at HR
    clear q
    generalize gv 0 = g0 at *
    generalize gv 1 = g1 at *
    generalize gv 2 = g2 at *
    generalize gv 3 = g3 at *
    go_enter Tryz.func23, Tryz.ntmps23
    go_wp2_with (first
      | (go_at_call 37; refine (HQ.out _ (Below.refl _ _)).mono ?_; rintro e w1 ⟨rfl, b1⟩; have H1 := Lib.hid b1; clear b1)
      | (go_at_call 28; refine (HG.out _ H1.out).mono ?_; rintro e w2 ⟨rfl, b2⟩; have H2 := Lib.hid (geo_next H1.out b2); clear b2)
      | (go_at_call 43; refine (HR.out _).mono ?_; rintro e w3 ⟨rfl, b3⟩; have H3 := Lib.hid (kept6_keep (kept6_made w2 h l g0 g1 g2 g3) b3); clear b3))
    go_ret
    exact ⟨rfl, geo_next H2.out H3.out.2.2⟩
  · rw [if_pos rfl]
    rw [q] at HR
    obtain ⟨q1, q2, _, q3, _⟩ := fine_yes q
    have hq := geOk_yes q1
    rw [ge_end q1 q2] at HE
    have hb : 0 ≤ 16 + gv 0 * h ∧ 16 + gv 0 * h ≤ 1000 := by rcases q2 with e | e <;> rw [e] <;> omega
    clear q q1 q2
    generalize gv 0 = g0 at *
    generalize gv 1 = g1 at *
    generalize gv 2 = g2 at *
    generalize gv 3 = g3 at *
    generalize hB : 16 + g0 * h = b at *
    clear hB
    have hw : IntKind.i64.wrap (b + h - g1) = b + h - g1 := by rw [IntKind.wrap_i64]; omega
    clear q3 hq hb
    generalize hD : b + h = d at *
    clear hD
    go_enter Tryz.func23, Tryz.ntmps23
    go_wp2_with (first
      | (go_at_call 37; refine (HQ.out _ (Below.refl _ _)).mono ?_; rintro e w1 ⟨rfl, b1⟩; have H1 := Lib.hid b1; clear b1)
      | (go_at_call 28; refine (HG.out _ H1.out).mono ?_; rintro e w2 ⟨rfl, b2⟩; have H2 := Lib.hid (geo_next H1.out b2); clear b2)
      | (go_at_call 43; refine (HR.out _).mono ?_; rintro e w3 ⟨rfl, b3⟩; have H3 := Lib.hid (kept6_keep (kept6_made w2 h l g0 g1 g2 g3) b3); clear b3))
    go_region_held3 (fun u => (u.cell? ⟨w2.heap.size, 0, none⟩ = some (.int .i64 h) ∧ u.cell? ⟨w2.heap.size, 1, none⟩ = some (.int .i64 l) ∧ u.cell? ⟨w2.heap.size + 1, 0, none⟩ = some (.int .i64 g0) ∧ u.cell? ⟨w2.heap.size + 1, 1, none⟩ = some (.int .i64 g1) ∧ u.cell? ⟨w2.heap.size + 1, 2, none⟩ = some (.int .i64 g2) ∧ u.cell? ⟨w2.heap.size + 1, 3, none⟩ = some (.int .i64 g3)) ∧ w2.heap.size + 1 < u.heap.size ∧ Below w2.heap.size w2 u) (first
        | assumption
        | exact H3.out
        | exact kept6_keep H3.out (Below.refl _ _).drew
        | exact kept6_keep (by assumption) b4) (first
      | (go_at_call 50; refine (HE.out _).mono ?_; rintro e' w4 ⟨rfl, b4⟩))
    rename_i hH
    have HL := Lib.hid (geo_next H2.out hH.2.2)
    clear hH
    go_wp2_with fail
    go_ret
    exact ⟨rfl, HL.out⟩
set_option maxRecDepth 100000 in
set_option maxHeartbeats 2000000 in
theorem spused_any (hg : ∀ c u, Below w.heap.size w u → Calls Tryz.prog 35 #[.pointer x, .int .i64 c] u fun e w' => e = .returned (.int .i64 (gv c)) ∧ Below u.heap.size u w')
    (hq : ∀ u, Below w.heap.size w u → Calls Tryz.prog 37 #[.pointer x] u fun e w' => e = .returned (.agg #[.int .i64 h, .int .i64 l]) ∧ Below u.heap.size u w') :
    Calls Tryz.prog 18 #[.pointer x] w fun e w' => e = .returned (.int .i64 (if fineB h l (gv 0) (gv 1) (gv 2) (gv 3) then gv 1 - (16 + gv 0 * h) else 0)) ∧ Below w.heap.size w w' := by
  have HG := Lib.hid (fun u (y : Below w.heap.size w u) => spget_any (w := u) (x := x) (gv := gv) (fun c v z => hg c v (geo_next y z)))
  have HQ := Lib.hid hq
  have HR := Lib.hid (fun u => spright_is h l (gv 0) (gv 1) (gv 2) (gv 3) u)
  have HE := Lib.hid (fun u => gbase_is h l (gv 0) u)
  clear hg hq
  cases q : fineB h l (gv 0) (gv 1) (gv 2) (gv 3)
  · rw [if_neg (by decide)]
    rw [q] at HR
    clear q
    generalize gv 0 = g0 at *
    generalize gv 1 = g1 at *
    generalize gv 2 = g2 at *
    generalize gv 3 = g3 at *
    go_enter Tryz.func18, Tryz.ntmps18
    go_wp2_with (first
      | (go_at_call 37; refine (HQ.out _ (Below.refl _ _)).mono ?_; rintro e w1 ⟨rfl, b1⟩; have H1 := Lib.hid b1; clear b1)
      | (go_at_call 28; refine (HG.out _ H1.out).mono ?_; rintro e w2 ⟨rfl, b2⟩; have H2 := Lib.hid (geo_next H1.out b2); clear b2)
      | (go_at_call 43; refine (HR.out _).mono ?_; rintro e w3 ⟨rfl, b3⟩; have H3 := Lib.hid (kept6_keep (kept6_made w2 h l g0 g1 g2 g3) b3); clear b3))
    go_ret
    exact ⟨rfl, geo_next H2.out H3.out.2.2⟩
  · rw [if_pos rfl]
    rw [q] at HR
    obtain ⟨q1, q2, _, q3, _⟩ := fine_yes q
    have hq := geOk_yes q1
    rw [ge_base q1 q2] at HE
    have hb : 0 ≤ 16 + gv 0 * h ∧ 16 + gv 0 * h ≤ 1000 := by rcases q2 with e | e <;> rw [e] <;> omega
    clear q q1 q2
    generalize gv 0 = g0 at *
    generalize gv 1 = g1 at *
    generalize gv 2 = g2 at *
    generalize gv 3 = g3 at *
    generalize hB : 16 + g0 * h = b at *
    clear hB
    have hw : IntKind.i64.wrap (g1 - b) = g1 - b := by rw [IntKind.wrap_i64]; omega
    clear q3 hq hb
    generalize hD : b = d at *
    clear hD
    go_enter Tryz.func18, Tryz.ntmps18
    go_wp2_with (first
      | (go_at_call 37; refine (HQ.out _ (Below.refl _ _)).mono ?_; rintro e w1 ⟨rfl, b1⟩; have H1 := Lib.hid b1; clear b1)
      | (go_at_call 28; refine (HG.out _ H1.out).mono ?_; rintro e w2 ⟨rfl, b2⟩; have H2 := Lib.hid (geo_next H1.out b2); clear b2)
      | (go_at_call 43; refine (HR.out _).mono ?_; rintro e w3 ⟨rfl, b3⟩; have H3 := Lib.hid (kept6_keep (kept6_made w2 h l g0 g1 g2 g3) b3); clear b3))
    go_region_held3 (fun u => (u.cell? ⟨w2.heap.size, 0, none⟩ = some (.int .i64 h) ∧ u.cell? ⟨w2.heap.size, 1, none⟩ = some (.int .i64 l) ∧ u.cell? ⟨w2.heap.size + 1, 0, none⟩ = some (.int .i64 g0) ∧ u.cell? ⟨w2.heap.size + 1, 1, none⟩ = some (.int .i64 g1) ∧ u.cell? ⟨w2.heap.size + 1, 2, none⟩ = some (.int .i64 g2) ∧ u.cell? ⟨w2.heap.size + 1, 3, none⟩ = some (.int .i64 g3)) ∧ w2.heap.size + 1 < u.heap.size ∧ Below w2.heap.size w2 u) (first
        | assumption
        | exact H3.out
        | exact kept6_keep H3.out (Below.refl _ _).drew
        | exact kept6_keep (by assumption) b4) (first
      | (go_at_call 44; refine (HE.out _).mono ?_; rintro e' w4 ⟨rfl, b4⟩))
    rename_i hH
    have HL := Lib.hid (geo_next H2.out hH.2.2)
    clear hH
    go_wp2_with fail
    go_ret
    exact ⟨rfl, HL.out⟩
end
end Go.Proofs.YtbghglkplbnnkaaGreatDoor
-- SpaceUse
namespace Go.Proofs.YtbghglkplbnnkaaGreatDoor
open Go.RowKit Sec
open Go.Proofs.YtbghglkplbnnkaaGreatDoor.Bk

def ctlW (W : List Int) (sp fr gc sc : Int) : List Int := (((W.set 0 sp).set 1 fr).set 2 gc).set 3 sc
theorem ctlW_len (W : List Int) (sp fr gc sc : Int) : (ctlW W sp fr gc sc).length = W.length := by simp [ctlW]
theorem ctl_at {W : List Int} {sp fr gc sc : Int} (h : 4 ≤ W.length) : hSp (ctlW W sp fr gc sc) = sp ∧ hFr (ctlW W sp fr gc sc) = fr ∧ hGc (ctlW W sp fr gc sc) = gc ∧ hSc (ctlW W sp fr gc sc) = sc := by
  match W, h with
  | a :: b :: c :: d :: W, _ => exact ⟨rfl, rfl, rfl, rfl⟩
theorem wk_ctl {W : List Int} {N : Nat} (h : 4 ≤ N) : wkC W N 0 = hSp W ∧ wkC W N 1 = hFr W ∧ wkC W N 2 = hGc W ∧ wkC W N 3 = hSc W :=
  ⟨if_pos (by omega), if_pos (by omega), if_pos (by omega), if_pos (by omega)⟩
section
variable {B : Nat} {G : Nat → Prop} {w : World} {s H L : Nat} {W : List Int}
theorem spget_st (h : St B G w s H L W) : Calls Tryz.prog 28 #[.pointer (some ⟨s, 0, none⟩)] w fun e w' => e = .returned (.agg #[.int .i64 (hSp W), .int .i64 (hFr W), .int .i64 (hGc W), .int .i64 (hSc W)]) ∧ Below w.heap.size w w' := by
  have := spget_any (w := w) (x := some ⟨s, 0, none⟩) (gv := fun c => wkC W (16 + 2 * H) c) (fun c u y => st_get (h.below y) c)
  obtain ⟨e0, e1, e2, e3⟩ := wk_ctl (W := W) (N := 16 + 2 * H) (by omega)
  simp only [e0, e1, e2, e3] at this
  exact this
theorem spleft_st (h : St B G w s H L W) : Calls Tryz.prog 23 #[.pointer (some ⟨s, 0, none⟩)] w fun e w' => e = .returned (.int .i64 (if hOk H L W then 16 + hSp W * H + H - hFr W else 0)) ∧ Below w.heap.size w w' := by
  have := spleft_any (w := w) (x := some ⟨s, 0, none⟩) (gv := fun c => wkC W (16 + 2 * H) c) (h := (H : Int)) (l := (L : Int)) (fun c u y => st_get (h.below y) c) (fun u y => st_geo (h.below y))
  obtain ⟨e0, e1, e2, e3⟩ := wk_ctl (W := W) (N := 16 + 2 * H) (by omega)
  simp only [e0, e1, e2, e3] at this
  exact this
theorem spused_st (h : St B G w s H L W) : Calls Tryz.prog 18 #[.pointer (some ⟨s, 0, none⟩)] w fun e w' => e = .returned (.int .i64 (if hOk H L W then hFr W - (16 + hSp W * H) else 0)) ∧ Below w.heap.size w w' := by
  have := spused_any (w := w) (x := some ⟨s, 0, none⟩) (gv := fun c => wkC W (16 + 2 * H) c) (h := (H : Int)) (l := (L : Int)) (fun c u y => st_get (h.below y) c) (fun u y => st_geo (h.below y))
  obtain ⟨e0, e1, e2, e3⟩ := wk_ctl (W := W) (N := 16 + 2 * H) (by omega)
  simp only [e0, e1, e2, e3] at this
  exact this
theorem St.keptG {w' : World} (h : St B G w s H L W) (b : Below w.heap.size w w') : KeptG G w w' := fun k g => b.block k (h.lt k g)
def SpS (B : Nat) (G : Nat → Prop) (w : World) (s H L : Nat) (sp fr gc sc : Int) (W : List Int) (u : World) : Prop :=
  (u.cell? ⟨w.heap.size, 0, none⟩ = some (.int .i64 sp) ∧ u.cell? ⟨w.heap.size, 1, none⟩ = some (.int .i64 fr) ∧ u.cell? ⟨w.heap.size, 2, none⟩ = some (.int .i64 gc) ∧ u.cell? ⟨w.heap.size, 3, none⟩ = some (.int .i64 sc)) ∧ St B (fun k => G k ∨ k = w.heap.size) u s H L W ∧ Below B w u ∧ KeptG G w u
theorem SpS.start {u : World} {sp fr gc sc : Int} (h : St B G w s H L W) (hl : B ≤ w.heap.size) (k : Kept4 w sp fr gc sc u) : SpS B G w s H L sp fr gc sc W u :=
  ⟨k.1, (h.more k.2.2).mono (fun b q => by rcases q with q | rfl; exact .inl q; exact .inr ⟨Nat.le_refl _, k.2.1⟩), k.2.2.mono hl, h.keptG k.2.2⟩
theorem SpS.step {u u' : World} {sp fr gc sc : Int} {V : List Int} (k : SpS B G w s H L sp fr gc sc W u) (h1 : St B (fun k => G k ∨ k = w.heap.size) u' s H L V) (h2 : Below B u u') (h3 : KeptG (fun k => G k ∨ k = w.heap.size) u u') : SpS B G w s H L sp fr gc sc V u' := by
  obtain ⟨⟨x0, x1, x2, x3⟩, _, x5, x6⟩ := k
  have c : ∀ o, u'.cell? ⟨w.heap.size, o, none⟩ = u.cell? ⟨w.heap.size, o, none⟩ := fun o => h3.cell _ (.inr rfl)
  exact ⟨⟨(c 0).trans x0, (c 1).trans x1, (c 2).trans x2, (c 3).trans x3⟩, h1, x5.trans h2, x6.trans (h3.mono fun b q => .inl q)⟩
set_option maxRecDepth 100000 in
set_option maxHeartbeats 4000000 in
theorem spset_yes (h : St B G w s H L W) (sp fr gc sc : Int) (hf : fineB H L sp fr gc sc = true) :
    Calls Tryz.prog 54 #[.pointer (some ⟨s, 0, none⟩), .agg #[.int .i64 sp, .int .i64 fr, .int .i64 gc, .int .i64 sc]] w fun e w' => e = .returned (.bool true) ∧ St B G w' s H L (ctlW W sp fr gc sc) ∧ Below B w w' ∧ KeptG G w w' := by
  have hge := h.ge
  have hle := h.le
  have hN : 4 ≤ 16 + 2 * H := by omega
  obtain ⟨q1, q2, q3, q4, q5⟩ := fine_yes hf
  have hb : 16 + sp * H ≤ 816 := by rcases q2 with e | e <;> rw [e] <;> omega
  have hb0 : 0 ≤ 16 + sp * H := by rcases q2 with e | e <;> rw [e] <;> omega
  have w0 : ∀ V : List Int, setW V (16 + 2 * H) 0 sp = V.set 0 sp := fun V => if_pos (decide_eq_true (by omega))
  have w1 : ∀ V : List Int, setW V (16 + 2 * H) 1 fr = V.set 1 fr := fun V => if_pos (decide_eq_true (by omega))
  have w2 : ∀ V : List Int, setW V (16 + 2 * H) 2 gc = V.set 2 gc := fun V => if_pos (decide_eq_true (by omega))
  have w3 : ∀ V : List Int, setW V (16 + 2 * H) 3 sc = V.set 3 sc := fun V => if_pos (decide_eq_true (by omega))
  have HW : Hid (setW (setW (setW (setW W (16 + 2 * H) 0 sp) (16 + 2 * H) 1 fr) (16 + 2 * H) 2 gc) (16 + 2 * H) 3 sc = ctlW W sp fr gc sc) := Lib.hid (by rw [w0, w1, w2, w3, ctlW])
  have HR := Lib.hid (fun u => spright_is H L sp fr gc sc u)
  rw [hf] at HR
  have HQ := Lib.hid (fun u (y : Below w.heap.size w u) => st_geo (h.below y))
  have HK := Lib.hid (kept4_made w sp fr gc sc)
  have HH := Lib.hid h
  have HL := Lib.hid hle
  clear hf hge hN q1 q2 q3 q4 q5 hb hb0 w0 w1 w2 w3 h hle
  generalize ctlW W sp fr gc sc = V at *
  go_enter Tryz.func54, Tryz.ntmps54
  go_wp2_with fail
  go_region_held3 (fun u => (u.cell? ⟨w.heap.size, 0, none⟩ = some (.int .i64 sp) ∧ u.cell? ⟨w.heap.size, 1, none⟩ = some (.int .i64 fr) ∧ u.cell? ⟨w.heap.size, 2, none⟩ = some (.int .i64 gc) ∧ u.cell? ⟨w.heap.size, 3, none⟩ = some (.int .i64 sc)) ∧ w.heap.size < u.heap.size ∧ Below w.heap.size w u) (first
      | assumption
      | exact HK.out
      | exact kept4_keep HK.out (Below.refl _ _).drew
      | exact kept4_keep (by assumption) b1
      | exact kept4_keep (by assumption) b2) (first
    | (go_at_call 37; refine (HQ.out _ (by first | exact HK.out.2.2 | exact HK.out.2.2.drew)).mono ?_; rintro e w1 ⟨rfl, b1⟩)
    | (go_at_call 43; refine (HR.out _).mono ?_; rintro e w2 ⟨rfl, b2⟩))
  rename_i hH
  have HS := Lib.hid (SpS.start HH.out HL.out hH)
  clear hH HK HQ HR HH HL
  have M0 := True.intro
  have M1 := True.intro
  have M2 := True.intro
  have M3 := True.intro
  obtain ⟨⟨x0, x1, x2, x3⟩, _⟩ := HS.out
  go_wp2_with (first
    | (go_at_call 82; clear M0; refine (st_set HS.out.2.1 0 sp).mono ?_; rintro e u1 ⟨rfl, h1, h2, h3⟩; replace HS := Lib.hid (HS.out.step h1 h2 h3); clear h1 h2 h3 x0 x1 x2 x3; obtain ⟨⟨_, x1, x2, x3⟩, _⟩ := HS.out)
    | (go_at_call 82; clear M1; refine (st_set HS.out.2.1 1 fr).mono ?_; rintro e u2 ⟨rfl, h1, h2, h3⟩; replace HS := Lib.hid (HS.out.step h1 h2 h3); clear h1 h2 h3 x1 x2 x3; obtain ⟨⟨_, _, x2, x3⟩, _⟩ := HS.out)
    | (go_at_call 82; clear M2; refine (st_set HS.out.2.1 2 gc).mono ?_; rintro e u3 ⟨rfl, h1, h2, h3⟩; replace HS := Lib.hid (HS.out.step h1 h2 h3); clear h1 h2 h3 x2 x3; obtain ⟨⟨_, _, _, x3⟩, _⟩ := HS.out)
    | (go_at_call 82; clear M3; refine (st_set HS.out.2.1 3 sc).mono ?_; rintro e u4 ⟨rfl, h1, h2, h3⟩; replace HS := Lib.hid (HS.out.step h1 h2 h3); clear h1 h2 h3 x3))
  go_ret
  obtain ⟨_, h1, h2, h3⟩ := HS.out
  rw [HW.out] at h1
  exact ⟨rfl, h1.mono (fun b q => .inl q), h2, h3⟩
end
end Go.Proofs.YtbghglkplbnnkaaGreatDoor
