import Derived.Test.YtiiioeodanmieaaGreatDoorYHeap
import Derived.Test.YtiiioeodanmieaaGreatDoorYFive
set_option linter.unusedVariables false
set_option linter.unusedSimpArgs false
namespace Go.Proofs.YtiiioeodanmieaaGreatDoor
open Go.RowKit Sec
open Go.Proofs.YtiiioeodanmieaaGreatDoor.Bk

structure Row4 (u : World) (g : Nat) (v0 v1 v2 v3 : Value) : Prop where
  lt : g < u.heap.size
  c0 : u.cell? ⟨g, 0, none⟩ = some v0
  c1 : u.cell? ⟨g, 1, none⟩ = some v1
  c2 : u.cell? ⟨g, 2, none⟩ = some v2
  c3 : u.cell? ⟨g, 3, none⟩ = some v3
  f0 : u.frozen? ⟨g, 0, none⟩ = false
  f1 : u.frozen? ⟨g, 1, none⟩ = false
  f2 : u.frozen? ⟨g, 2, none⟩ = false
  f3 : u.frozen? ⟨g, 3, none⟩ = false
theorem Row4.below {u u' : World} {g : Nat} {v0 v1 v2 v3 : Value} (h : Row4 u g v0 v1 v2 v3) (b : Below u.heap.size u u') : Row4 u' g v0 v1 v2 v3 :=
  have c : ∀ o, u'.cell? ⟨g, o, none⟩ = u.cell? ⟨g, o, none⟩ := fun o => b.cell (p := ⟨g, o, none⟩) h.lt
  have f : ∀ o, u'.frozen? ⟨g, o, none⟩ = u.frozen? ⟨g, o, none⟩ := fun o => b.frozen (p := ⟨g, o, none⟩) h.lt
  ⟨Nat.lt_of_lt_of_le h.lt b.size, (c 0).trans h.c0, (c 1).trans h.c1, (c 2).trans h.c2, (c 3).trans h.c3, (f 0).trans h.f0, (f 1).trans h.f1, (f 2).trans h.f2, (f 3).trans h.f3⟩
theorem Row4.made (w : World) (v0 v1 v2 v3 : Value) (t : TypeId) : Row4 (w.alloc (.cells #[v0, v1, v2, v3] t)) w.heap.size v0 v1 v2 v3 := by
  refine ⟨?_, ?_, ?_, ?_, ?_, ?_, ?_, ?_, ?_⟩ <;> simp
theorem Row4.set4 {u : World} {g : Nat} {z0 z1 z2 z3 : Value} (h : Row4 u g z0 z1 z2 z3) (v0 v1 v2 v3 : Value) :
    Row4 ((((u.setCell ⟨g, 0, none⟩ v0).setCell ⟨g, 1, none⟩ v1).setCell ⟨g, 2, none⟩ v2).setCell ⟨g, 3, none⟩ v3) g v0 v1 v2 v3 := by
  obtain ⟨l0, c0, c1, c2, c3, f0, f1, f2, f3⟩ := h
  refine ⟨?_, ?_, ?_, ?_, ?_, ?_, ?_, ?_, ?_⟩ <;> (first | exact (by simpa using l0) | (simp only [World.frozen?_setCell]; assumption) | simp [go_sem, set_same, c0, c1, c2, c3])
theorem Row4.kept {B : Nat} {w u : World} {g : Nat} {v0 v1 v2 v3 : Value} (b : Below B w u) (hg : B ≤ g) : Below B w ((((u.setCell ⟨g, 0, none⟩ v0).setCell ⟨g, 1, none⟩ v1).setCell ⟨g, 2, none⟩ v2).setCell ⟨g, 3, none⟩ v3) :=
  (((b.setCell (p := ⟨g, 0, none⟩) hg _).setCell (p := ⟨g, 1, none⟩) hg _).setCell (p := ⟨g, 2, none⟩) hg _).setCell (p := ⟨g, 3, none⟩) hg _
theorem Row4.load {w : World} {g : Nat} {v0 v1 v2 v3 : Value} (h : Row4 w g v0 v1 v2 v3) : (loadVar 84 ⟨g, 0, none⟩).run Tryz.prog w = .ok (.agg #[v0, v1, v2, v3]) w := by
  obtain ⟨l0, c0, c1, c2, c3, f0, f1, f2, f3⟩ := h
  simp [go_sem, c0, c1, c2, c3]

def ctlB (b d fr gc sc : Int) : Bool := decide (b ≠ 0) && (decide (b ≤ fr ∧ fr ≤ d) && (decide (gc = 0 ∧ sc = 0) || decide (gc = 1 ∧ b ≤ sc ∧ sc ≤ fr)))
theorem ctl_fine (h l sp fr gc sc : Int) : ctlB (geBase h l sp) (geEnd h l sp) fr gc sc = fineB h l sp fr gc sc := by
  cases q : geHalf h l sp
  · rw [geBase, q, if_neg (by decide), ctlB, decide_eq_false (by decide), Bool.false_and]
    cases q1 : geOk h l
    · rw [fine_no0 q1]
    · rw [geHalf, q1, Bool.true_and] at q
      have := of_decide_eq_false q
      rw [fine_no1 (by omega)]
  · rw [geBase, geEnd, q, if_pos rfl, if_pos rfl]
    obtain ⟨k1, k2⟩ := Bool.and_eq_true_iff.1 (show (geOk h l && decide (0 ≤ sp ∧ sp < 2)) = true from q)
    have hq := geOk_yes k1
    have hs := of_decide_eq_true k2
    have hb : 16 + sp * h ≠ 0 := by
      obtain rfl | rfl : sp = 0 ∨ sp = 1 := by omega
      · omega
      · omega
    by_cases c : 0 ≤ gc ∧ gc ≤ 1
    · rw [fine_mid k1 ⟨by omega, by omega, c.1, c.2⟩, ctlB, decide_eq_true hb, Bool.true_and]
    · rw [fine_no1 (fun x => c ⟨x.2.2.1, x.2.2.2⟩), ctlB, decide_eq_false (show ¬ (gc = 0 ∧ sc = 0) by omega), decide_eq_false (show ¬ (gc = 1 ∧ 16 + sp * h ≤ sc ∧ sc ≤ fr) by omega)]
      simp
theorem ctl_yes {b d fr gc sc : Int} (h : b ≠ 0 ∧ (b ≤ fr ∧ fr ≤ d) ∧ ((gc = 0 ∧ sc = 0) ∨ (gc = 1 ∧ b ≤ sc ∧ sc ≤ fr))) : ctlB b d fr gc sc = true := by
  obtain ⟨h1, h2, h3⟩ := h
  rw [ctlB, decide_eq_true h1, decide_eq_true h2, Bool.true_and, Bool.true_and]
  rcases h3 with h3 | h3
  · rw [decide_eq_true h3, Bool.true_or]
  · rw [decide_eq_true h3, Bool.or_true]
theorem ctl_no {b d fr gc sc : Int} (h : ¬ (b ≠ 0 ∧ (b ≤ fr ∧ fr ≤ d) ∧ ((gc = 0 ∧ sc = 0) ∨ (gc = 1 ∧ b ≤ sc ∧ sc ≤ fr)))) : ctlB b d fr gc sc = false := by
  cases q : ctlB b d fr gc sc
  · rfl
  · exfalso
    simp only [ctlB, Bool.and_eq_true, Bool.or_eq_true, decide_eq_true_eq] at q
    exact h q
theorem ctl_cases (b d fr gc sc : Int) : (b == 0) = true ∨ ((b == 0) = false ∧ fr < b) ∨ ((b == 0) = false ∧ b ≤ fr ∧ d < fr) ∨ ((b == 0) = false ∧ b ≤ fr ∧ fr ≤ d ∧ gc < 0) ∨ ((b == 0) = false ∧ b ≤ fr ∧ fr ≤ d ∧ 0 ≤ gc ∧ 1 < gc) ∨
    ((b == 0) = false ∧ b ≤ fr ∧ fr ≤ d ∧ 0 ≤ gc ∧ gc ≤ 1 ∧ (gc == 0) = true ∧ (gc == 1) = false ∧ (sc == 0) = true) ∨ ((b == 0) = false ∧ b ≤ fr ∧ fr ≤ d ∧ 0 ≤ gc ∧ gc ≤ 1 ∧ (gc == 0) = true ∧ (gc == 1) = false ∧ (sc == 0) = false) ∨
    ((b == 0) = false ∧ b ≤ fr ∧ fr ≤ d ∧ 0 ≤ gc ∧ gc ≤ 1 ∧ (gc == 0) = false ∧ (gc == 1) = true ∧ sc < b) ∨ ((b == 0) = false ∧ b ≤ fr ∧ fr ≤ d ∧ 0 ≤ gc ∧ gc ≤ 1 ∧ (gc == 0) = false ∧ (gc == 1) = true ∧ b ≤ sc ∧ fr < sc) ∨ ((b == 0) = false ∧ b ≤ fr ∧ fr ≤ d ∧ 0 ≤ gc ∧ gc ≤ 1 ∧ (gc == 0) = false ∧ (gc == 1) = true ∧ b ≤ sc ∧ sc ≤ fr) := by
  have one : ∀ x y : Int, (x == y) = true ∨ (x == y) = false := fun x y => by cases x == y <;> simp
  have no : ∀ x y : Int, x ≠ y → (x == y) = false := fun x y h => by simpa using h
  have yes : ∀ x y : Int, x = y → (x == y) = true := fun x y h => by simpa using h
  rcases one b 0 with h | h
  · exact .inl h
  refine .inr ?_
  rcases Int.lt_or_le fr b with h1 | h1
  · exact .inl ⟨h, h1⟩
  refine .inr ?_
  rcases Int.lt_or_le d fr with h2 | h2
  · exact .inl ⟨h, h1, h2⟩
  refine .inr ?_
  rcases Int.lt_or_le gc 0 with h3 | h3
  · exact .inl ⟨h, h1, h2, h3⟩
  refine .inr ?_
  rcases Int.lt_or_le 1 gc with h4 | h4
  · exact .inl ⟨h, h1, h2, h3, h4⟩
  refine .inr ?_
  rcases Decidable.em (gc = 0) with h5 | h5
  · rcases one sc 0 with h6 | h6
    · exact .inl ⟨h, h1, h2, h3, h4, yes _ _ h5, no _ _ (by omega), h6⟩
    · exact .inr (.inl ⟨h, h1, h2, h3, h4, yes _ _ h5, no _ _ (by omega), h6⟩)
  · refine .inr (.inr ?_)
    have h6 := no _ _ h5
    have h7 := yes gc 1 (by omega)
    rcases Int.lt_or_le sc b with h8 | h8
    · exact .inl ⟨h, h1, h2, h3, h4, h6, h7, h8⟩
    refine .inr ?_
    rcases Int.lt_or_le fr sc with h9 | h9
    · exact .inl ⟨h, h1, h2, h3, h4, h6, h7, h8, h9⟩
    · exact .inr ⟨h, h1, h2, h3, h4, h6, h7, h8, h9⟩
def Kept6 (w : World) (h l sp fr gc sc : Int) (u : World) : Prop :=
  (u.cell? ⟨w.heap.size, 0, none⟩ = some (.int .i64 h) ∧ u.cell? ⟨w.heap.size, 1, none⟩ = some (.int .i64 l) ∧ u.cell? ⟨w.heap.size + 1, 0, none⟩ = some (.int .i64 sp) ∧ u.cell? ⟨w.heap.size + 1, 1, none⟩ = some (.int .i64 fr) ∧ u.cell? ⟨w.heap.size + 1, 2, none⟩ = some (.int .i64 gc) ∧ u.cell? ⟨w.heap.size + 1, 3, none⟩ = some (.int .i64 sc)) ∧ w.heap.size + 1 < u.heap.size ∧ Below w.heap.size w u
theorem kept6_made (w : World) (h l sp fr gc sc : Int) : Kept6 w h l sp fr gc sc ((w.alloc (.cells #[.int .i64 h, .int .i64 l] 23)).alloc (.cells #[.int .i64 sp, .int .i64 fr, .int .i64 gc, .int .i64 sc] 84)) := by
  have m := Row4.made (w.alloc (.cells #[.int .i64 h, .int .i64 l] 23)) (.int .i64 sp) (.int .i64 fr) (.int .i64 gc) (.int .i64 sc) 84
  rw [size_alloc] at m
  have k := (GBox.made w h l 23).below ((Below.refl _ _).alloc (Nat.le_refl _) (.cells #[.int .i64 sp, .int .i64 fr, .int .i64 gc, .int .i64 sc] 84))
  exact ⟨⟨k.c0, k.c1, m.c0, m.c1, m.c2, m.c3⟩, by simp, ((Below.refl _ _).alloc (Nat.le_refl _) _).alloc (by simp) _⟩
theorem kept6_keep {w u u' : World} {h l sp fr gc sc : Int} (x : Kept6 w h l sp fr gc sc u) (b : Below u.heap.size u u') : Kept6 w h l sp fr gc sc u' := by
  obtain ⟨⟨x0, x1, x2, x3, x4, x5⟩, x6, x7⟩ := x
  have c : ∀ k o, k < u.heap.size → u'.cell? ⟨k, o, none⟩ = u.cell? ⟨k, o, none⟩ := fun k o q => b.cell (p := ⟨k, o, none⟩) q
  exact ⟨⟨(c _ _ (by omega)).trans x0, (c _ _ (by omega)).trans x1, (c _ _ x6).trans x2, (c _ _ x6).trans x3, (c _ _ x6).trans x4, (c _ _ x6).trans x5⟩, Nat.lt_of_lt_of_le x6 b.size, geo_next x7 b⟩
set_option maxRecDepth 100000 in
set_option maxHeartbeats 4000000 in
theorem spright_is (h l sp fr gc sc : Int) (w : World) : Calls Tryz.prog 67 #[.agg #[.int .i64 h, .int .i64 l], .agg #[.int .i64 sp, .int .i64 fr, .int .i64 gc, .int .i64 sc]] w fun e w' => e = .returned (.bool (fineB h l sp fr gc sc)) ∧ Below w.heap.size w w' := by
  have HB := Lib.hid (fun u => gbase_is h l sp u)
  have HE := Lib.hid (fun u => gend_is h l sp u)
  rw [← ctl_fine]
  generalize geBase h l sp = b at *
  generalize geEnd h l sp = d at *
  have HK := Lib.hid (kept6_made w h l sp fr gc sc)
  have HC := Lib.hid (fun (t : Bool) (x : ctlB b d fr gc sc = t) => x)
  have hc := ctl_cases b d fr gc sc
  rcases hc with hc | ⟨hb, hc⟩ | ⟨hb, hc1, hc2⟩ | ⟨hb, hc1, hc2, hc3⟩ | ⟨hb, hc1, hc2, hc3, hc4⟩ | ⟨hb, hc1, hc2, hc3, hc4, hc5, hc6, hc7⟩ | ⟨hb, hc1, hc2, hc3, hc4, hc5, hc6, hc7⟩ | ⟨hb, hc1, hc2, hc3, hc4, hc5, hc6, hc7⟩ | ⟨hb, hc1, hc2, hc3, hc4, hc5, hc6, hc7, hc8⟩ | ⟨hb, hc1, hc2, hc3, hc4, hc5, hc6, hc7, hc8⟩
  all_goals
    generalize hC : ctlB b d fr gc sc = t at *
    replace HC := Lib.hid hC
    clear hC
    go_enter Tryz.func67, Tryz.ntmps67
    go_wp2_with fail
    go_region_held3 (fun u => (u.cell? ⟨w.heap.size, 0, none⟩ = some (.int .i64 h) ∧ u.cell? ⟨w.heap.size, 1, none⟩ = some (.int .i64 l) ∧ u.cell? ⟨w.heap.size + 1, 0, none⟩ = some (.int .i64 sp) ∧ u.cell? ⟨w.heap.size + 1, 1, none⟩ = some (.int .i64 fr) ∧ u.cell? ⟨w.heap.size + 1, 2, none⟩ = some (.int .i64 gc) ∧ u.cell? ⟨w.heap.size + 1, 3, none⟩ = some (.int .i64 sc)) ∧ w.heap.size + 1 < u.heap.size ∧ Below w.heap.size w u) (first
        | assumption
        | exact HK.out
        | exact kept6_keep HK.out (Below.refl _ _).drew
        | exact kept6_keep (by assumption) b2) (first
      | (go_at_call 104; refine (HB.out _).mono ?_; rintro e' w2 ⟨rfl, b2⟩)
      | (go_at_call 110; refine (HE.out _).mono ?_; rintro e' w2 ⟨rfl, b2⟩))
    rename_i hH
    have HL := Lib.hid hH.2.2
    obtain ⟨⟨_, _, _, x1, x2, x3⟩, _, _⟩ := hH
    go_wp2_with fail
    go_ret
    refine ⟨geo_b ?_, HL.out⟩
    rw [← HC.out]
    clear HL HC x1 x2 x3 HB HE HK
    first
      | exact (ctl_yes (by simp only [beq_eq_false_iff_ne, ne_eq, beq_iff_eq] at *; omega)).symm
      | exact (ctl_no (by simp only [beq_eq_false_iff_ne, ne_eq, beq_iff_eq] at *; omega)).symm
end Go.Proofs.YtiiioeodanmieaaGreatDoor
