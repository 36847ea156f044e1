import Derived.Lib.Hide
import Derived.Test.YtiiioeodanmieaaGreatDoorYAllocA
import Derived.Test.YtiiioeodanmieaaGreatDoorYHeapD
import Derived.Test.YtiiioeodanmieaaGreatDoorYLoopA
set_option linter.unusedVariables false
set_option linter.unusedSimpArgs false
namespace Go.Proofs.YtiiioeodanmieaaGreatDoor
open Go.RowKit Sec
open Go.Proofs.YtiiioeodanmieaaGreatDoor.Bk

theorem fother_is {x : Int} (hx : x = 0 ∨ x = 1) (w : World) : Calls Tryz.prog 204 #[.int .i64 x] w fun e w' => e = .returned (.int .i64 (1 - x)) ∧ w' = w := by
  have hw : IntKind.i64.wrap (1 - x) = 1 - x := by rw [IntKind.wrap_i64]; omega
  go_enter Tryz.func204, Tryz.ntmps204
  go_wp2
  go_ret
  exact ⟨rfl, rfl⟩
theorem run_ctl0 (v0 v1 v2 v3 : Value) (w : World) : (Instr.field 84 (.agg #[v0, v1, v2, v3]) 0).run Tryz.prog w = .ok v0 w := by kernel_rfl
theorem ge_in {h l sp c : Int} (q : geOk h l = true) (hs : sp = 0 ∨ sp = 1) : geIn h l sp c = inB h sp c := by
  have hh : geHalf h l sp = true := by rw [geHalf, q, Bool.true_and]; exact decide_eq_true (by omega)
  rw [geIn, geBase, geEnd, if_pos hh, if_pos hh, inB]
def lfB (H : Int) (W : List Int) (a : Int) : Bool := (fwOk (W.getD a.toNat 0) && inB H (hSp W) (fwA (W.getD a.toNat 0))) || (hdOk (W.getD a.toNat 0) && decide (a + (1 + prS (W.getD a.toNat 0) + prW (W.getD a.toNat 0)) ≤ 16 + (1 - hSp W) * H + H))
def lfA (H : Int) (W : List Int) (a : Int) : Int := if fwOk (W.getD a.toNat 0) = true ∧ inB H (hSp W) (fwA (W.getD a.toNat 0)) = true then fwA (W.getD a.toNat 0) else if lfB H W a = true then a else 0
def lfZ (H : Int) (W : List Int) (a : Int) : Int := if fwOk (W.getD a.toNat 0) = true ∧ inB H (hSp W) (fwA (W.getD a.toNat 0)) = true then 0 else if lfB H W a = true then 1 + prS (W.getD a.toNat 0) + prW (W.getD a.toNat 0) else 0
structure Row2 (u : World) (g : Nat) (v0 v1 : Value) : Prop where
  lt : g < u.heap.size
  c0 : u.cell? ⟨g, 0, none⟩ = some v0
  c1 : u.cell? ⟨g, 1, none⟩ = some v1
  f0 : u.frozen? ⟨g, 0, none⟩ = false
  f1 : u.frozen? ⟨g, 1, none⟩ = false
theorem Row2.below {u u' : World} {g : Nat} {v0 v1 : Value} (h : Row2 u g v0 v1) (b : Below u.heap.size u u') : Row2 u' g v0 v1 :=
  ⟨Nat.lt_of_lt_of_le h.lt b.size, (b.cell (p := ⟨g, 0, none⟩) h.lt).trans h.c0, (b.cell (p := ⟨g, 1, none⟩) h.lt).trans h.c1, (b.frozen (p := ⟨g, 0, none⟩) h.lt).trans h.f0, (b.frozen (p := ⟨g, 1, none⟩) h.lt).trans h.f1⟩
theorem Row2.made (w : World) (v0 v1 : Value) (t : TypeId) : Row2 (w.alloc (.cells #[v0, v1] t)) w.heap.size v0 v1 := by
  refine ⟨?_, ?_, ?_, ?_, ?_⟩ <;> simp
theorem Row2.kept {B : Nat} {w u : World} {g : Nat} {v0 v1 : Value} (b : Below B w u) (hg : B ≤ g) : Below B w ((u.setCell ⟨g, 0, none⟩ v0).setCell ⟨g, 1, none⟩ v1) :=
  (b.setCell (p := ⟨g, 0, none⟩) hg _).setCell (p := ⟨g, 1, none⟩) hg _
theorem Row2.err {u : World} {g : Nat} {x : Int} {v z0 z1 z : Value} (h : Row2 u g (.int .i64 0) z) (e : ErrIs u x v) : ErrIs ((u.setCell ⟨g, 0, none⟩ z0).setCell ⟨g, 1, none⟩ z1) x v :=
  e.off h.c0 (fun b hb => (heap_setCell_other _ ⟨g, 1, none⟩ _ _ (fun q => hb q)).trans (heap_setCell_other _ ⟨g, 0, none⟩ _ _ (fun q => hb q)))
theorem Row2.set2 {u : World} {g : Nat} {z0 z1 : Value} (h : Row2 u g z0 z1) (v0 v1 : Value) : Row2 ((u.setCell ⟨g, 0, none⟩ v0).setCell ⟨g, 1, none⟩ v1) g v0 v1 := by
  obtain ⟨l0, c0, c1, f0, f1⟩ := h
  refine ⟨?_, ?_, ?_, ?_, ?_⟩ <;> (first | exact (by simpa using l0) | (simp only [World.frozen?_setCell]; assumption) | simp [go_sem, set_same, c0, c1])
theorem Row2.load {w : World} {g : Nat} {v0 v1 : Value} (h : Row2 w g v0 v1) : (loadVar 237 ⟨g, 0, none⟩).run Tryz.prog w = .ok (.agg #[v0, v1]) w := by
  obtain ⟨l0, c0, c1, f0, f1⟩ := h
  simp [go_sem, c0, c1]
structure LfK (w : World) (H L : Nat) (g : Nat) (u : World) : Prop where
  r : Row2 u w.heap.size (.int .i64 0) (.int .i64 0)
  b : Below w.heap.size w u
  g : GBox u g H L
theorem LfK.below {w u u' : World} {H L g : Nat} (x : LfK w H L g u) (y : Below u.heap.size u u') : LfK w H L g u' := ⟨x.r.below y, geo_next x.b y, x.g.below y⟩
theorem LfK.keep {w u u' : World} {H L g : Nat} (x : (u.cell? ⟨g, 0, none⟩ = some (.int .i64 H) ∧ u.cell? ⟨g, 1, none⟩ = some (.int .i64 L)) ∧ LfK w H L g u) (y : Below u.heap.size u u') : (u'.cell? ⟨g, 0, none⟩ = some (.int .i64 H) ∧ u'.cell? ⟨g, 1, none⟩ = some (.int .i64 L)) ∧ LfK w H L g u' :=
  have z := x.2.below y
  ⟨⟨z.g.c0, z.g.c1⟩, z⟩
theorem Row2.start (w : World) (t : TypeId) : Row2 (w.alloc (.cells #[.int .i64 0, .int .i64 0] t)) w.heap.size (.int .i64 0) (.int .i64 0) ∧ Below w.heap.size w (w.alloc (.cells #[.int .i64 0, .int .i64 0] t)) :=
  ⟨Row2.made w _ _ t, (Below.refl _ _).alloc (Nat.le_refl _) _⟩
theorem LfK.start {w u u' : World} {H L : Nat} {t : TypeId} (x : Row2 u w.heap.size (.int .i64 0) (.int .i64 0) ∧ Below w.heap.size w u) (y : Below (u.alloc (.cells #[.int .i64 (H : Int), .int .i64 (L : Int)] t)).heap.size (u.alloc (.cells #[.int .i64 (H : Int), .int .i64 (L : Int)] t)) u') : LfK w H L u.heap.size u' := by
  have z : Below u.heap.size u u' := ((Below.refl _ _).alloc (Nat.le_refl _) _).trans (y.mono (by simp))
  exact ⟨x.1.below z, geo_next x.2 z, (GBox.made u _ _ t).below y⟩
section
variable {B : Nat} {G : Nat → Prop} {w : World} {s H L : Nat} {W : List Int}
set_option maxRecDepth 100000 in
set_option maxHeartbeats 8000000 in
theorem fleft_is (h : St B G w s H L W) (hk : hOk H L W = true) (a : Int) (ha : inB H (1 - hSp W) a = true) : Calls Tryz.prog 205 #[.pointer (some ⟨s, 0, none⟩), .int .i64 a] w fun e w' => ∃ v, e = .returned (.tuple #[.agg #[.int .i64 (lfA H W a), .int .i64 (lfZ H W a)], v]) ∧ ErrIs w' (if lfB H W a then 0 else 4) v ∧ Below w.heap.size w w' := by
  obtain ⟨f1, f2, f3, f4, f5⟩ := fine_yes hk
  have hq := geOk_yes f1
  have hib := of_decide_eq_true ha
  have hm : 0 ≤ (1 - hSp W) * (H : Int) ∧ (1 - hSp W) * (H : Int) ≤ H := by rcases f2 with x | x <;> rw [x] <;> omega
  have hwk : wkC W (16 + 2 * H) a = W.getD a.toNat 0 := if_pos (by omega)
  have hnum := h.num a.toNat
  have HGet := Lib.hid (fun u (y : Below w.heap.size w u) => st_get (h.below y) a)
  rw [hwk] at HGet
  have HSp := Lib.hid (fun u (y : Below w.heap.size w u) => spget_st (h.below y))
  have HGe := Lib.hid (fun u (y : Below w.heap.size w u) => st_geo (h.below y))
  have HFw := Lib.hid (oforwarded_is (W.getD a.toNat 0) (by omega) (by omega))
  have HPa := Lib.hid (oparse_is (W.getD a.toNat 0) (by omega) (by omega))
  have HSz := Lib.hid (osize_is (prS (W.getD a.toNat 0)) (prW (W.getD a.toNat 0)))
  rw [szI, if_pos (pr_range (W.getD a.toNat 0))] at HSz
  have HIn := Lib.hid (fun c u => gin_is H L (hSp W) c u)
  have hin : ∀ c, geIn H L (hSp W) c = inB H (hSp W) c := fun c => ge_in f1 f2
  simp only [hin] at HIn
  have HOt := Lib.hid (fother_is f2)
  have HEn := Lib.hid (fun u => gend_is H L (1 - hSp W) u)
  rw [ge_end f1 (by omega)] at HEn
  have HK0 := Lib.hid (Row2.start w 237)
  have hp := shOk_yes (pr_range (W.getD a.toNat 0))
  have ha0 : 0 ≤ a ∧ a ≤ 816 := by omega
  have hde : fwOk (W.getD a.toNat 0) = true → hdOk (W.getD a.toNat 0) = false := fun x => by
    cases y : hdOk (W.getD a.toNat 0)
    · rfl
    · rw [hd_not_fw y] at x
      exact absurd x (by decide)
  rw [lfA, lfZ, lfB]
  clear h hk ha f1 f2 f3 f4 f5 hq hib hm hwk hnum hin
  generalize W.getD a.toNat 0 = v at *
  generalize prS v = ps at *
  generalize prW v = pw at *
  generalize fwA v = fa at *
  generalize fwOk v = fw at *
  generalize hdOk v = hd at *
  generalize (16 : Int) + (1 - hSp W) * (H : Int) + (H : Int) = en at *
  generalize hSp W = sp at *
  have hcase : (fw = true ∧ inB H sp fa = true) ∨ (fw = true ∧ hd = false ∧ inB H sp fa = false) ∨ (fw = false ∧ hd = false) ∨ (fw = false ∧ hd = true ∧ a + (1 + ps + pw) ≤ en) ∨ (fw = false ∧ hd = true ∧ ¬ a + (1 + ps + pw) ≤ en) := by
    cases fw
    · cases hd
      · exact .inr (.inr (.inl ⟨rfl, rfl⟩))
      · by_cases x : a + (1 + ps + pw) ≤ en
        · exact .inr (.inr (.inr (.inl ⟨rfl, rfl, x⟩)))
        · exact .inr (.inr (.inr (.inr ⟨rfl, rfl, x⟩)))
    · cases x : inB H sp fa
      · exact .inr (.inl ⟨rfl, hde rfl, rfl⟩)
      · exact .inl ⟨rfl, rfl⟩
  have HIf := Lib.hid (HIn.out fa)
  clear hde HIn
  generalize inB H sp fa = inn at *
  have hws : IntKind.i64.wrap (a + (1 + ps + pw)) = a + (1 + ps + pw) := by rw [IntKind.wrap_i64]; omega
  have hpp : 0 ≤ ps ∧ ps ≤ 15 ∧ 0 ≤ pw ∧ pw ≤ 30 := hp
  clear hp
  generalize (1 : Int) + ps + pw = sz at *
  have hfd := run_ctl0
  rcases hcase with ⟨rfl, rfl⟩ | ⟨rfl, rfl, rfl⟩ | ⟨rfl, rfl⟩ | ⟨rfl, rfl, hfit⟩ | ⟨rfl, rfl, hfit⟩
  all_goals (try rw [decide_eq_true hfit])
  all_goals (try rw [decide_eq_false hfit])
  all_goals
    simp only [Bool.and_true, Bool.true_and, Bool.and_false, Bool.false_and, Bool.or_true, Bool.true_or, Bool.or_false, Bool.false_or, and_true, true_and, and_false, false_and, if_true, if_false, Bool.false_eq_true, reduceIte]
    go_enter Tryz.func205, Tryz.ntmps205
    go_wp2_with (first
      | (go_at_call 51; with_reducible refine (HGe.out _ HK0.out.2).mono ?_; rintro e w1 ⟨rfl, b1⟩; have H1 := Lib.hid (And.intro (HK0.out.1.below b1) (geo_next HK0.out.2 b1)); clear b1)
      | (go_at_call 47; with_reducible refine (HSp.out _ H1.out.2).mono ?_; rintro e w2 ⟨rfl, b2⟩; have H2 := Lib.hid (And.intro (H1.out.1.below b2) (geo_next H1.out.2 b2)); clear b2)
      | (go_at_call 74; with_reducible refine (HGet.out _ (H2.out.2.alloc H2.out.2.size _)).mono ?_; rintro e w3 ⟨rfl, b3⟩; have H3 := Lib.hid (LfK.start H2.out b3); clear b3)
      | (go_at_call 74; with_reducible refine (HGet.out _ H3.out.b).mono ?_; rintro e w4 ⟨rfl, b4⟩; have H4 := Lib.hid (H3.out.below b4); clear b4; obtain ⟨_, c0, c1⟩ := H4.out.g; obtain ⟨⟨_, r0, r1, s0, s1⟩, _, _⟩ := H4.out)
      | (go_at_call 225; refine (HFw.out _).mono ?_; rintro e w' ⟨rfl, hw⟩; obtain rfl : w3 = w' := hw.symm)
      | (go_at_call 156; refine (HPa.out _).mono ?_; rintro e w' ⟨rfl, hw⟩; obtain rfl : w4 = w' := hw.symm)
      | (go_at_call 66; refine (HSz.out _).mono ?_; rintro e w' ⟨rfl, hw⟩; obtain rfl : w4 = w' := hw.symm)
      | (go_at_call 160; refine (HIf.out _).mono ?_; rintro e w5 ⟨rfl, b5⟩; replace H4 := Lib.hid (H4.out.below b5); clear b5 c0 c1 r0 r1 s0 s1; obtain ⟨_, c0, c1⟩ := H4.out.g; obtain ⟨⟨_, r0, r1, s0, s1⟩, _, _⟩ := H4.out))
  · refine bodyPost_ret (results_cell2 rfl rfl (H4.out.r.set2 _ _).load rfl) rfl ?_
    exact ⟨_, rfl, errNil _, Row2.kept H4.out.b (Nat.le_refl _)⟩
  iterate 2
    · go_quiet (fail)
      go_wp2_with (go_at_call 124; refine (new_err 4 a _).mono ?_; rintro e w6 ⟨v6, rfl, b6, he6⟩; have H6 := Lib.hid (And.intro ((H4.out.below (bel_drewN (Below.refl _ _) _)).below b6) he6); clear b6 he6 r0 r1 s0 s1; obtain ⟨⟨⟨_, r0, r1, s0, s1⟩, _, _⟩, _⟩ := H6.out)
      refine bodyPost_ret (results_cell2 rfl rfl (H6.out.1.r.set2 _ _).load rfl) rfl ?_
      exact ⟨v6, rfl, H6.out.1.r.err H6.out.2, Row2.kept H6.out.1.b (Nat.le_refl _)⟩
  all_goals
      go_region_held3 (fun u => (u.cell? ⟨w2.heap.size, 0, none⟩ = some (.int .i64 H) ∧ u.cell? ⟨w2.heap.size, 1, none⟩ = some (.int .i64 L)) ∧ LfK w H L w2.heap.size u) (first
          | assumption
          | exact ⟨⟨H4.out.g.c0, H4.out.g.c1⟩, H4.out⟩
          | exact ⟨⟨(H4.out.below (Below.refl _ _).drew).g.c0, (H4.out.below (Below.refl _ _).drew).g.c1⟩, H4.out.below (Below.refl _ _).drew⟩
          | exact LfK.keep (by assumption) b7) (first
        | (go_at_call 204; refine (HOt.out _).mono ?_; rintro e w' ⟨rfl, rfl⟩)
        | (go_at_call 110; refine (HEn.out _).mono ?_; rintro e w7 ⟨rfl, b7⟩))
      rename_i hH
      have H7 := Lib.hid hH.2
      clear hH c0 c1 r0 r1 s0 s1
      obtain ⟨⟨_, r0, r1, s0, s1⟩, _, _⟩ := H7.out
      go_wp2_with (go_at_call 124; refine (new_err 4 a _).mono ?_; rintro e w6 ⟨v6, rfl, b6, he6⟩; have H6 := Lib.hid (And.intro (H7.out.below b6) he6); clear b6 he6 r0 r1 s0 s1; obtain ⟨⟨⟨_, r0, r1, s0, s1⟩, _, _⟩, _⟩ := H6.out)
  · refine bodyPost_ret (results_cell2 rfl rfl (H7.out.r.set2 _ _).load rfl) rfl ?_
    exact ⟨.nilIface, rfl, errNil _, Row2.kept H7.out.b (Nat.le_refl _)⟩
  · refine bodyPost_ret (results_cell2 rfl rfl (H6.out.1.r.set2 _ _).load rfl) rfl ?_
    exact ⟨v6, rfl, H6.out.1.r.err H6.out.2, Row2.kept H6.out.1.b (Nat.le_refl _)⟩
def fdZ (h l : Int) (W : List Int) (a : Int) : Int := if folM h l W a = true then folZ W a else 0
def fdX (h l : Int) (W : List Int) (a : Int) : Int := if hOk h l W = false then 1 else if (lk h l W a).2 = false then 4 else 0
theorem lf_lk (hk : hOk H L W = true) (a : Int) (h0 : a ≠ 0) (h1 : inB H (hSp W) a = false) (h2 : hGc W ≠ 0) (h3 : inB H (1 - hSp W) a = true) :
    lfA H W a = (lk H L W a).1 ∧ lfB H W a = (lk H L W a).2 ∧ lfZ H W a = fdZ H L W a := by
  have e : lk H L W a = (lfA H W a, lfB H W a) := by
    rw [lk, if_neg (by rw [hk]; decide), if_neg (by rw [h1]; simp [h0]), if_neg (by rw [h3]; simp [h2]), lfA, lfB]
    cases q : fwOk (W.getD a.toNat 0)
    · simp only [Bool.false_eq_true, false_and, if_false, Bool.false_and, Bool.false_or, reduceIte]
      by_cases c : hdOk (W.getD a.toNat 0) = true ∧ a + 1 + prS (W.getD a.toNat 0) + prW (W.getD a.toNat 0) ≤ 16 + (1 - hSp W) * H + H
      · rw [if_pos c, c.1, decide_eq_true (show a + (1 + prS (W.getD a.toNat 0) + prW (W.getD a.toNat 0)) ≤ 16 + (1 - hSp W) * H + H by omega)]
        rfl
      · rw [if_neg c]
        have : (hdOk (W.getD a.toNat 0) && decide (a + (1 + prS (W.getD a.toNat 0) + prW (W.getD a.toNat 0)) ≤ 16 + (1 - hSp W) * H + H)) = false := by
          cases d : hdOk (W.getD a.toNat 0)
          · rfl
          · rw [Bool.true_and]
            exact decide_eq_false (fun x => c ⟨d, by omega⟩)
        rw [this]
        rfl
    · have hd : hdOk (W.getD a.toNat 0) = false := by
        cases y : hdOk (W.getD a.toNat 0)
        · rfl
        · rw [hd_not_fw y] at q
          exact absurd q (by decide)
      cases c : inB H (hSp W) (fwA (W.getD a.toNat 0))
      · simp only [hd, Bool.false_eq_true, and_false, if_false, if_true, Bool.false_and, Bool.and_false, Bool.false_or, reduceIte]
      · simp only [and_self, if_true, Bool.and_self, Bool.true_or, reduceIte]
  have ea : lfA H W a = (lk H L W a).1 := by rw [e]
  have eb : lfB H W a = (lk H L W a).2 := by rw [e]
  refine ⟨ea, eb, ?_⟩
  rw [fdZ, folM, hk, h1, decide_eq_true h0, ← ea, ← eb, Bool.true_and, Bool.true_and, Bool.not_false, Bool.true_and]
  cases b : lfB H W a
  · rw [Bool.false_and, if_neg (by decide), lfZ, b]
    rw [lfB] at b
    have b1 := (Bool.or_eq_false_iff.1 b).1
    rw [if_neg (by rw [← Bool.and_eq_true, b1]; decide), if_neg (by decide)]
  · rw [Bool.true_and, lfZ, lfA, b]
    by_cases c : fwOk (W.getD a.toNat 0) = true ∧ inB H (hSp W) (fwA (W.getD a.toNat 0)) = true
    · rw [if_pos c, if_pos c, if_neg]
      intro q
      have q := of_decide_eq_true q
      rw [q, h1] at c
      exact absurd c.2 (by decide)
    · rw [if_neg c, if_neg c, if_pos rfl, if_pos rfl, if_pos (decide_eq_true rfl), folZ]
structure FdK (w w2 : World) (H L : Nat) (x0 x1 x2 x3 : Int) (u : World) : Prop where
  r : Row2 u w.heap.size (.int .i64 0) (.int .i64 0)
  b : Below w.heap.size w u
  k : Kept6 w2 H L x0 x1 x2 x3 u
theorem FdK.below {w w2 u u' : World} {H L : Nat} {x0 x1 x2 x3 : Int} (x : FdK w w2 H L x0 x1 x2 x3 u) (y : Below u.heap.size u u') : FdK w w2 H L x0 x1 x2 x3 u' := ⟨x.r.below y, geo_next x.b y, kept6_keep x.k y⟩
theorem FdK.start {w w2 : World} {H L : Nat} {x0 x1 x2 x3 : Int} (x : Row2 w2 w.heap.size (.int .i64 0) (.int .i64 0) ∧ Below w.heap.size w w2) : FdK w w2 H L x0 x1 x2 x3 ((w2.alloc (.cells #[.int .i64 (H : Int), .int .i64 (L : Int)] 23)).alloc (.cells #[.int .i64 x0, .int .i64 x1, .int .i64 x2, .int .i64 x3] 84)) := by
  have z := kept6_made w2 H L x0 x1 x2 x3
  exact ⟨x.1.below z.2.2, geo_next x.2 z.2.2, z⟩
theorem FdK.cells {w w2 u : World} {H L : Nat} {x0 x1 x2 x3 : Int} (x : FdK w w2 H L x0 x1 x2 x3 u) :
    (u.cell? ⟨w2.heap.size, 0, none⟩ = some (.int .i64 H) ∧ u.cell? ⟨w2.heap.size, 1, none⟩ = some (.int .i64 L) ∧ u.cell? ⟨w2.heap.size + 1, 0, none⟩ = some (.int .i64 x0) ∧ u.cell? ⟨w2.heap.size + 1, 2, none⟩ = some (.int .i64 x2)) ∧ FdK w w2 H L x0 x1 x2 x3 u :=
  ⟨⟨x.k.1.1, x.k.1.2.1, x.k.1.2.2.1, x.k.1.2.2.2.2.1⟩, x⟩
structure FdP (w : World) (g : Nat) (a z x : Int) (v : Value) (u : World) : Prop where
  r : Row2 u w.heap.size (.int .i64 0) (.int .i64 0)
  p : Row2 u g (.int .i64 a) (.int .i64 z)
  b : Below w.heap.size w u
  e : ErrIs u x v
theorem FdP.below {w u u' : World} {g : Nat} {a z x : Int} {v : Value} (h : FdP w g a z x v u) (y : Below u.heap.size u u') : FdP w g a z x v u' := ⟨h.r.below y, h.p.below y, geo_next h.b y, h.e.below y⟩
theorem FdP.start {w u : World} {x : Int} {v : Value} (r : Row2 u w.heap.size (.int .i64 0) (.int .i64 0)) (b : Below w.heap.size w u) (e : ErrIs u x v) (a z : Int) : FdP w u.heap.size a z x v (u.alloc (.cells #[.int .i64 a, .int .i64 z] 237)) := by
  have y : Below u.heap.size u (u.alloc (.cells #[.int .i64 a, .int .i64 z] 237)) := (Below.refl _ _).alloc (Nat.le_refl _) _
  exact ⟨r.below y, Row2.made u _ _ _, geo_next b y, e.below y⟩
set_option maxRecDepth 100000 in
set_option maxHeartbeats 8000000 in
theorem ffind_is (h : St B G w s H L W) (a : Int) : Calls Tryz.prog 180 #[.pointer (some ⟨s, 0, none⟩), .int .i64 a] w fun e w' => ∃ v, e = .returned (.tuple #[.agg #[.int .i64 (lk H L W a).1, .int .i64 (fdZ H L W a)], v]) ∧ ErrIs w' (fdX H L W a) v ∧ Below w.heap.size w w' := by
  have HSp := Lib.hid (fun u (y : Below w.heap.size w u) => spget_st (h.below y))
  have HGe := Lib.hid (fun u (y : Below w.heap.size w u) => st_geo (h.below y))
  have HR := Lib.hid (fun u => spright_is H L (hSp W) (hFr W) (hGc W) (hSc W) u)
  rw [show fineB H L (hSp W) (hFr W) (hGc W) (hSc W) = hOk H L W from rfl] at HR
  have HK0 := Lib.hid (Row2.start w 237)
  cases hk : hOk H L W with
  | false =>
    rw [hk] at HR
    have e1 : (lk H L W a).1 = 0 := by rw [lk, if_pos hk]
    have e2 : fdZ H L W a = 0 := if_neg (fun q => by rw [(folM_yes q).1] at hk; exact absurd hk (by decide))
    have e3 : fdX H L W a = 1 := if_pos hk
    rw [e1, e2, e3]
    clear e1 e2 e3 hk h
    generalize hSp W = x0 at *
    generalize hFr W = x1 at *
    generalize hGc W = x2 at *
    generalize hSc W = x3 at *
    go_enter Tryz.func180, Tryz.ntmps180
    go_wp2_with (first
      | (go_at_call 51; with_reducible refine (HGe.out _ HK0.out.2).mono ?_; rintro e w1 ⟨rfl, b1⟩; have H1 := Lib.hid (And.intro (HK0.out.1.below b1) (geo_next HK0.out.2 b1)); clear b1)
      | (go_at_call 47; with_reducible refine (HSp.out _ H1.out.2).mono ?_; rintro e w2 ⟨rfl, b2⟩; have H2 := Lib.hid (FdK.start (H := H) (L := L) (x0 := x0) (x1 := x1) (x2 := x2) (x3 := x3) (And.intro (H1.out.1.below b2) (geo_next H1.out.2 b2))); clear b2)
      | (go_at_call 67; refine (HR.out _).mono ?_; rintro e w3 ⟨rfl, b3⟩; replace H2 := Lib.hid (H2.out.below b3); clear b3)
      | (go_at_call 124; refine (new_err 1 a _).mono ?_; rintro e w4 ⟨v4, rfl, b4, he4⟩; have H4 := Lib.hid (And.intro (H2.out.below b4) he4); clear b4 he4)
      | (go_at_call 123; refine (in_err 1 _ _ _ H4.out.2).mono ?_; rintro e w5 ⟨v5, rfl, b5, he5⟩; have H5 := Lib.hid (And.intro (H4.out.1.below b5) he5); clear b5 he5; obtain ⟨⟨⟨_, r0, r1, s0, s1⟩, _, _⟩, _⟩ := H5.out))
    refine bodyPost_ret (results_cell2 rfl rfl (H5.out.1.r.set2 _ _).load rfl) rfl ?_
    exact ⟨v5, rfl, H5.out.1.r.err H5.out.2, Row2.kept H5.out.1.b (Nat.le_refl _)⟩
  | true =>
    rw [hk] at HR
    obtain ⟨f1, f2, f3, f4, f5⟩ := fine_yes hk
    have HIn := Lib.hid (fun u => gin_is H L (hSp W) a u)
    rw [ge_in f1 f2] at HIn
    have HIo := Lib.hid (fun u => gin_is H L (1 - hSp W) a u)
    rw [ge_in f1 (by omega)] at HIo
    have HOt := Lib.hid (fother_is f2)
    by_cases c : a = 0 ∨ inB H (hSp W) a = true
    · have e0 : lk H L W a = (a, true) := by rw [lk, if_neg (by rw [hk]; decide), if_pos c]
      have e2 : fdZ H L W a = 0 := if_neg (fun q => by
        obtain ⟨_, _, q3, q4, _⟩ := folM_yes q
        rcases c with c | c
        · exact q3 c
        · rw [q4] at c
          exact absurd c (by decide))
      have e3 : fdX H L W a = 0 := by rw [fdX, if_neg (by rw [hk]; decide), e0, if_neg (by simp)]
      rw [e0, e2, e3]
      have c' : a = 0 ∨ (a ≠ 0 ∧ inB H (hSp W) a = true) := by
        by_cases q : a = 0
        · exact .inl q
        · exact .inr ⟨q, c.resolve_left q⟩
      clear e0 e2 e3 hk h f1 f2 f3 f4 f5 HIo HOt c
      generalize inB H (hSp W) a = inn at *
      generalize hSp W = x0 at *
      generalize hFr W = x1 at *
      generalize hGc W = x2 at *
      generalize hSc W = x3 at *
      rcases c' with rfl | ⟨c1, rfl⟩
      all_goals
        go_enter Tryz.func180, Tryz.ntmps180
        go_wp2_with (first
          | (go_at_call 51; with_reducible refine (HGe.out _ HK0.out.2).mono ?_; rintro e w1 ⟨rfl, b1⟩; have H1 := Lib.hid (And.intro (HK0.out.1.below b1) (geo_next HK0.out.2 b1)); clear b1)
          | (go_at_call 47; with_reducible refine (HSp.out _ H1.out.2).mono ?_; rintro e w2 ⟨rfl, b2⟩; have H2 := Lib.hid (FdK.start (H := H) (L := L) (x0 := x0) (x1 := x1) (x2 := x2) (x3 := x3) (And.intro (H1.out.1.below b2) (geo_next H1.out.2 b2))); clear b2)
          | (go_at_call 67; refine (HR.out _).mono ?_; rintro e w3 ⟨rfl, b3⟩; replace H2 := Lib.hid (H2.out.below b3); clear b3; obtain ⟨⟨c0, c1, c2, c3⟩, _⟩ := H2.out.cells; obtain ⟨⟨_, r0, r1, s0, s1⟩, _, _⟩ := H2.out)
          | (go_at_call 160; refine (HIn.out _).mono ?_; rintro e w4 ⟨rfl, b4⟩; replace H2 := Lib.hid (H2.out.below b4); clear b4 c0 c1 c2 c3 r0 r1 s0 s1; obtain ⟨⟨c0, c1, c2, c3⟩, _⟩ := H2.out.cells; obtain ⟨⟨_, r0, r1, s0, s1⟩, _, _⟩ := H2.out)
          | (go_at_call 124; refine (new_err 4 _ _).mono ?_; rintro e w5 ⟨v5, rfl, b5, he5⟩; have H5 := Lib.hid (And.intro (H2.out.below b5) he5); clear b5 he5)
          | (go_at_call 123; refine (in_err 4 _ _ _ H5.out.2).mono ?_; rintro e w6 ⟨v6, rfl, b6, he6⟩; have H6 := Lib.hid (And.intro (H5.out.1.below b6) he6); clear b6 he6 r0 r1 s0 s1; obtain ⟨⟨⟨_, r0, r1, s0, s1⟩, _, _⟩, _⟩ := H6.out))
        refine bodyPost_ret (results_cell2 rfl rfl (H2.out.r.set2 _ _).load rfl) rfl ?_
        exact ⟨_, rfl, errNil _, Row2.kept H2.out.b (Nat.le_refl _)⟩
    by_cases d : hGc W = 0 ∨ inB H (1 - hSp W) a = false
    · have ca : a ≠ 0 := fun q => c (.inl q)
      have cb : inB H (hSp W) a = false := by
        cases q : inB H (hSp W) a
        · rfl
        · exact absurd (.inr q) c
      have e0 : lk H L W a = (0, false) := by rw [lk, if_neg (by rw [hk]; decide), if_neg c, if_pos d]
      have e2 : fdZ H L W a = 0 := if_neg (fun q => by
        have := (folM_yes q).2.1
        rw [e0] at this
        exact absurd this (by decide))
      have e3 : fdX H L W a = 4 := by rw [fdX, if_neg (by rw [hk]; decide), e0, if_pos rfl]
      rw [e0, e2, e3]
      rw [cb] at HIn
      have d' : hGc W = 0 ∨ (hGc W ≠ 0 ∧ inB H (1 - hSp W) a = false) := by
        by_cases q : hGc W = 0
        · exact .inl q
        · exact .inr ⟨q, d.resolve_left q⟩
      clear e0 e2 e3 hk h f1 f2 f3 f4 f5 c d cb
      generalize inB H (1 - hSp W) a = ino at *
      generalize hSp W = x0 at *
      generalize hFr W = x1 at *
      generalize hGc W = x2 at *
      generalize hSc W = x3 at *
      rcases d' with rfl | ⟨c1, rfl⟩
      · go_enter Tryz.func180, Tryz.ntmps180
        go_wp2_with (first
          | (go_at_call 51; with_reducible refine (HGe.out _ HK0.out.2).mono ?_; rintro e w1 ⟨rfl, b1⟩; have H1 := Lib.hid (And.intro (HK0.out.1.below b1) (geo_next HK0.out.2 b1)); clear b1)
          | (go_at_call 47; with_reducible refine (HSp.out _ H1.out.2).mono ?_; rintro e w2 ⟨rfl, b2⟩; have H2 := Lib.hid (FdK.start (H := H) (L := L) (x0 := x0) (x1 := x1) (x2 := 0) (x3 := x3) (And.intro (H1.out.1.below b2) (geo_next H1.out.2 b2))); clear b2)
          | (go_at_call 67; refine (HR.out _).mono ?_; rintro e w3 ⟨rfl, b3⟩; replace H2 := Lib.hid (H2.out.below b3); clear b3; obtain ⟨⟨c0, c1, c2, c3⟩, _⟩ := H2.out.cells; obtain ⟨⟨_, r0, r1, s0, s1⟩, _, _⟩ := H2.out)
          | (go_at_call 160; refine (HIn.out _).mono ?_; rintro e w4 ⟨rfl, b4⟩; replace H2 := Lib.hid (H2.out.below b4); clear b4 c0 c1 c2 c3 r0 r1 s0 s1; obtain ⟨⟨c0, c1, c2, c3⟩, _⟩ := H2.out.cells; obtain ⟨⟨_, r0, r1, s0, s1⟩, _, _⟩ := H2.out)
          | (go_at_call 124; refine (new_err 4 a _).mono ?_; rintro e w5 ⟨v5, rfl, b5, he5⟩; have H5 := Lib.hid (And.intro (H2.out.below b5) he5); clear b5 he5)
          | (go_at_call 123; refine (in_err 4 _ _ _ H5.out.2).mono ?_; rintro e w6 ⟨v6, rfl, b6, he6⟩; have H6 := Lib.hid (And.intro (H5.out.1.below b6) he6); clear b6 he6 r0 r1 s0 s1; obtain ⟨⟨⟨_, r0, r1, s0, s1⟩, _, _⟩, _⟩ := H6.out))
        refine bodyPost_ret (results_cell2 rfl rfl (H6.out.1.r.set2 _ _).load rfl) rfl ?_
        exact ⟨_, rfl, H6.out.1.r.err H6.out.2, Row2.kept H6.out.1.b (Nat.le_refl _)⟩
      · go_enter Tryz.func180, Tryz.ntmps180
        go_wp2_with (first
          | (go_at_call 51; with_reducible refine (HGe.out _ HK0.out.2).mono ?_; rintro e w1 ⟨rfl, b1⟩; have H1 := Lib.hid (And.intro (HK0.out.1.below b1) (geo_next HK0.out.2 b1)); clear b1)
          | (go_at_call 47; with_reducible refine (HSp.out _ H1.out.2).mono ?_; rintro e w2 ⟨rfl, b2⟩; have H2 := Lib.hid (FdK.start (H := H) (L := L) (x0 := x0) (x1 := x1) (x2 := x2) (x3 := x3) (And.intro (H1.out.1.below b2) (geo_next H1.out.2 b2))); clear b2)
          | (go_at_call 67; refine (HR.out _).mono ?_; rintro e w3 ⟨rfl, b3⟩; replace H2 := Lib.hid (H2.out.below b3); clear b3; obtain ⟨⟨c0, c1, c2, c3⟩, _⟩ := H2.out.cells; obtain ⟨⟨_, r0, r1, s0, s1⟩, _, _⟩ := H2.out)
          | (go_at_call 160; refine (HIn.out _).mono ?_; rintro e w4 ⟨rfl, b4⟩; replace H2 := Lib.hid (H2.out.below b4); clear b4 c0 c1 c2 c3 r0 r1 s0 s1; obtain ⟨⟨c0, c1, c2, c3⟩, _⟩ := H2.out.cells; obtain ⟨⟨_, r0, r1, s0, s1⟩, _, _⟩ := H2.out)
          | (go_at_call 124; refine (new_err 4 a _).mono ?_; rintro e w5 ⟨v5, rfl, b5, he5⟩; have H5 := Lib.hid (And.intro (H2.out.below b5) he5); clear b5 he5)
          | (go_at_call 123; refine (in_err 4 _ _ _ H5.out.2).mono ?_; rintro e w6 ⟨v6, rfl, b6, he6⟩; have H6 := Lib.hid (And.intro (H5.out.1.below b6) he6); clear b6 he6 r0 r1 s0 s1; obtain ⟨⟨⟨_, r0, r1, s0, s1⟩, _, _⟩, _⟩ := H6.out))
        go_region_held3 (fun u => (u.cell? ⟨w2.heap.size, 0, none⟩ = some (.int .i64 H) ∧ u.cell? ⟨w2.heap.size, 1, none⟩ = some (.int .i64 L) ∧ u.cell? ⟨w2.heap.size + 1, 0, none⟩ = some (.int .i64 x0) ∧ u.cell? ⟨w2.heap.size + 1, 2, none⟩ = some (.int .i64 x2)) ∧ FdK w w2 H L x0 x1 x2 x3 u) (first
              | assumption
              | exact H2.out.cells
              | exact (H2.out.below (Below.refl _ _).drew).cells
              | exact ((by assumption : _ ∧ FdK w w2 H L x0 x1 x2 x3 _).2.below b7).cells) (first
            | (go_at_call 204; refine (HOt.out _).mono ?_; rintro e w' ⟨rfl, rfl⟩)
            | (go_at_call 160; refine (HIo.out _).mono ?_; rintro e w7 ⟨rfl, b7⟩))
        rename_i hH
        replace H2 := Lib.hid hH.2
        clear hH c0 c1 c2 c3 r0 r1 s0 s1
        obtain ⟨⟨_, r0, r1, s0, s1⟩, _, _⟩ := H2.out
        go_wp2_with (first
          | (go_at_call 124; refine (new_err 4 a _).mono ?_; rintro e w5 ⟨v5, rfl, b5, he5⟩; have H5 := Lib.hid (And.intro (H2.out.below b5) he5); clear b5 he5)
          | (go_at_call 123; refine (in_err 4 _ _ _ H5.out.2).mono ?_; rintro e w6 ⟨v6, rfl, b6, he6⟩; have H6 := Lib.hid (And.intro (H5.out.1.below b6) he6); clear b6 he6 r0 r1 s0 s1; obtain ⟨⟨⟨_, r0, r1, s0, s1⟩, _, _⟩, _⟩ := H6.out))
        refine bodyPost_ret (results_cell2 rfl rfl (H6.out.1.r.set2 _ _).load rfl) rfl ?_
        exact ⟨_, rfl, H6.out.1.r.err H6.out.2, Row2.kept H6.out.1.b (Nat.le_refl _)⟩
    · have ca : a ≠ 0 := fun q => c (.inl q)
      have cb : inB H (hSp W) a = false := by
        cases q : inB H (hSp W) a
        · rfl
        · exact absurd (.inr q) c
      have d0 : hGc W ≠ 0 := fun q => d (.inl q)
      have d1 : inB H (1 - hSp W) a = true := by
        cases q : inB H (1 - hSp W) a
        · exact absurd (.inr q) d
        · rfl
      obtain ⟨l1, l2, l3⟩ := lf_lk hk a ca cb d0 d1
      have e3 : fdX H L W a = if lfB H W a then 0 else 4 := by
        rw [fdX, if_neg (by rw [hk]; decide), ← l2]
        cases lfB H W a <;> rfl
      have HLf := Lib.hid (fun u (y : Below w.heap.size w u) => fleft_is (h.below y) hk a d1)
      rw [e3, ← l1, ← l3]
      rw [cb] at HIn
      rw [d1] at HIo
      clear e3 hk h f1 f2 f3 f4 f5 c d cb d1 l1 l2 l3
      generalize lfA H W a = pa at *
      generalize lfZ H W a = pz at *
      generalize (if lfB H W a then (0 : Int) else 4) = x at *
      generalize hSp W = x0 at *
      generalize hFr W = x1 at *
      generalize hGc W = x2 at *
      generalize hSc W = x3 at *
      go_enter Tryz.func180, Tryz.ntmps180
      go_wp2_with (first
        | (go_at_call 51; with_reducible refine (HGe.out _ HK0.out.2).mono ?_; rintro e w1 ⟨rfl, b1⟩; have H1 := Lib.hid (And.intro (HK0.out.1.below b1) (geo_next HK0.out.2 b1)); clear b1)
        | (go_at_call 47; with_reducible refine (HSp.out _ H1.out.2).mono ?_; rintro e w2 ⟨rfl, b2⟩; have H2 := Lib.hid (FdK.start (H := H) (L := L) (x0 := x0) (x1 := x1) (x2 := x2) (x3 := x3) (And.intro (H1.out.1.below b2) (geo_next H1.out.2 b2))); clear b2)
        | (go_at_call 67; refine (HR.out _).mono ?_; rintro e w3 ⟨rfl, b3⟩; replace H2 := Lib.hid (H2.out.below b3); clear b3; obtain ⟨⟨c0, c1, c2, c3⟩, _⟩ := H2.out.cells; obtain ⟨⟨_, r0, r1, s0, s1⟩, _, _⟩ := H2.out)
        | (go_at_call 160; refine (HIn.out _).mono ?_; rintro e w4 ⟨rfl, b4⟩; replace H2 := Lib.hid (H2.out.below b4); clear b4 c0 c1 c2 c3 r0 r1 s0 s1; obtain ⟨⟨c0, c1, c2, c3⟩, _⟩ := H2.out.cells; obtain ⟨⟨_, r0, r1, s0, s1⟩, _, _⟩ := H2.out))
      go_region_held3 (fun u => (u.cell? ⟨w2.heap.size, 0, none⟩ = some (.int .i64 H) ∧ u.cell? ⟨w2.heap.size, 1, none⟩ = some (.int .i64 L) ∧ u.cell? ⟨w2.heap.size + 1, 0, none⟩ = some (.int .i64 x0) ∧ u.cell? ⟨w2.heap.size + 1, 2, none⟩ = some (.int .i64 x2)) ∧ FdK w w2 H L x0 x1 x2 x3 u) (first
          | assumption
          | exact H2.out.cells
          | exact (H2.out.below (Below.refl _ _).drew).cells
          | exact ((by assumption : _ ∧ FdK w w2 H L x0 x1 x2 x3 _).2.below b7).cells) (first
        | (go_at_call 204; refine (HOt.out _).mono ?_; rintro e w' ⟨rfl, rfl⟩)
        | (go_at_call 160; refine (HIo.out _).mono ?_; rintro e w7 ⟨rfl, b7⟩))
      rename_i hH
      replace H2 := Lib.hid hH.2
      clear hH c0 c1 c2 c3 r0 r1 s0 s1
      go_wp2_with (go_at_call 205; refine (HLf.out _ H2.out.b).mono ?_; rintro e w8 ⟨v8, rfl, he8, b8⟩; have H8 := Lib.hid (FdP.start (H2.out.r.below b8) (geo_next H2.out.b b8) he8 pa pz); clear b8 he8; obtain ⟨⟨_, r0, r1, s0, s1⟩, ⟨_, p0, p1, _, _⟩, _, _⟩ := H8.out)
      have HD := Lib.hid (H8.out.below (Below.refl _ _).drew)
      go_region_with (first
        | (go_at_call 123; with_reducible refine (in_err x _ _ _ HD.out.e).mono ?_; rintro e w9 ⟨v9, rfl, b9, he9⟩; have H9 := Lib.hid (And.intro (HD.out.below b9) he9); clear b9 he9 r0 r1 s0 s1 p0 p1; obtain ⟨⟨⟨_, r0, r1, s0, s1⟩, ⟨_, p0, p1, _, _⟩, _, _⟩, _⟩ := H9.out)
        | (go_at_call 123; with_reducible refine (in_err x _ _ _ (HD.out.r.err HD.out.e)).mono ?_; rintro e w9 ⟨v9, rfl, b9, he9⟩; have H9 := Lib.hid (And.intro ((HD.out.r.set2 (.int .i64 pa) (.int .i64 pz)).below b9) (And.intro (geo_next (Row2.kept HD.out.b (Nat.le_refl _)) b9) he9)); clear b9 he9))
      all_goals go_wp2_with fail
      all_goals
        (first
          | (refine bodyPost_ret (results_cell2 rfl rfl (H9.out.1.r.set2 _ _).load rfl) rfl ?_
             exact ⟨v9, rfl, H9.out.1.r.err H9.out.2, Row2.kept H9.out.1.b (Nat.le_refl _)⟩)
          | (refine bodyPost_ret (results_cell2 rfl rfl H9.out.1.load rfl) rfl ?_
             exact ⟨v9, rfl, H9.out.2.2, H9.out.2.1⟩))
end
end Go.Proofs.YtiiioeodanmieaaGreatDoor
