import Derived.Lib.Hide
import Derived.Test.YtbghglkplbnnkaaGreatDoorYAllocA
import Derived.Test.YtbghglkplbnnkaaGreatDoorYHeapD
import Derived.Test.YtbghglkplbnnkaaGreatDoorYLoopA
set_option linter.unusedVariables false
set_option linter.unusedSimpArgs false
-- FollowIs
namespace Go.Proofs.YtbghglkplbnnkaaGreatDoor
open Go.RowKit Sec
open Go.Proofs.YtbghglkplbnnkaaGreatDoor.Bk

theorem fother_is {x : Int} (hx : x = 0 ∨ x = 1) (w : World) : Calls Tryz.prog 171 #[.int .i64 x] w fun e w' => e = .returned (.int .i64 (1 - x)) ∧ w' = w := by
  have hw : IntKind.i64.wrap (1 - x) = 1 - x := by rw [IntKind.wrap_i64]; omega
  go_enter Tryz.func171, Tryz.ntmps171
  go_wp2
  go_ret
  exact ⟨rfl, rfl⟩
theorem run_ctl0 (v0 v1 v2 v3 : Value) (w : World) : (Instr.field 56 (.agg #[v0, v1, v2, v3]) 0).run Tryz.prog w = .ok v0 w := by kernel_rfl
theorem ge_in {h l sp c : Int} (q : geOk h l = true) (hs : sp = 0 ∨ sp = 1) : geIn h l sp c = inB h sp c := by
  have hh : geHalf h l sp = true := by rw [geHalf, q, Bool.true_and]; exact decide_eq_true (by omega)
  rw [geIn, geBase, geEnd, if_pos hh, if_pos hh, inB]
def lfB (H : Int) (W : List Int) (a : Int) : Bool := (fwOk (W.getD a.toNat 0) && inB H (hSp W) (fwA (W.getD a.toNat 0))) || (hdOk (W.getD a.toNat 0) && decide (a + (1 + prS (W.getD a.toNat 0) + prW (W.getD a.toNat 0)) ≤ 16 + (1 - hSp W) * H + H))
def lfA (H : Int) (W : List Int) (a : Int) : Int := if fwOk (W.getD a.toNat 0) = true ∧ inB H (hSp W) (fwA (W.getD a.toNat 0)) = true then fwA (W.getD a.toNat 0) else if lfB H W a = true then a else 0
def lfZ (H : Int) (W : List Int) (a : Int) : Int := if fwOk (W.getD a.toNat 0) = true ∧ inB H (hSp W) (fwA (W.getD a.toNat 0)) = true then 0 else if lfB H W a = true then 1 + prS (W.getD a.toNat 0) + prW (W.getD a.toNat 0) else 0
structure Row2 (u : World) (g : Nat) (v0 v1 : Value) : Prop where
  lt : g < u.heap.size
  c0 : u.cell? ⟨g, 0, none⟩ = some v0
  c1 : u.cell? ⟨g, 1, none⟩ = some v1
  f0 : u.frozen? ⟨g, 0, none⟩ = false
  f1 : u.frozen? ⟨g, 1, none⟩ = false
theorem Row2.below {u u' : World} {g : Nat} {v0 v1 : Value} (h : Row2 u g v0 v1) (b : Below u.heap.size u u') : Row2 u' g v0 v1 :=
  ⟨Nat.lt_of_lt_of_le h.lt b.size, (b.cell (p := ⟨g, 0, none⟩) h.lt).trans h.c0, (b.cell (p := ⟨g, 1, none⟩) h.lt).trans h.c1, (b.frozen (p := ⟨g, 0, none⟩) h.lt).trans h.f0, (b.frozen (p := ⟨g, 1, none⟩) h.lt).trans h.f1⟩
theorem Row2.made (w : World) (v0 v1 : Value) (t : TypeId) : Row2 (w.alloc (.cells #[v0, v1] t)) w.heap.size v0 v1 := by
  refine ⟨?_, ?_, ?_, ?_, ?_⟩ <;> simp
theorem Row2.kept {B : Nat} {w u : World} {g : Nat} {v0 v1 : Value} (b : Below B w u) (hg : B ≤ g) : Below B w ((u.setCell ⟨g, 0, none⟩ v0).setCell ⟨g, 1, none⟩ v1) :=
  (b.setCell (p := ⟨g, 0, none⟩) hg _).setCell (p := ⟨g, 1, none⟩) hg _
theorem Row2.err {u : World} {g : Nat} {x : Int} {v z0 z1 z : Value} (h : Row2 u g (.int .i64 0) z) (e : ErrIs u x v) : ErrIs ((u.setCell ⟨g, 0, none⟩ z0).setCell ⟨g, 1, none⟩ z1) x v :=
  e.off h.c0 (fun b hb => (heap_setCell_other _ ⟨g, 1, none⟩ _ _ (fun q => hb q)).trans (heap_setCell_other _ ⟨g, 0, none⟩ _ _ (fun q => hb q)))
theorem Row2.set2 {u : World} {g : Nat} {z0 z1 : Value} (h : Row2 u g z0 z1) (v0 v1 : Value) : Row2 ((u.setCell ⟨g, 0, none⟩ v0).setCell ⟨g, 1, none⟩ v1) g v0 v1 := by
  obtain ⟨l0, c0, c1, f0, f1⟩ := h
  refine ⟨?_, ?_, ?_, ?_, ?_⟩ <;> (first | exact (by simpa using l0) | (simp only [World.frozen?_setCell]; assumption) | simp [go_sem, set_same, c0, c1])
theorem Row2.load {w : World} {g : Nat} {v0 v1 : Value} (h : Row2 w g v0 v1) : (loadVar 240 ⟨g, 0, none⟩).run Tryz.prog w = .ok (.agg #[v0, v1]) w := by
  obtain ⟨l0, c0, c1, f0, f1⟩ := h
  simp [go_sem, c0, c1]
structure LfK (w : World) (H L : Nat) (g : Nat) (u : World) : Prop where
  r : Row2 u w.heap.size (.int .i64 0) (.int .i64 0)
  b : Below w.heap.size w u
  g : GBox u g H L
theorem LfK.below {w u u' : World} {H L g : Nat} (x : LfK w H L g u) (y : Below u.heap.size u u') : LfK w H L g u' := ⟨x.r.below y, geo_next x.b y, x.g.below y⟩
theorem LfK.keep {w u u' : World} {H L g : Nat} (x : (u.cell? ⟨g, 0, none⟩ = some (.int .i64 H) ∧ u.cell? ⟨g, 1, none⟩ = some (.int .i64 L)) ∧ LfK w H L g u) (y : Below u.heap.size u u') : (u'.cell? ⟨g, 0, none⟩ = some (.int .i64 H) ∧ u'.cell? ⟨g, 1, none⟩ = some (.int .i64 L)) ∧ LfK w H L g u' :=
  have z := x.2.below y
  ⟨⟨z.g.c0, z.g.c1⟩, z⟩
theorem Row2.start (w : World) (t : TypeId) : Row2 (w.alloc (.cells #[.int .i64 0, .int .i64 0] t)) w.heap.size (.int .i64 0) (.int .i64 0) ∧ Below w.heap.size w (w.alloc (.cells #[.int .i64 0, .int .i64 0] t)) :=
  ⟨Row2.made w _ _ t, (Below.refl _ _).alloc (Nat.le_refl _) _⟩
theorem LfK.start {w u u' : World} {H L : Nat} {t : TypeId} (x : Row2 u w.heap.size (.int .i64 0) (.int .i64 0) ∧ Below w.heap.size w u) (y : Below (u.alloc (.cells #[.int .i64 (H : Int), .int .i64 (L : Int)] t)).heap.size (u.alloc (.cells #[.int .i64 (H : Int), .int .i64 (L : Int)] t)) u') : LfK w H L u.heap.size u' := by
  have z : Below u.heap.size u u' := ((Below.refl _ _).alloc (Nat.le_refl _) _).trans (y.mono (by simp))
  exact ⟨x.1.below z, geo_next x.2 z, (GBox.made u _ _ t).below y⟩
section
variable {B : Nat} {G : Nat → Prop} {w : World} {s H L : Nat} {W : List Int}
set_option maxRecDepth 100000 in
set_option maxHeartbeats 8000000 in
theorem fleft_is (h : St B G w s H L W) (hk : hOk H L W = true) (a : Int) (ha : inB H (1 - hSp W) a = true) : Calls Tryz.prog 172 #[.pointer (some ⟨s, 0, none⟩), .int .i64 a] w fun e w' => ∃ v, e = .returned (.tuple #[.agg #[.int .i64 (lfA H W a), .int .i64 (lfZ H W a)], v]) ∧ ErrIs w' (if lfB H W a then 0 else 4) v ∧ Below w.heap.size w w' := by
  obtain ⟨f1, f2, f3, f4, f5⟩ := fine_yes hk
  have hq := geOk_yes f1
  have hib := of_decide_eq_true ha
  have hm : 0 ≤ (1 - hSp W) * (H : Int) ∧ (1 - hSp W) * (H : Int) ≤ H := by rcases f2 with x | x <;> rw [x] <;> omega
  have hwk : wkC W (16 + 2 * H) a = W.getD a.toNat 0 := if_pos (by omega)
  have hnum := h.num a.toNat
  have HGet := Lib.hid (fun u (y : Below w.heap.size w u) => st_get (h.below y) a)
  rw [hwk] at HGet
  have HSp := Lib.hid (fun u (y : Below w.heap.size w u) => spget_st (h.below y))
  have HGe := Lib.hid (fun u (y : Below w.heap.size w u) => st_geo (h.below y))
  have HFw := Lib.hid (oforwarded_is (W.getD a.toNat 0) (by omega) (by omega))
  have HPa := Lib.hid (oparse_is (W.getD a.toNat 0) (by omega) (by omega))
  have HSz := Lib.hid (osize_is (prS (W.getD a.toNat 0)) (prW (W.getD a.toNat 0)))
  rw [szI, if_pos (pr_range (W.getD a.toNat 0))] at HSz
  have HIn := Lib.hid (fun c u => gin_is H L (hSp W) c u)
  have hin : ∀ c, geIn H L (hSp W) c = inB H (hSp W) c := fun c => ge_in f1 f2
  simp only [hin] at HIn
  have HOt := Lib.hid (fother_is f2)
  have HEn := Lib.hid (fun u => gend_is H L (1 - hSp W) u)
  rw [ge_end f1 (by omega)] at HEn
  have HK0 := Lib.hid (Row2.start w 240)
  have hp := shOk_yes (pr_range (W.getD a.toNat 0))
  have ha0 : 0 ≤ a ∧ a ≤ 816 := by omega
  have hde : fwOk (W.getD a.toNat 0) = true → hdOk (W.getD a.toNat 0) = false := fun x => by
    cases y : hdOk (W.getD a.toNat 0)
    · rfl
    · rw [hd_not_fw y] at x
      exact absurd x (by decide)
  rw [lfA, lfZ, lfB]
  clear h hk ha f1 f2 f3 f4 f5 hq hib hm hwk hnum hin
  generalize W.getD a.toNat 0 = v at *
  generalize prS v = ps at *
  generalize prW v = pw at *
  generalize fwA v = fa at *
  generalize fwOk v = fw at *
  generalize hdOk v = hd at *
  generalize (16 : Int) + (1 - hSp W) * (H : Int) + (H : Int) = en at *
  generalize hSp W = sp at *
  have hcase : (fw = true ∧ inB H sp fa = true) ∨ (fw = true ∧ hd = false ∧ inB H sp fa = false) ∨ (fw = false ∧ hd = false) ∨ (fw = false ∧ hd = true ∧ a + (1 + ps + pw) ≤ en) ∨ (fw = false ∧ hd = true ∧ ¬ a + (1 + ps + pw) ≤ en) := by
    cases fw
    · cases hd
      · exact .inr (.inr (.inl ⟨rfl, rfl⟩))
      · by_cases x : a + (1 + ps + pw) ≤ en
        · exact .inr (.inr (.inr (.inl ⟨rfl, rfl, x⟩)))
        · exact .inr (.inr (.inr (.inr ⟨rfl, rfl, x⟩)))
    · cases x : inB H sp fa
      · exact .inr (.inl ⟨rfl, hde rfl, rfl⟩)
      · exact .inl ⟨rfl, rfl⟩
  have HIf := Lib.hid (HIn.out fa)
  clear hde HIn
  generalize inB H sp fa = inn at *
  have hws : IntKind.i64.wrap (a + (1 + ps + pw)) = a + (1 + ps + pw) := by rw [IntKind.wrap_i64]; omega
  have hpp : 0 ≤ ps ∧ ps ≤ 15 ∧ 0 ≤ pw ∧ pw ≤ 30 := hp
  clear hp
  generalize (1 : Int) + ps + pw = sz at *
  have hfd := run_ctl0
  rcases hcase with ⟨rfl, rfl⟩ | ⟨rfl, rfl, rfl⟩ | ⟨rfl, rfl⟩ | ⟨rfl, rfl, hfit⟩ | ⟨rfl, rfl, hfit⟩
  all_goals (try rw [decide_eq_true hfit])
  all_goals (try rw [decide_eq_false hfit])
  all_goals
    simp only [Bool.and_true, Bool.true_and, Bool.and_false, Bool.false_and, Bool.or_true, Bool.true_or, Bool.or_false, Bool.false_or, and_true, true_and, and_false, false_and, if_true, if_false, Bool.false_eq_true, reduceIte]
    go_enter Tryz.func172, Tryz.ntmps172
    go_wp2_with (first
      | (go_at_call 37; with_reducible refine (HGe.out _ HK0.out.2).mono ?_; rintro e w1 ⟨rfl, b1⟩; have H1 := Lib.hid (And.intro (HK0.out.1.below b1) (geo_next HK0.out.2 b1)); clear b1)
      | (go_at_call 28; with_reducible refine (HSp.out _ H1.out.2).mono ?_; rintro e w2 ⟨rfl, b2⟩; have H2 := Lib.hid (And.intro (H1.out.1.below b2) (geo_next H1.out.2 b2)); clear b2)
      | (go_at_call 35; with_reducible refine (HGet.out _ (H2.out.2.alloc H2.out.2.size _)).mono ?_; rintro e w3 ⟨rfl, b3⟩; have H3 := Lib.hid (LfK.start H2.out b3); clear b3)
      | (go_at_call 35; with_reducible refine (HGet.out _ H3.out.b).mono ?_; rintro e w4 ⟨rfl, b4⟩; have H4 := Lib.hid (H3.out.below b4); clear b4; obtain ⟨_, c0, c1⟩ := H4.out.g; obtain ⟨⟨_, r0, r1, s0, s1⟩, _, _⟩ := H4.out)
      | (go_at_call 186; refine (HFw.out _).mono ?_; rintro e w' ⟨rfl, hw⟩; obtain rfl : w3 = w' := hw.symm)
      | (go_at_call 94; refine (HPa.out _).mono ?_; rintro e w' ⟨rfl, hw⟩; obtain rfl : w4 = w' := hw.symm)
      | (go_at_call 52; refine (HSz.out _).mono ?_; rintro e w' ⟨rfl, hw⟩; obtain rfl : w4 = w' := hw.symm)
      | (go_at_call 96; refine (HIf.out _).mono ?_; rintro e w5 ⟨rfl, b5⟩; replace H4 := Lib.hid (H4.out.below b5); clear b5 c0 c1 r0 r1 s0 s1; obtain ⟨_, c0, c1⟩ := H4.out.g; obtain ⟨⟨_, r0, r1, s0, s1⟩, _, _⟩ := H4.out))
  · refine bodyPost_ret (results_cell2 rfl rfl (H4.out.r.set2 _ _).load rfl) rfl ?_
    exact ⟨_, rfl, errNil _, Row2.kept H4.out.b (Nat.le_refl _)⟩
  iterate 2
    · go_quiet (fail)
      go_wp2_with (go_at_call 65; refine (new_err 4 a _).mono ?_; rintro e w6 ⟨v6, rfl, b6, he6⟩; have H6 := Lib.hid (And.intro ((H4.out.below (bel_drewN (Below.refl _ _) _)).below b6) he6); clear b6 he6 r0 r1 s0 s1; obtain ⟨⟨⟨_, r0, r1, s0, s1⟩, _, _⟩, _⟩ := H6.out)
      refine bodyPost_ret (results_cell2 rfl rfl (H6.out.1.r.set2 _ _).load rfl) rfl ?_
      exact ⟨v6, rfl, H6.out.1.r.err H6.out.2, Row2.kept H6.out.1.b (Nat.le_refl _)⟩
  all_goals
      go_region_held3 (fun u => (u.cell? ⟨w2.heap.size, 0, none⟩ = some (.int .i64 H) ∧ u.cell? ⟨w2.heap.size, 1, none⟩ = some (.int .i64 L)) ∧ LfK w H L w2.heap.size u) (first
          | assumption
          | exact ⟨⟨H4.out.g.c0, H4.out.g.c1⟩, H4.out⟩
          | exact ⟨⟨(H4.out.below (Below.refl _ _).drew).g.c0, (H4.out.below (Below.refl _ _).drew).g.c1⟩, H4.out.below (Below.refl _ _).drew⟩
          | exact LfK.keep (by assumption) b7) (first
        | (go_at_call 171; refine (HOt.out _).mono ?_; rintro e w' ⟨rfl, rfl⟩)
        | (go_at_call 50; refine (HEn.out _).mono ?_; rintro e w7 ⟨rfl, b7⟩))
      rename_i hH
      have H7 := Lib.hid hH.2
      clear hH c0 c1 r0 r1 s0 s1
      obtain ⟨⟨_, r0, r1, s0, s1⟩, _, _⟩ := H7.out
      go_wp2_with (go_at_call 65; refine (new_err 4 a _).mono ?_; rintro e w6 ⟨v6, rfl, b6, he6⟩; have H6 := Lib.hid (And.intro (H7.out.below b6) he6); clear b6 he6 r0 r1 s0 s1; obtain ⟨⟨⟨_, r0, r1, s0, s1⟩, _, _⟩, _⟩ := H6.out)
  · refine bodyPost_ret (results_cell2 rfl rfl (H7.out.r.set2 _ _).load rfl) rfl ?_
    exact ⟨.nilIface, rfl, errNil _, Row2.kept H7.out.b (Nat.le_refl _)⟩
  · refine bodyPost_ret (results_cell2 rfl rfl (H6.out.1.r.set2 _ _).load rfl) rfl ?_
    exact ⟨v6, rfl, H6.out.1.r.err H6.out.2, Row2.kept H6.out.1.b (Nat.le_refl _)⟩
def fdZ (h l : Int) (W : List Int) (a : Int) : Int := if folM h l W a = true then folZ W a else 0
def fdX (h l : Int) (W : List Int) (a : Int) : Int := if hOk h l W = false then 1 else if (lk h l W a).2 = false then 4 else 0
theorem lf_lk (hk : hOk H L W = true) (a : Int) (h0 : a ≠ 0) (h1 : inB H (hSp W) a = false) (h2 : hGc W ≠ 0) (h3 : inB H (1 - hSp W) a = true) :
    lfA H W a = (lk H L W a).1 ∧ lfB H W a = (lk H L W a).2 ∧ lfZ H W a = fdZ H L W a := by
  have e : lk H L W a = (lfA H W a, lfB H W a) := by
    rw [lk, if_neg (by rw [hk]; decide), if_neg (by rw [h1]; simp [h0]), if_neg (by rw [h3]; simp [h2]), lfA, lfB]
    cases q : fwOk (W.getD a.toNat 0)
    · simp only [Bool.false_eq_true, false_and, if_false, Bool.false_and, Bool.false_or, reduceIte]
      by_cases c : hdOk (W.getD a.toNat 0) = true ∧ a + 1 + prS (W.getD a.toNat 0) + prW (W.getD a.toNat 0) ≤ 16 + (1 - hSp W) * H + H
      · rw [if_pos c, c.1, decide_eq_true (show a + (1 + prS (W.getD a.toNat 0) + prW (W.getD a.toNat 0)) ≤ 16 + (1 - hSp W) * H + H by omega)]
        rfl
      · rw [if_neg c]
        have : (hdOk (W.getD a.toNat 0) && decide (a + (1 + prS (W.getD a.toNat 0) + prW (W.getD a.toNat 0)) ≤ 16 + (1 - hSp W) * H + H)) = false := by
          cases d : hdOk (W.getD a.toNat 0)
          · rfl
          · rw [Bool.true_and]
            exact decide_eq_false (fun x => c ⟨d, by omega⟩)
        rw [this]
        rfl
    · have hd : hdOk (W.getD a.toNat 0) = false := by
        cases y : hdOk (W.getD a.toNat 0)
        · rfl
        · rw [hd_not_fw y] at q
          exact absurd q (by decide)
      cases c : inB H (hSp W) (fwA (W.getD a.toNat 0))
      · simp only [hd, Bool.false_eq_true, and_false, if_false, if_true, Bool.false_and, Bool.and_false, Bool.false_or, reduceIte]
      · simp only [and_self, if_true, Bool.and_self, Bool.true_or, reduceIte]
  have ea : lfA H W a = (lk H L W a).1 := by rw [e]
  have eb : lfB H W a = (lk H L W a).2 := by rw [e]
  refine ⟨ea, eb, ?_⟩
  rw [fdZ, folM, hk, h1, decide_eq_true h0, ← ea, ← eb, Bool.true_and, Bool.true_and, Bool.not_false, Bool.true_and]
  cases b : lfB H W a
  · rw [Bool.false_and, if_neg (by decide), lfZ, b]
    rw [lfB] at b
    have b1 := (Bool.or_eq_false_iff.1 b).1
    rw [if_neg (by rw [← Bool.and_eq_true, b1]; decide), if_neg (by decide)]
  · rw [Bool.true_and, lfZ, lfA, b]
    by_cases c : fwOk (W.getD a.toNat 0) = true ∧ inB H (hSp W) (fwA (W.getD a.toNat 0)) = true
    · rw [if_pos c, if_pos c, if_neg]
      intro q
      have q := of_decide_eq_true q
      rw [q, h1] at c
      exact absurd c.2 (by decide)
    · rw [if_neg c, if_neg c, if_pos rfl, if_pos rfl, if_pos (decide_eq_true rfl), folZ]
structure FdK (w w2 : World) (H L : Nat) (x0 x1 x2 x3 : Int) (u : World) : Prop where
  r : Row2 u w.heap.size (.int .i64 0) (.int .i64 0)
  b : Below w.heap.size w u
  k : Kept6 w2 H L x0 x1 x2 x3 u
theorem FdK.below {w w2 u u' : World} {H L : Nat} {x0 x1 x2 x3 : Int} (x : FdK w w2 H L x0 x1 x2 x3 u) (y : Below u.heap.size u u') : FdK w w2 H L x0 x1 x2 x3 u' := ⟨x.r.below y, geo_next x.b y, kept6_keep x.k y⟩
theorem FdK.start {w w2 : World} {H L : Nat} {x0 x1 x2 x3 : Int} (x : Row2 w2 w.heap.size (.int .i64 0) (.int .i64 0) ∧ Below w.heap.size w w2) : FdK w w2 H L x0 x1 x2 x3 ((w2.alloc (.cells #[.int .i64 (H : Int), .int .i64 (L : Int)] 23)).alloc (.cells #[.int .i64 x0, .int .i64 x1, .int .i64 x2, .int .i64 x3] 56)) := by
  have z := kept6_made w2 H L x0 x1 x2 x3
  exact ⟨x.1.below z.2.2, geo_next x.2 z.2.2, z⟩
theorem FdK.cells {w w2 u : World} {H L : Nat} {x0 x1 x2 x3 : Int} (x : FdK w w2 H L x0 x1 x2 x3 u) :
    (u.cell? ⟨w2.heap.size, 0, none⟩ = some (.int .i64 H) ∧ u.cell? ⟨w2.heap.size, 1, none⟩ = some (.int .i64 L) ∧ u.cell? ⟨w2.heap.size + 1, 0, none⟩ = some (.int .i64 x0) ∧ u.cell? ⟨w2.heap.size + 1, 2, none⟩ = some (.int .i64 x2)) ∧ FdK w w2 H L x0 x1 x2 x3 u :=
  ⟨⟨x.k.1.1, x.k.1.2.1, x.k.1.2.2.1, x.k.1.2.2.2.2.1⟩, x⟩
structure FdP (w : World) (g : Nat) (a z x : Int) (v : Value) (u : World) : Prop where
  r : Row2 u w.heap.size (.int .i64 0) (.int .i64 0)
  p : Row2 u g (.int .i64 a) (.int .i64 z)
  b : Below w.heap.size w u
  e : ErrIs u x v
theorem FdP.below {w u u' : World} {g : Nat} {a z x : Int} {v : Value} (h : FdP w g a z x v u) (y : Below u.heap.size u u') : FdP w g a z x v u' := ⟨h.r.below y, h.p.below y, geo_next h.b y, h.e.below y⟩
theorem FdP.start {w u : World} {x : Int} {v : Value} (r : Row2 u w.heap.size (.int .i64 0) (.int .i64 0)) (b : Below w.heap.size w u) (e : ErrIs u x v) (a z : Int) : FdP w u.heap.size a z x v (u.alloc (.cells #[.int .i64 a, .int .i64 z] 240)) := by
  have y : Below u.heap.size u (u.alloc (.cells #[.int .i64 a, .int .i64 z] 240)) := (Below.refl _ _).alloc (Nat.le_refl _) _
  exact ⟨r.below y, Row2.made u _ _ _, geo_next b y, e.below y⟩
set_option maxRecDepth 100000 in
set_option maxHeartbeats 8000000 in
theorem ffind_is (h : St B G w s H L W) (a : Int) : Calls Tryz.prog 159 #[.pointer (some ⟨s, 0, none⟩), .int .i64 a] w fun e w' => ∃ v, e = .returned (.tuple #[.agg #[.int .i64 (lk H L W a).1, .int .i64 (fdZ H L W a)], v]) ∧ ErrIs w' (fdX H L W a) v ∧ Below w.heap.size w w' := by
  have HSp := Lib.hid (fun u (y : Below w.heap.size w u) => spget_st (h.below y))
  have HGe := Lib.hid (fun u (y : Below w.heap.size w u) => st_geo (h.below y))
  have HR := Lib.hid (fun u => spright_is H L (hSp W) (hFr W) (hGc W) (hSc W) u)
  rw [show fineB H L (hSp W) (hFr W) (hGc W) (hSc W) = hOk H L W from rfl] at HR
  have HK0 := Lib.hid (Row2.start w 240)
  cases hk : hOk H L W with
  | false =>
    rw [hk] at HR
    have e1 : (lk H L W a).1 = 0 := by rw [lk, if_pos hk]
    have e2 : fdZ H L W a = 0 := if_neg (fun q => by rw [(folM_yes q).1] at hk; exact absurd hk (by decide))
    have e3 : fdX H L W a = 1 := if_pos hk
    rw [e1, e2, e3]
    clear e1 e2 e3 hk h
    generalize hSp W = x0 at *
    generalize hFr W = x1 at *
    generalize hGc W = x2 at *
    generalize hSc W = x3 at *
    go_enter Tryz.func159, Tryz.ntmps159
    go_wp2_with (first
      | (go_at_call 37; with_reducible refine (HGe.out _ HK0.out.2).mono ?_; rintro e w1 ⟨rfl, b1⟩; have H1 := Lib.hid (And.intro (HK0.out.1.below b1) (geo_next HK0.out.2 b1)); clear b1)
      | (go_at_call 28; with_reducible refine (HSp.out _ H1.out.2).mono ?_; rintro e w2 ⟨rfl, b2⟩; have H2 := Lib.hid (FdK.start (H := H) (L := L) (x0 := x0) (x1 := x1) (x2 := x2) (x3 := x3) (And.intro (H1.out.1.below b2) (geo_next H1.out.2 b2))); clear b2)
      | (go_at_call 43; refine (HR.out _).mono ?_; rintro e w3 ⟨rfl, b3⟩; replace H2 := Lib.hid (H2.out.below b3); clear b3)
      | (go_at_call 65; refine (new_err 1 a _).mono ?_; rintro e w4 ⟨v4, rfl, b4, he4⟩; have H4 := Lib.hid (And.intro (H2.out.below b4) he4); clear b4 he4)
      | (go_at_call 64; refine (in_err 1 _ _ _ H4.out.2).mono ?_; rintro e w5 ⟨v5, rfl, b5, he5⟩; have H5 := Lib.hid (And.intro (H4.out.1.below b5) he5); clear b5 he5; obtain ⟨⟨⟨_, r0, r1, s0, s1⟩, _, _⟩, _⟩ := H5.out))
    refine bodyPost_ret (results_cell2 rfl rfl (H5.out.1.r.set2 _ _).load rfl) rfl ?_
    exact ⟨v5, rfl, H5.out.1.r.err H5.out.2, Row2.kept H5.out.1.b (Nat.le_refl _)⟩
  | true =>
    rw [hk] at HR
    obtain ⟨f1, f2, f3, f4, f5⟩ := fine_yes hk
    have HIn := Lib.hid (fun u => gin_is H L (hSp W) a u)
    rw [ge_in f1 f2] at HIn
    have HIo := Lib.hid (fun u => gin_is H L (1 - hSp W) a u)
    rw [ge_in f1 (by omega)] at HIo
    have HOt := Lib.hid (fother_is f2)
    by_cases c : a = 0 ∨ inB H (hSp W) a = true
    · have e0 : lk H L W a = (a, true) := by rw [lk, if_neg (by rw [hk]; decide), if_pos c]
      have e2 : fdZ H L W a = 0 := if_neg (fun q => by
        obtain ⟨_, _, q3, q4, _⟩ := folM_yes q
        rcases c with c | c
        · exact q3 c
        · rw [q4] at c
          exact absurd c (by decide))
      have e3 : fdX H L W a = 0 := by rw [fdX, if_neg (by rw [hk]; decide), e0, if_neg (by simp)]
      rw [e0, e2, e3]
      have c' : a = 0 ∨ (a ≠ 0 ∧ inB H (hSp W) a = true) := by
        by_cases q : a = 0
        · exact .inl q
        · exact .inr ⟨q, c.resolve_left q⟩
      clear e0 e2 e3 hk h f1 f2 f3 f4 f5 HIo HOt c
      generalize inB H (hSp W) a = inn at *
      generalize hSp W = x0 at *
      generalize hFr W = x1 at *
      generalize hGc W = x2 at *
      generalize hSc W = x3 at *
      rcases c' with rfl | ⟨c1, rfl⟩
      all_goals
        go_enter Tryz.func159, Tryz.ntmps159
        go_wp2_with (first
          | (go_at_call 37; with_reducible refine (HGe.out _ HK0.out.2).mono ?_; rintro e w1 ⟨rfl, b1⟩; have H1 := Lib.hid (And.intro (HK0.out.1.below b1) (geo_next HK0.out.2 b1)); clear b1)
          | (go_at_call 28; with_reducible refine (HSp.out _ H1.out.2).mono ?_; rintro e w2 ⟨rfl, b2⟩; have H2 := Lib.hid (FdK.start (H := H) (L := L) (x0 := x0) (x1 := x1) (x2 := x2) (x3 := x3) (And.intro (H1.out.1.below b2) (geo_next H1.out.2 b2))); clear b2)
          | (go_at_call 43; refine (HR.out _).mono ?_; rintro e w3 ⟨rfl, b3⟩; replace H2 := Lib.hid (H2.out.below b3); clear b3; obtain ⟨⟨c0, c1, c2, c3⟩, _⟩ := H2.out.cells; obtain ⟨⟨_, r0, r1, s0, s1⟩, _, _⟩ := H2.out)
          | (go_at_call 96; refine (HIn.out _).mono ?_; rintro e w4 ⟨rfl, b4⟩; replace H2 := Lib.hid (H2.out.below b4); clear b4 c0 c1 c2 c3 r0 r1 s0 s1; obtain ⟨⟨c0, c1, c2, c3⟩, _⟩ := H2.out.cells; obtain ⟨⟨_, r0, r1, s0, s1⟩, _, _⟩ := H2.out)
          | (go_at_call 65; refine (new_err 4 _ _).mono ?_; rintro e w5 ⟨v5, rfl, b5, he5⟩; have H5 := Lib.hid (And.intro (H2.out.below b5) he5); clear b5 he5)
          | (go_at_call 64; refine (in_err 4 _ _ _ H5.out.2).mono ?_; rintro e w6 ⟨v6, rfl, b6, he6⟩; have H6 := Lib.hid (And.intro (H5.out.1.below b6) he6); clear b6 he6 r0 r1 s0 s1; obtain ⟨⟨⟨_, r0, r1, s0, s1⟩, _, _⟩, _⟩ := H6.out))
        refine bodyPost_ret (results_cell2 rfl rfl (H2.out.r.set2 _ _).load rfl) rfl ?_
        exact ⟨_, rfl, errNil _, Row2.kept H2.out.b (Nat.le_refl _)⟩
    by_cases d : hGc W = 0 ∨ inB H (1 - hSp W) a = false
    · have ca : a ≠ 0 := fun q => c (.inl q)
      have cb : inB H (hSp W) a = false := by
        cases q : inB H (hSp W) a
        · rfl
        · exact absurd (.inr q) c
      have e0 : lk H L W a = (0, false) := by rw [lk, if_neg (by rw [hk]; decide), if_neg c, if_pos d]
      have e2 : fdZ H L W a = 0 := if_neg (fun q => by
        have := (folM_yes q).2.1
        rw [e0] at this
        exact absurd this (by decide))
      have e3 : fdX H L W a = 4 := by rw [fdX, if_neg (by rw [hk]; decide), e0, if_pos rfl]
      rw [e0, e2, e3]
      rw [cb] at HIn
      have d' : hGc W = 0 ∨ (hGc W ≠ 0 ∧ inB H (1 - hSp W) a = false) := by
        by_cases q : hGc W = 0
        · exact .inl q
        · exact .inr ⟨q, d.resolve_left q⟩
      clear e0 e2 e3 hk h f1 f2 f3 f4 f5 c d cb
      generalize inB H (1 - hSp W) a = ino at *
      generalize hSp W = x0 at *
      generalize hFr W = x1 at *
      generalize hGc W = x2 at *
      generalize hSc W = x3 at *
      rcases d' with rfl | ⟨c1, rfl⟩
      · go_enter Tryz.func159, Tryz.ntmps159
        go_wp2_with (first
          | (go_at_call 37; with_reducible refine (HGe.out _ HK0.out.2).mono ?_; rintro e w1 ⟨rfl, b1⟩; have H1 := Lib.hid (And.intro (HK0.out.1.below b1) (geo_next HK0.out.2 b1)); clear b1)
          | (go_at_call 28; with_reducible refine (HSp.out _ H1.out.2).mono ?_; rintro e w2 ⟨rfl, b2⟩; have H2 := Lib.hid (FdK.start (H := H) (L := L) (x0 := x0) (x1 := x1) (x2 := 0) (x3 := x3) (And.intro (H1.out.1.below b2) (geo_next H1.out.2 b2))); clear b2)
          | (go_at_call 43; refine (HR.out _).mono ?_; rintro e w3 ⟨rfl, b3⟩; replace H2 := Lib.hid (H2.out.below b3); clear b3; obtain ⟨⟨c0, c1, c2, c3⟩, _⟩ := H2.out.cells; obtain ⟨⟨_, r0, r1, s0, s1⟩, _, _⟩ := H2.out)
          | (go_at_call 96; refine (HIn.out _).mono ?_; rintro e w4 ⟨rfl, b4⟩; replace H2 := Lib.hid (H2.out.below b4); clear b4 c0 c1 c2 c3 r0 r1 s0 s1; obtain ⟨⟨c0, c1, c2, c3⟩, _⟩ := H2.out.cells; obtain ⟨⟨_, r0, r1, s0, s1⟩, _, _⟩ := H2.out)
          | (go_at_call 65; refine (new_err 4 a _).mono ?_; rintro e w5 ⟨v5, rfl, b5, he5⟩; have H5 := Lib.hid (And.intro (H2.out.below b5) he5); clear b5 he5)
          | (go_at_call 64; refine (in_err 4 _ _ _ H5.out.2).mono ?_; rintro e w6 ⟨v6, rfl, b6, he6⟩; have H6 := Lib.hid (And.intro (H5.out.1.below b6) he6); clear b6 he6 r0 r1 s0 s1; obtain ⟨⟨⟨_, r0, r1, s0, s1⟩, _, _⟩, _⟩ := H6.out))
        refine bodyPost_ret (results_cell2 rfl rfl (H6.out.1.r.set2 _ _).load rfl) rfl ?_
        exact ⟨_, rfl, H6.out.1.r.err H6.out.2, Row2.kept H6.out.1.b (Nat.le_refl _)⟩
      · go_enter Tryz.func159, Tryz.ntmps159
        go_wp2_with (first
          | (go_at_call 37; with_reducible refine (HGe.out _ HK0.out.2).mono ?_; rintro e w1 ⟨rfl, b1⟩; have H1 := Lib.hid (And.intro (HK0.out.1.below b1) (geo_next HK0.out.2 b1)); clear b1)
          | (go_at_call 28; with_reducible refine (HSp.out _ H1.out.2).mono ?_; rintro e w2 ⟨rfl, b2⟩; have H2 := Lib.hid (FdK.start (H := H) (L := L) (x0 := x0) (x1 := x1) (x2 := x2) (x3 := x3) (And.intro (H1.out.1.below b2) (geo_next H1.out.2 b2))); clear b2)
          | (go_at_call 43; refine (HR.out _).mono ?_; rintro e w3 ⟨rfl, b3⟩; replace H2 := Lib.hid (H2.out.below b3); clear b3; obtain ⟨⟨c0, c1, c2, c3⟩, _⟩ := H2.out.cells; obtain ⟨⟨_, r0, r1, s0, s1⟩, _, _⟩ := H2.out)
          | (go_at_call 96; refine (HIn.out _).mono ?_; rintro e w4 ⟨rfl, b4⟩; replace H2 := Lib.hid (H2.out.below b4); clear b4 c0 c1 c2 c3 r0 r1 s0 s1; obtain ⟨⟨c0, c1, c2, c3⟩, _⟩ := H2.out.cells; obtain ⟨⟨_, r0, r1, s0, s1⟩, _, _⟩ := H2.out)
          | (go_at_call 65; refine (new_err 4 a _).mono ?_; rintro e w5 ⟨v5, rfl, b5, he5⟩; have H5 := Lib.hid (And.intro (H2.out.below b5) he5); clear b5 he5)
          | (go_at_call 64; refine (in_err 4 _ _ _ H5.out.2).mono ?_; rintro e w6 ⟨v6, rfl, b6, he6⟩; have H6 := Lib.hid (And.intro (H5.out.1.below b6) he6); clear b6 he6 r0 r1 s0 s1; obtain ⟨⟨⟨_, r0, r1, s0, s1⟩, _, _⟩, _⟩ := H6.out))
        go_region_held3 (fun u => (u.cell? ⟨w2.heap.size, 0, none⟩ = some (.int .i64 H) ∧ u.cell? ⟨w2.heap.size, 1, none⟩ = some (.int .i64 L) ∧ u.cell? ⟨w2.heap.size + 1, 0, none⟩ = some (.int .i64 x0) ∧ u.cell? ⟨w2.heap.size + 1, 2, none⟩ = some (.int .i64 x2)) ∧ FdK w w2 H L x0 x1 x2 x3 u) (first
              | assumption
              | exact H2.out.cells
              | exact (H2.out.below (Below.refl _ _).drew).cells
              | exact ((by assumption : _ ∧ FdK w w2 H L x0 x1 x2 x3 _).2.below b7).cells) (first
            | (go_at_call 171; refine (HOt.out _).mono ?_; rintro e w' ⟨rfl, rfl⟩)
            | (go_at_call 96; refine (HIo.out _).mono ?_; rintro e w7 ⟨rfl, b7⟩))
        rename_i hH
        replace H2 := Lib.hid hH.2
        clear hH c0 c1 c2 c3 r0 r1 s0 s1
        obtain ⟨⟨_, r0, r1, s0, s1⟩, _, _⟩ := H2.out
        go_wp2_with (first
          | (go_at_call 65; refine (new_err 4 a _).mono ?_; rintro e w5 ⟨v5, rfl, b5, he5⟩; have H5 := Lib.hid (And.intro (H2.out.below b5) he5); clear b5 he5)
          | (go_at_call 64; refine (in_err 4 _ _ _ H5.out.2).mono ?_; rintro e w6 ⟨v6, rfl, b6, he6⟩; have H6 := Lib.hid (And.intro (H5.out.1.below b6) he6); clear b6 he6 r0 r1 s0 s1; obtain ⟨⟨⟨_, r0, r1, s0, s1⟩, _, _⟩, _⟩ := H6.out))
        refine bodyPost_ret (results_cell2 rfl rfl (H6.out.1.r.set2 _ _).load rfl) rfl ?_
        exact ⟨_, rfl, H6.out.1.r.err H6.out.2, Row2.kept H6.out.1.b (Nat.le_refl _)⟩
    · have ca : a ≠ 0 := fun q => c (.inl q)
      have cb : inB H (hSp W) a = false := by
        cases q : inB H (hSp W) a
        · rfl
        · exact absurd (.inr q) c
      have d0 : hGc W ≠ 0 := fun q => d (.inl q)
      have d1 : inB H (1 - hSp W) a = true := by
        cases q : inB H (1 - hSp W) a
        · exact absurd (.inr q) d
        · rfl
      obtain ⟨l1, l2, l3⟩ := lf_lk hk a ca cb d0 d1
      have e3 : fdX H L W a = if lfB H W a then 0 else 4 := by
        rw [fdX, if_neg (by rw [hk]; decide), ← l2]
        cases lfB H W a <;> rfl
      have HLf := Lib.hid (fun u (y : Below w.heap.size w u) => fleft_is (h.below y) hk a d1)
      rw [e3, ← l1, ← l3]
      rw [cb] at HIn
      rw [d1] at HIo
      clear e3 hk h f1 f2 f3 f4 f5 c d cb d1 l1 l2 l3
      generalize lfA H W a = pa at *
      generalize lfZ H W a = pz at *
      generalize (if lfB H W a then (0 : Int) else 4) = x at *
      generalize hSp W = x0 at *
      generalize hFr W = x1 at *
      generalize hGc W = x2 at *
      generalize hSc W = x3 at *
      go_enter Tryz.func159, Tryz.ntmps159
      go_wp2_with (first
        | (go_at_call 37; with_reducible refine (HGe.out _ HK0.out.2).mono ?_; rintro e w1 ⟨rfl, b1⟩; have H1 := Lib.hid (And.intro (HK0.out.1.below b1) (geo_next HK0.out.2 b1)); clear b1)
        | (go_at_call 28; with_reducible refine (HSp.out _ H1.out.2).mono ?_; rintro e w2 ⟨rfl, b2⟩; have H2 := Lib.hid (FdK.start (H := H) (L := L) (x0 := x0) (x1 := x1) (x2 := x2) (x3 := x3) (And.intro (H1.out.1.below b2) (geo_next H1.out.2 b2))); clear b2)
        | (go_at_call 43; refine (HR.out _).mono ?_; rintro e w3 ⟨rfl, b3⟩; replace H2 := Lib.hid (H2.out.below b3); clear b3; obtain ⟨⟨c0, c1, c2, c3⟩, _⟩ := H2.out.cells; obtain ⟨⟨_, r0, r1, s0, s1⟩, _, _⟩ := H2.out)
        | (go_at_call 96; refine (HIn.out _).mono ?_; rintro e w4 ⟨rfl, b4⟩; replace H2 := Lib.hid (H2.out.below b4); clear b4 c0 c1 c2 c3 r0 r1 s0 s1; obtain ⟨⟨c0, c1, c2, c3⟩, _⟩ := H2.out.cells; obtain ⟨⟨_, r0, r1, s0, s1⟩, _, _⟩ := H2.out))
      go_region_held3 (fun u => (u.cell? ⟨w2.heap.size, 0, none⟩ = some (.int .i64 H) ∧ u.cell? ⟨w2.heap.size, 1, none⟩ = some (.int .i64 L) ∧ u.cell? ⟨w2.heap.size + 1, 0, none⟩ = some (.int .i64 x0) ∧ u.cell? ⟨w2.heap.size + 1, 2, none⟩ = some (.int .i64 x2)) ∧ FdK w w2 H L x0 x1 x2 x3 u) (first
          | assumption
          | exact H2.out.cells
          | exact (H2.out.below (Below.refl _ _).drew).cells
          | exact ((by assumption : _ ∧ FdK w w2 H L x0 x1 x2 x3 _).2.below b7).cells) (first
        | (go_at_call 171; refine (HOt.out _).mono ?_; rintro e w' ⟨rfl, rfl⟩)
        | (go_at_call 96; refine (HIo.out _).mono ?_; rintro e w7 ⟨rfl, b7⟩))
      rename_i hH
      replace H2 := Lib.hid hH.2
      clear hH c0 c1 c2 c3 r0 r1 s0 s1
      go_wp2_with (go_at_call 172; refine (HLf.out _ H2.out.b).mono ?_; rintro e w8 ⟨v8, rfl, he8, b8⟩; have H8 := Lib.hid (FdP.start (H2.out.r.below b8) (geo_next H2.out.b b8) he8 pa pz); clear b8 he8; obtain ⟨⟨_, r0, r1, s0, s1⟩, ⟨_, p0, p1, _, _⟩, _, _⟩ := H8.out)
      have HD := Lib.hid (H8.out.below (Below.refl _ _).drew)
      go_region_with (first
        | (go_at_call 64; with_reducible refine (in_err x _ _ _ HD.out.e).mono ?_; rintro e w9 ⟨v9, rfl, b9, he9⟩; have H9 := Lib.hid (And.intro (HD.out.below b9) he9); clear b9 he9 r0 r1 s0 s1 p0 p1; obtain ⟨⟨⟨_, r0, r1, s0, s1⟩, ⟨_, p0, p1, _, _⟩, _, _⟩, _⟩ := H9.out)
        | (go_at_call 64; with_reducible refine (in_err x _ _ _ (HD.out.r.err HD.out.e)).mono ?_; rintro e w9 ⟨v9, rfl, b9, he9⟩; have H9 := Lib.hid (And.intro ((HD.out.r.set2 (.int .i64 pa) (.int .i64 pz)).below b9) (And.intro (geo_next (Row2.kept HD.out.b (Nat.le_refl _)) b9) he9)); clear b9 he9))
      all_goals go_wp2_with fail
      all_goals
        (first
          | (refine bodyPost_ret (results_cell2 rfl rfl (H9.out.1.r.set2 _ _).load rfl) rfl ?_
             exact ⟨v9, rfl, H9.out.1.r.err H9.out.2, Row2.kept H9.out.1.b (Nat.le_refl _)⟩)
          | (refine bodyPost_ret (results_cell2 rfl rfl H9.out.1.load rfl) rfl ?_
             exact ⟨v9, rfl, H9.out.2.2, H9.out.2.1⟩))
end
end Go.Proofs.YtbghglkplbnnkaaGreatDoor
-- FollowMv
namespace Go.Proofs.YtbghglkplbnnkaaGreatDoor
open Go.RowKit Sec
open Go.Proofs.YtbghglkplbnnkaaGreatDoor.Bk

theorem set_keep {V : List Int} {i : Nat} {v : Int} (h : V.getD i 0 = v) (hi : i < V.length) : V.set i v = V := by
  apply List.ext_getElem?
  intro j
  rw [List.getElem?_set]
  by_cases e : i = j
  · subst e
    rw [if_pos rfl, if_pos hi, ← h, List.getD_eq_getElem?_getD, List.getElem?_eq_getElem hi]
    rfl
  · rw [if_neg e]
theorem mv_last {h l : Int} {W : List Int} {a : Int} {n f z : Nat} (m : Mov h l W a n f z) (hl : 4 ≤ W.length) : ctlW ((cpfill W n f z).set n (33554432 + (f : Int))) (hSp W) ((f : Int) + z) (hGc W) (hSc W) = folW h l W a := by
  have hn := m.n16
  have hf := m.f16
  have e : ∀ i, i < 16 → ((cpfill W n f z).set n (33554432 + (f : Int))).getD i 0 = W.getD i 0 := fun i hi => by
    rw [getD_set_ne (by omega), cpfill_at W n f i z m.ap m.fl, if_neg (by omega)]
  have len : ((cpfill W n f z).set n (33554432 + (f : Int))).length = W.length := by rw [List.length_set, cpfill_len]
  rw [ctlW, set_keep (V := (cpfill W n f z).set n (33554432 + (f : Int))) (i := 0) (v := hSp W) (e 0 (by decide)) (by omega)]
  rw [set_keep (i := 2) (v := hGc W) (by rw [getD_set_ne (by decide)]; exact e 2 (by decide)) (by rw [List.length_set]; omega)]
  rw [set_keep (i := 3) (v := hSc W) (by rw [getD_set_ne (by decide)]; exact e 3 (by decide)) (by rw [List.length_set]; omega), m.ew]
  exact List.set_comm _ _ (by omega)
theorem mv_fine {h l : Int} {W : List Int} {a : Int} {n f z : Nat} (m : Mov h l W a n f z) (hk : hOk h l W = true) : fineB h l (hSp W) ((f : Int) + z) (hGc W) (hSc W) = true := by
  obtain ⟨f1, f2, f3, f4, f5⟩ := fine_yes hk
  have h1 := m.fr
  have h2 := m.fe
  rw [fineB, f1, Bool.true_and, decide_eq_true (show 0 ≤ hSp W ∧ hSp W ≤ 1 ∧ 0 ≤ hGc W ∧ hGc W ≤ 1 by omega), Bool.true_and, decide_eq_true (show 16 + hSp W * h ≤ (f : Int) + z ∧ (f : Int) + z ≤ 16 + hSp W * h + h by omega), Bool.true_and]
  rcases f5 with f5 | f5
  · rw [decide_eq_true f5, Bool.true_or]
  · rw [decide_eq_true (show hGc W = 1 ∧ 16 + hSp W * h ≤ hSc W ∧ hSc W ≤ (f : Int) + z by omega), Bool.or_true]
structure MvK (B : Nat) (G : Nat → Prop) (w w2 : World) (s H L : Nat) (n z : Int) (sp fr gc sc : Int) (V : List Int) (u : World) : Prop where
  x : NwS B (fun k => G k ∨ k = w.heap.size) w2 s H L sp fr gc sc V u
  p0 : u.cell? ⟨w.heap.size, 0, none⟩ = some (.int .i64 n)
  p1 : u.cell? ⟨w.heap.size, 1, none⟩ = some (.int .i64 z)
  lt : w.heap.size < u.heap.size
  b : Below B w u
  k : KeptG G w u
section
variable {B : Nat} {G : Nat → Prop} {w w2 u u' : World} {s H L : Nat} {W V V' : List Int} {n z sp fr gc sc : Int}
theorem MvK.below (x : MvK B G w w2 s H L n z sp fr gc sc V u) (y : Below u.heap.size u u') : MvK B G w w2 s H L n z sp fr gc sc V u' :=
  ⟨x.x.below y, (y.cell (p := ⟨_, 0, none⟩) x.lt).trans x.p0, (y.cell (p := ⟨_, 1, none⟩) x.lt).trans x.p1, Nat.lt_of_lt_of_le x.lt y.size, x.b.trans (y.mono x.x.s.le), x.k.trans (fun k g => y.block k (x.x.s.lt k (.inl (.inl g))))⟩
theorem MvK.step (x : MvK B G w w2 s H L n z sp fr gc sc V u) (h1 : St B (fun k => (G k ∨ k = w.heap.size) ∨ k = w2.heap.size) u' s H L V') (h2 : Below B u u') (h3 : KeptG (fun k => (G k ∨ k = w.heap.size) ∨ k = w2.heap.size) u u') : MvK B G w w2 s H L n z sp fr gc sc V' u' :=
  ⟨x.x.step h1 h2 h3, (h3.cell ⟨_, 0, none⟩ (.inl (.inr rfl))).trans x.p0, (h3.cell ⟨_, 1, none⟩ (.inl (.inr rfl))).trans x.p1, Nat.lt_of_lt_of_le x.lt h2.size, x.b.trans h2, x.k.trans (h3.mono fun k g => .inl (.inl g))⟩
theorem MvK.putFr (x : MvK B G w w2 s H L n z sp fr gc sc V u) (hB : B ≤ w2.heap.size) (hG : w.heap.size < w2.heap.size) (hg : ∀ k, G k → k < w.heap.size) (v : Int) : MvK B G w w2 s H L n z sp v gc sc V (u.setCell ⟨w2.heap.size, 1, none⟩ (.int .i64 v)) := by
  have hne : ¬ (G w2.heap.size ∨ w2.heap.size = w.heap.size) := fun q => by
    rcases q with q | q
    · have := hg _ q
      omega
    · omega
  have o : ∀ k, k ≠ w2.heap.size → (u.setCell ⟨w2.heap.size, 1, none⟩ (.int .i64 v)).heap[k]? = u.heap[k]? := fun k q => heap_setCell_other _ ⟨w2.heap.size, 1, none⟩ _ _ (fun e => q e)
  have b : Below B u (u.setCell ⟨w2.heap.size, 1, none⟩ (.int .i64 v)) := (Below.refl B u).setCell (p := ⟨w2.heap.size, 1, none⟩) hB _
  exact ⟨x.x.putFr hB hne v, (World.cell?_of_block (a := ⟨_, 0, none⟩) (o _ (show w.heap.size ≠ w2.heap.size by omega))).trans x.p0, (World.cell?_of_block (a := ⟨_, 1, none⟩) (o _ (show w.heap.size ≠ w2.heap.size by omega))).trans x.p1, Nat.lt_of_lt_of_le x.lt b.size, x.b.trans b, x.k.trans (fun k g => o k (fun e => by have := hg _ g; omega))⟩
theorem MvK.start {t t' : TypeId} (h : St B G w s H L W) (b2 : Below (w.alloc (.cells #[.int .i64 n, .int .i64 z] t)).heap.size (w.alloc (.cells #[.int .i64 n, .int .i64 z] t)) w2) : MvK B G w w2 s H L n z sp fr gc sc W (w2.alloc (.cells #[.int .i64 sp, .int .i64 fr, .int .i64 gc, .int .i64 sc] t')) ∧ w.heap.size < w2.heap.size := by
  have r := (Row2.made w (.int .i64 n) (.int .i64 z) t).below b2
  have y : Below w.heap.size w w2 := ((Below.refl _ _).alloc (Nat.le_refl _) _).trans (b2.mono (by simp))
  have y3 : Below w2.heap.size w2 (w2.alloc (.cells #[.int .i64 sp, .int .i64 fr, .int .i64 gc, .int .i64 sc] t')) := (Below.refl _ _).alloc (Nat.le_refl _) _
  have hs : St B (fun k => G k ∨ k = w.heap.size) w2 s H L W := (h.more y).mono (fun k q => by rcases q with q | rfl; exact .inl q; exact .inr ⟨Nat.le_refl _, r.lt⟩)
  have r3 := r.below y3
  exact ⟨⟨NwS.start hs sp fr gc sc t', r3.c0, r3.c1, r3.lt, (y.mono h.le).trans (y3.mono (Nat.le_trans h.le y.size)), (h.keptG y).trans (fun k g => y3.block k (Nat.lt_of_lt_of_le (h.lt k g) y.size))⟩, r.lt⟩
end
section
variable {B : Nat} {G : Nat → Prop} {w : World} {s H L : Nat} {W : List Int} {a : Int} {n f z : Nat}
set_option maxRecDepth 100000 in
set_option maxHeartbeats 8000000 in
theorem fmove_is (h : St B G w s H L W) (hk : hOk H L W = true) (m : Mov H L W a n f z) : Calls Tryz.prog 160 #[.pointer (some ⟨s, 0, none⟩), .agg #[.int .i64 (n : Int), .int .i64 (z : Int)]] w fun e w' => e = .returned (.int .i64 (f : Int)) ∧ St B G w' s H L (folW H L W a) ∧ Below B w w' ∧ KeptG G w w' := by
  have hWl := h.len
  have hge := h.ge
  have hnl := m.nl
  have hfl := m.fl
  have hn16 := m.n16
  have hf16 := m.f16
  have hz1 := m.z1
  have hnc : NumC W := h.num
  have HSp : Hid (∀ u, Below w.heap.size w u → Calls Tryz.prog 28 #[.pointer (some ⟨s, 0, none⟩)] u fun e w' => e = .returned (.agg #[.int .i64 (hSp W), .int .i64 (f : Int), .int .i64 (hGc W), .int .i64 (hSc W)]) ∧ Below u.heap.size u w') := Lib.hid (fun u y => by have := spget_st (h.below y); rwa [m.fr] at this)
  have HGet : Hid (∀ B G u V, St B G u s H L V → ∀ k, k < z → Calls Tryz.prog 35 #[.pointer (some ⟨s, 0, none⟩), .int .i64 ((n : Int) + (k : Int))] u fun e w' => e = .returned (.int .i64 (V.getD (n + k) 0)) ∧ Below u.heap.size u w') := Lib.hid (fun B G u V x k hk => by
    have := st_get x ((n : Int) + (k : Int))
    rwa [wkC, if_pos (by omega), show ((n : Int) + (k : Int)).toNat = n + k by omega] at this)
  have HSet : Hid (∀ B G u V, St B G u s H L V → NumC V → ∀ k, k < z → Calls Tryz.prog 82 #[.pointer (some ⟨s, 0, none⟩), .int .i64 ((f : Int) + (k : Int)), .int .i64 (V.getD (n + k) 0)] u fun e w' => (∃ b, e = .returned (.bool b)) ∧ St B G w' s H L (V.set (f + k) (V.getD (n + k) 0)) ∧ Below B u w' ∧ KeptG G u w') := Lib.hid (fun B G u V x nc k hk => by
    have := st_set x ((f : Int) + (k : Int)) (V.getD (n + k) 0)
    rw [setW_in (i := f + k) (by omega) (by omega) (nc _).1 (nc _).2] at this
    exact this.mono fun e w' ⟨h1, h2⟩ => ⟨⟨_, h1⟩, h2⟩)
  have HSn : Hid (∀ B G u V, St B G u s H L V → Calls Tryz.prog 82 #[.pointer (some ⟨s, 0, none⟩), .int .i64 (n : Int), .int .i64 (33554432 + (f : Int))] u fun e w' => (∃ b, e = .returned (.bool b)) ∧ St B G w' s H L (V.set n (33554432 + (f : Int))) ∧ Below B u w' ∧ KeptG G u w') := Lib.hid (fun B G u V x => by
    have := st_set x (n : Int) (33554432 + (f : Int))
    rw [setW_in (i := n) rfl (by omega) (by omega) (by omega)] at this
    exact this.mono fun e w' ⟨h1, h2⟩ => ⟨⟨_, h1⟩, h2⟩)
  have HFo := Lib.hid (oforward_is (f : Int))
  rw [fdI, show plOk (f : Int) = true from decide_eq_true (by omega), if_pos rfl] at HFo
  have HCt := Lib.hid (fun B G u (x : St B G u s H L ((cpfill W n f z).set n (33554432 + (f : Int)))) => spset_yes x (hSp W) ((f : Int) + z) (hGc W) (hSc W) (mv_fine m hk))
  rw [mv_last m (by omega)] at HCt
  have HCp : Hid (∀ k, NumC (cpfill W n f k)) := Lib.hid (fun k => hnc.cpfill n f k)
  have HCn : Hid (∀ k, cpfill W n f (k + 1) = (cpfill W n f k).set (f + k) ((cpfill W n f k).getD (n + k) 0)) := Lib.hid (fun k => rfl)
  have HC0 : Hid (cpfill W n f 0 = W) := Lib.hid rfl
  have HH := Lib.hid h
  have HY0 := Lib.hid ((Below.refl w.heap.size w).alloc (Nat.le_refl _) (.cells #[.int .i64 (n : Int), .int .i64 (z : Int)] 240))
  have n1 : (n : Int) + (z : Int) ≤ 816 := by omega
  have n2 : (f : Int) + (z : Int) ≤ 816 := by omega
  clear hnc hWl hge hnl hfl hk h m
  generalize folW H L W a = WF at *
  generalize hSp W = x0 at *
  generalize hGc W = x2 at *
  generalize hSc W = x3 at *
  go_enter Tryz.func160, Tryz.ntmps160
  go_wp2_with (go_at_call 28; refine (HSp.out _ HY0.out).mono ?_; rintro e w2 ⟨rfl, b2⟩; have H2 := Lib.hid (MvK.start (sp := x0) (fr := (f : Int)) (gc := x2) (sc := x3) (t' := 56) HH.out b2); clear b2; have c4 := H2.out.1.x.r.c1; have p1 := H2.out.1.p1)
  clear c4 p1
  go_loopw [16] (fun i wr => ∃ k : Nat, k ≤ z ∧ i = .int .i64 (k : Int) ∧ Hid (MvK B G w w2 s H L n z x0 f x2 x3 (cpfill W n f k) wr)) (fun i _ => z - (intOf i).toNat)
  case atStart => exact ⟨0, Nat.zero_le _, rfl, Lib.hid (by rw [HC0.out]; exact H2.out.1)⟩
  case round =>
    obtain ⟨k, hk, rfl, HR⟩ := hrel
    by_cases hlt : k < z
    · have hi1 : (k : Int) < (z : Int) := by omega
      have y2 : (n : Int) + (k : Int) ≤ 816 := by omega
      have y3 : (f : Int) + (k : Int) ≤ 816 := by omega
      have p0 := HR.out.p0
      go_wp2_with (first
        | (go_at_call 35; refine (HGet.out _ _ _ _ HR.out.x.s k hlt).mono ?_; rintro e w3 ⟨rfl, b3⟩; have H3 := Lib.hid (HR.out.below b3); clear b3)
        | (go_at_call 82; refine (HSet.out _ _ _ _ H3.out.x.s (HCp.out k) k hlt).mono ?_; rintro e w4 ⟨⟨bb, rfl⟩, h4, b4, k4⟩; have H4 := Lib.hid (H3.out.step h4 b4 k4); clear h4 b4 k4 p0))
      refine ⟨⟨k + 1, by omega, by go_num, Lib.hid ?_⟩, by simp [intOf]; omega⟩
      rw [HCn.out]
      exact H4.out
    · obtain rfl : k = z := by omega
      have hnl : ¬ (k : Int) < (k : Int) := by omega
      have p0 := HR.out.p0
      have p1 := HR.out.p1
      clear HCn HCp HGet HSet HSp HY0
      go_wp2_with (first
        | (go_at_call 173; refine (HFo.out _).mono ?_; rintro e w' ⟨rfl, hw⟩; obtain rfl : wr = w' := hw.symm)
        | (go_at_call 82; refine (HSn.out _ _ _ _ HR.out.x.s).mono ?_; rintro e w4 ⟨⟨bb, rfl⟩, h4, b4, k4⟩; have H4 := Lib.hid (HR.out.step h4 b4 k4); clear h4 b4 k4 p0 p1; have p1 := H4.out.p1; obtain ⟨_, d0, d1, d2, d3, e0, e1, e2, e3⟩ := H4.out.x.r; have H5 := Lib.hid (H4.out.putFr (Nat.le_trans HH.out.le (Nat.le_of_lt H2.out.2)) H2.out.2 (fun q g => HH.out.lt q g) ((f : Int) + (k : Int))))
        | (go_at_call 54; refine (HCt.out _ _ _ H5.out.x.s).mono ?_; rintro e w6 ⟨rfl, h6, b6, k6⟩; have H6 := Lib.hid (H5.out.step h6 b6 k6); clear h6 b6 k6))
      go_ret
      exact ⟨rfl, H6.out.x.s.mono (fun q g => .inl (.inl g)), H6.out.b, H6.out.k⟩
end
end Go.Proofs.YtbghglkplbnnkaaGreatDoor
-- FollowFo
namespace Go.Proofs.YtbghglkplbnnkaaGreatDoor
open Go.RowKit Sec
open Go.Proofs.YtbghglkplbnnkaaGreatDoor.Bk

structure FoK (B : Nat) (G : Nat → Prop) (w w1 : World) (s H L : Nat) (W : List Int) (a z : Int) (u : World) : Prop where
  g : GBox u w1.heap.size a z
  b : Below w.heap.size w u
  s : St B G u s H L W
theorem FoK.below {B : Nat} {G : Nat → Prop} {w w1 u u' : World} {s H L : Nat} {W : List Int} {a z : Int} (x : FoK B G w w1 s H L W a z u) (y : Below u.heap.size u u') : FoK B G w w1 s H L W a z u' := ⟨x.g.below y, geo_next x.b y, x.s.below y⟩
theorem FoK.cells {B : Nat} {G : Nat → Prop} {w w1 u : World} {s H L : Nat} {W : List Int} {a z : Int} (x : FoK B G w w1 s H L W a z u) : (u.cell? ⟨w1.heap.size, 0, none⟩ = some (.int .i64 a) ∧ u.cell? ⟨w1.heap.size, 1, none⟩ = some (.int .i64 z)) ∧ FoK B G w w1 s H L W a z u := ⟨⟨x.g.c0, x.g.c1⟩, x⟩
theorem FoK.start {B : Nat} {G : Nat → Prop} {w w1 : World} {s H L : Nat} {W : List Int} (h : St B G w s H L W) (b : Below w.heap.size w w1) (a z : Int) : FoK B G w w1 s H L W a z (w1.alloc (.cells #[.int .i64 a, .int .i64 z] 240)) := by
  have y : Below w1.heap.size w1 (w1.alloc (.cells #[.int .i64 a, .int .i64 z] 240)) := (Below.refl _ _).alloc (Nat.le_refl _) _
  exact ⟨GBox.made w1 a z _, geo_next b y, (h.below b).below y⟩
section
variable {B : Nat} {G : Nat → Prop} {w : World} {s H L : Nat} {W : List Int}
set_option maxRecDepth 100000 in
set_option maxHeartbeats 8000000 in
theorem ffollow_is (h : St B G w s H L W) (a : Int) : Calls Tryz.prog 135 #[.pointer (some ⟨s, 0, none⟩), .int .i64 a] w fun e w' => ∃ v, e = .returned (.tuple #[.int .i64 (folV H L W a), v]) ∧ ErrIs w' (folE H L W a) v ∧ St B G w' s H L (folW H L W a) ∧ Below B w w' ∧ KeptG G w w' := by
  have HF := Lib.hid (ffind_is h a)
  have HH := Lib.hid h
  by_cases c : fdX H L W a = 0
  · have c1 : hOk H L W = true := by
      cases q : hOk H L W
      · rw [fdX, if_pos q] at c
        exact absurd c (by decide)
      · rfl
    have c2 : (lk H L W a).2 = true := by
      cases q : (lk H L W a).2
      · rw [fdX, if_neg (by rw [c1]; decide), if_pos q] at c
        exact absurd c (by decide)
      · rfl
    rw [c] at HF
    by_cases d : folM H L W a = true
    · obtain ⟨n, hn, hn2, _⟩ := folM_at d
      have hge := h.ge
      obtain ⟨f1, f2, f3, f4, _⟩ := fine_yes c1
      have hp := shOk_yes (pr_range (W.getD a.toNat 0))
      have hz : folZ W a = 1 + prS (W.getD a.toNat 0) + prW (W.getD a.toNat 0) := rfl
      have l1 : (lk H L W a).1 = a := (folM_yes d).2.2.2.2
      have e2 : fdZ H L W a = folZ W a := if_pos d
      rw [l1, e2] at HF
      have HLe := Lib.hid (fun u (y : Below w.heap.size w u) => spleft_st (h.below y))
      simp only [c1, if_true] at HLe
      by_cases e : 16 + hSp W * (H : Int) + H - hFr W < folZ W a
      · have e3 : folE H L W a = 6 := by rw [folE, if_neg (by rw [c1]; decide), if_neg (by rw [c2]; decide), if_pos ⟨d, e⟩]
        have e4 : folV H L W a = 0 := by rw [folV, e3, if_neg (by decide)]
        have e5 : folW H L W a = W := by rw [folW, e3, if_neg (fun q => absurd q.1 (by decide))]
        rw [e3, e4, e5]
        have z0 : 1 ≤ folZ W a ∧ folZ W a ≤ 46 := by omega
        clear c c1 c2 d hn hn2 l1 e2 e3 e4 e5 hge hp hz f1 f2 f3 f4 h
        generalize folZ W a = z at *
        generalize 16 + hSp W * (H : Int) + H - hFr W = left at *
        go_enter Tryz.func135, Tryz.ntmps135
        go_wp2_with (go_at_call 159; refine HF.out.mono ?_; rintro e' w1 ⟨v1, rfl, he1, b1⟩; obtain rfl := he1.nil; have H1 := Lib.hid (FoK.start (H := H) (L := L) (s := s) (W := W) HH.out b1 (a) (z)); clear b1 he1; obtain ⟨⟨_, p0, p1⟩, _, _⟩ := H1.out)
        go_region_held3 (fun u => (u.cell? ⟨w1.heap.size, 0, none⟩ = some (.int .i64 a) ∧ u.cell? ⟨w1.heap.size, 1, none⟩ = some (.int .i64 (z))) ∧ FoK B G w w1 s H L W (a) (z) u) (first
            | assumption
            | exact H1.out.cells
            | exact (H1.out.below (Below.refl _ _).drew).cells
            | exact ((by assumption : _ ∧ FoK B G w w1 s H L W (a) (z) _).2.below b2).cells) (first
          | (go_at_call 23; refine (HLe.out _ (by first | exact H1.out.b | exact H1.out.b.drew)).mono ?_; rintro e' w2 ⟨rfl, b2⟩))
        rename_i hH
        replace H1 := Lib.hid hH.2
        clear hH p0 p1
        obtain ⟨⟨_, p0, p1⟩, _, _⟩ := H1.out
        go_wp2_with (first
          | (go_at_call 65; refine (new_err 6 a _).mono ?_; rintro e' w5 ⟨v5, rfl, b5, he5⟩; have H5 := Lib.hid (And.intro (H1.out.below b5) he5); clear b5 he5)
          | (go_at_call 64; refine (in_err 6 _ _ _ H5.out.2).mono ?_; rintro e' w6 ⟨v6, rfl, b6, he6⟩; have H6 := Lib.hid (And.intro (H5.out.1.below b6) he6); clear b6 he6))
        go_ret2
        exact ⟨_, rfl, H6.out.2, H6.out.1.s, H6.out.1.b.mono HH.out.le, HH.out.keptG H6.out.1.b⟩
      · have e3 : folE H L W a = 0 := by rw [folE, if_neg (by rw [c1]; decide), if_neg (by rw [c2]; decide), if_neg (fun q => e q.2)]
        have hWl : (W.length : Int) = 16 + 2 * (H : Int) := by have := h.len; omega
        obtain ⟨n', f', z', m⟩ := fol_mov hWl e3 d
        have HMv := Lib.hid (fun B G u (x : St B G u s H L W) => fmove_is x c1 m)
        have ea : a = (n' : Int) := m.ea
        have ez : folZ W a = (z' : Int) := m.sz.symm
        have ev : folV H L W a = (f' : Int) := m.ev
        have z0 : 1 ≤ (z' : Int) ∧ (z' : Int) ≤ 46 := by have := m.z1; have := m.z46; omega
        rw [e3, ev]
        rw [ez] at HF e
        rw [← ea] at HMv
        clear c c1 c2 d hn hn2 l1 e2 e3 hge hp hz f1 f2 f3 f4 h ev ez m hWl ea
        generalize folW H L W a = WF at *
        generalize (z' : Int) = z at *
        generalize 16 + hSp W * (H : Int) + H - hFr W = left at *
        go_enter Tryz.func135, Tryz.ntmps135
        go_wp2_with (go_at_call 159; refine HF.out.mono ?_; rintro e' w1 ⟨v1, rfl, he1, b1⟩; obtain rfl := he1.nil; have H1 := Lib.hid (FoK.start (H := H) (L := L) (s := s) (W := W) HH.out b1 (a) (z)); clear b1 he1; obtain ⟨⟨_, p0, p1⟩, _, _⟩ := H1.out)
        go_region_held3 (fun u => (u.cell? ⟨w1.heap.size, 0, none⟩ = some (.int .i64 a) ∧ u.cell? ⟨w1.heap.size, 1, none⟩ = some (.int .i64 (z))) ∧ FoK B G w w1 s H L W (a) (z) u) (first
            | assumption
            | exact H1.out.cells
            | exact (H1.out.below (Below.refl _ _).drew).cells
            | exact ((by assumption : _ ∧ FoK B G w w1 s H L W (a) (z) _).2.below b2).cells) (first
          | (go_at_call 23; refine (HLe.out _ (by first | exact H1.out.b | exact H1.out.b.drew)).mono ?_; rintro e' w2 ⟨rfl, b2⟩))
        rename_i hH
        replace H1 := Lib.hid hH.2
        clear hH p0 p1
        obtain ⟨⟨_, p0, p1⟩, _, _⟩ := H1.out
        go_wp2_with (go_at_call 160; refine (HMv.out _ _ _ H1.out.s).mono ?_; rintro e' w3 ⟨rfl, h3, b3, k3⟩; have H3 := Lib.hid (And.intro h3 (And.intro b3 k3)); clear h3 b3 k3)
        go_ret2
        exact ⟨_, rfl, errNil _, H3.out.1, (H1.out.b.mono HH.out.le).trans H3.out.2.1, (HH.out.keptG H1.out.b).trans H3.out.2.2⟩
    · have e3 : folE H L W a = 0 := by rw [folE, if_neg (by rw [c1]; decide), if_neg (by rw [c2]; decide), if_neg (fun q => d q.1)]
      have e4 : folV H L W a = (lk H L W a).1 := by rw [folV, if_pos e3, if_neg d]
      have e5 : folW H L W a = W := if_neg (fun q => d q.2)
      have e2 : fdZ H L W a = 0 := if_neg d
      rw [e3, e4, e5]
      rw [e2] at HF
      clear c c1 c2 d e2 e3 e4 e5 h
      generalize (lk H L W a).1 = pa at *
      go_enter Tryz.func135, Tryz.ntmps135
      go_wp2_with (go_at_call 159; refine HF.out.mono ?_; rintro e' w1 ⟨v1, rfl, he1, b1⟩; obtain rfl := he1.nil; have H1 := Lib.hid (FoK.start (H := H) (L := L) (s := s) (W := W) HH.out b1 (pa) (0)); clear b1 he1; obtain ⟨⟨_, p0, p1⟩, _, _⟩ := H1.out)
      go_ret2
      exact ⟨_, rfl, errNil _, H1.out.s, H1.out.b.mono HH.out.le, HH.out.keptG H1.out.b⟩
  · have e3 : folE H L W a = fdX H L W a := by
      cases q : hOk H L W
      · rw [folE, fdX, if_pos q, if_pos q]
      · cases r : (lk H L W a).2
        · have x1 : folE H L W a = 4 := by rw [folE, if_neg (by rw [q]; decide), if_pos r]
          have x2 : fdX H L W a = 4 := by rw [fdX, if_neg (by rw [q]; decide), if_pos r]
          rw [x1, x2]
        · rw [fdX, if_neg (by rw [q]; decide), if_neg (by rw [r]; decide)] at c
          exact absurd rfl c
    have e4 : folV H L W a = 0 := by rw [folV, e3, if_neg c]
    have e5 : folW H L W a = W := by rw [folW, e3, if_neg (fun q => c q.1)]
    rw [e3, e4, e5]
    clear e3 e4 e5 h
    generalize fdX H L W a = x at *
    generalize (lk H L W a).1 = pa at *
    generalize fdZ H L W a = pz at *
    go_enter Tryz.func135, Tryz.ntmps135
    go_wp2_with (first
      | (go_at_call 159; refine HF.out.mono ?_; rintro e' w1 ⟨v1, rfl, he1, b1⟩; obtain ⟨tv, vv, rfl⟩ := he1.iface c; have H1 := Lib.hid (And.intro (FoK.start (H := H) (L := L) (s := s) (W := W) HH.out b1 pa pz) (he1.below ((Below.refl _ _).alloc (Nat.le_refl _) (.cells #[.int .i64 pa, .int .i64 pz] 240)))); clear b1 he1)
      | (go_at_call 64; refine (in_err x _ _ _ H1.out.2).mono ?_; rintro e' w6 ⟨v6, rfl, b6, he6⟩; have H6 := Lib.hid (And.intro (H1.out.1.below b6) he6); clear b6 he6))
    go_ret2
    exact ⟨_, rfl, H6.out.2, H6.out.1.s, H6.out.1.b.mono HH.out.le, HH.out.keptG H6.out.1.b⟩
set_option maxRecDepth 100000 in
set_option maxHeartbeats 2000000 in
theorem fFollow_is (h : St B G w s H L W) (a : Int) : Calls Tryz.prog 111 #[.pointer (some ⟨s, 0, none⟩), .int .i64 a] w fun e w' => e = .returned (.tuple #[.int .i64 (folV H L W a), .int .i64 (folE H L W a)]) ∧ St B G w' s H L (folW H L W a) ∧ Below B w w' ∧ KeptG G w w' := by
  have HF := Lib.hid (ffollow_is h a)
  clear h
  generalize folW H L W a = WF at *
  generalize folE H L W a = x at *
  generalize folV H L W a = p at *
  go_enter Tryz.func111, Tryz.ntmps111
  go_wp2_with (first
    | (go_at_call 135; refine HF.out.mono ?_; rintro e' w1 ⟨v1, rfl, he1, h1, b1, k1⟩; have H1 := Lib.hid (And.intro h1 (And.intro b1 (And.intro k1 he1))); clear h1 b1 k1 he1)
    | (go_at_call 34; refine (errno_err x _ _ H1.out.2.2.2 H1.out.1.ty.1).mono ?_; rintro e' w2 ⟨rfl, b2⟩; have H2 := Lib.hid (And.intro (H1.out.1.below b2) (And.intro (H1.out.2.1.trans (b2.mono H1.out.1.le)) (H1.out.2.2.1.trans (H1.out.1.keptG b2)))); clear b2))
  go_ret2
  exact ⟨rfl, H2.out⟩
end
end Go.Proofs.YtbghglkplbnnkaaGreatDoor
