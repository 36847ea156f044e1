/- The book: lists of structs: one list more. -/
import Derived.Test.YtebeegfgghbdlaaBookWMarked
namespace Go.Proofs.Ytebeegfgghbdlaa.Bk
open Go.RowKit

theorem outInfoChanges : (Try.prog.info? 24).map (fun i => (i.zero, i.size, i.bytes)) = some (some (.slice none 0 0), 1, 24) := by kernel_rfl
theorem cells_oneChanges {l : List CL} : ∀ u ∈ l.map CL.cell, u.oneCell' = true := fun u hu => by
  obtain ⟨x, _, rfl⟩ := List.mem_map.1 hu
  rfl
/-- The lists of a kind that were kept, and their copies. -/
structure KeepChanges (w : World) (base p : Nat) (L M : List CL) : Prop where
  ex : ∃ vO vM, w.cell? ⟨p, 4, none⟩ = some vO ∧ w.cell? ⟨p, 5, none⟩ = some vM ∧ w.ownsRow base 24 1 vO L.length (L.map CL.cell) ∧ w.ownsRow base 24 1 vM M.length (M.map CL.cell) ∧ (∀ g, vO.ownBlock = some g → vM.ownBlock ≠ some g)
  each : ∀ x ∈ L, w.ownsRow base 56 2 x.cell x.l.length (flat Chg.cells x.l)
  copy : ∀ x ∈ M, w.ownsRow base 56 2 x.cell x.l.length (flat Chg.cells x.l)
  len : L.length = M.length
  same : ∀ (i : Nat) (x y : CL), L[i]? = some x → M[i]? = some y → x.l = y.l
  apart : L.Pairwise (fun x y => ∀ g, x.cell.ownBlock = some g → y.cell.ownBlock ≠ some g)
  small : ∀ x ∈ L, x.l.length ≤ 1000
/-- What steps on other kinds leave. -/
theorem KeepChanges.other {w w' : World} {base p : Nat} {L M : List CL} (h : KeepChanges w base p L M) (hb : BookB w p) {J : Nat → Prop} {T : TypeId} (t : Turn w w' p J (OfType w T)) (hJ : ¬ J 4 ∧ ¬ J 5) (h1 : 56 ≠ T) (h2 : 24 ≠ T) : KeepChanges w' base p L M := by
  obtain ⟨vO, vM, c0, c1, o0, o1, ha⟩ := h.ex
  exact ⟨⟨vO, vM, by rw [t.cell _ hJ.1]; exact c0, by rw [t.cell _ hJ.2]; exact c1, owns_typed o0 hb t h2 (by decide), owns_typed o1 hb t h2 (by decide), ha⟩,
    fun x hx => owns_typed (h.each x hx) hb t h1 (by decide), fun x hx => owns_typed (h.copy x hx) hb t h1 (by decide), h.len, h.same, h.apart, h.small⟩
theorem KeepChanges.below {w w' : World} {base p : Nat} {L M : List CL} (h : KeepChanges w base p L M) (hb : BookB w p) (b : Below w.heap.size w w') : KeepChanges w' base p L M := by
  obtain ⟨vO, vM, c0, c1, o0, o1, ha⟩ := h.ex
  have t : Turn w w' p (fun _ => False) (fun _ => False) := Turn.of_below b hb.lt
  exact ⟨⟨vO, vM, by rw [t.cell _ id]; exact c0, by rw [t.cell _ id]; exact c1, own_belowK o0 b, own_belowK o1 b, ha⟩,
    fun x hx => own_belowK (h.each x hx) b, fun x hx => own_belowK (h.copy x hx) b, h.len, h.same, h.apart, h.small⟩

set_option maxRecDepth 100000 in
set_option maxHeartbeats 2000000 in
theorem keepChanges_is (base p : Nat) (L M : List CL) (x : CL) (w : World) (hb : BookB w p) (hp : base ≤ p) (h : KeepChanges w base p L M) (hx : w.ownsRow base 56 2 x.cell x.l.length (flat Chg.cells x.l))
    (hap : ∀ y ∈ L, ∀ g, y.cell.ownBlock = some g → x.cell.ownBlock ≠ some g) (hs : x.l.length ≤ 1000) (hL : L.length ≤ 100) :
    Calls Try.prog 18 #[.pointer (some ⟨p, 0, none⟩), .slice x.a x.l.length x.c] w fun e w' => e = .returned (.tuple #[]) ∧ Below base w w' ∧ Turn w w' p (fun j => j = 4 ∨ j = 5) (OfType w 24) ∧ ∃ y : CL, KeepChanges w' base p (L ++ [x]) (M ++ [y]) := by
  obtain ⟨i0, hi, hz0, hz1, hz2⟩ := info_parts outInfoChanges
  have HI := Lib.hid (And.intro hi (And.intro hz0 (And.intro hz1 hz2)))
  clear hi hz0 hz1 hz2
  obtain ⟨vO, vM, c0, c1, o0, o1, hne⟩ := h.ex
  obtain ⟨ao, co, rfl⟩ := owns_slice o0
  obtain ⟨am, cm, rfl⟩ := owns_slice o1
  have hpl := hb.lt
  have f0 := hb.frozen 4
  have f1 := hb.frozen 5
  have hLi : (L.length : Int) < 250 := by omega
  have n0 : ∀ g, Value.ownBlock (.slice ao L.length co) = some g → g ≠ p := fun g hg => not_book hb o0 (by decide) hg
  have n1 : ∀ g, Value.ownBlock (.slice am M.length cm) = some g → g ≠ p := fun g hg => not_book hb o1 (by decide) hg
  have HK := Lib.hid (And.intro hb (And.intro h (And.intro hx (And.intro o0 (And.intro o1 (And.intro hne (And.intro n0 n1)))))))
  have hM100 : M.length ≤ 100 := by have := h.len; omega
  clear hb h hx o0 o1 hne n0 n1
  go_enter Try.func18, Try.ntmps18
  go_wp2_with (refine wpList_append_lies _ rfl (.tmp 14) (.tmp 16) 38 rfl base 24 i0 _ 1 24 Try.underlying38 HI.out.1 HI.out.2.1 HI.out.2.2.1 HI.out.2.2.2 rfl (by omega) (.slice ao L.length co) L.length (L.map CL.cell) rfl (HK.out.2.2.2.1.alloc _) _ 1 1 [x.cell] rfl rfl (by exact World.news_of_block (heap_alloc_last _ _)) (by intro u hu; simp at hu; rw [hu]; rfl) (by omega) (by unfold maxLen; omega) (by omega) (by simp; omega) _ rfl ?_
               intro g4 cap4 w4 hown4 hgr4 hat4 hlt4
               have b4 := (grown_block hgr4 (show p < _ by simp; omega) (fun e => (HK.out.2.2.2.2.2.2.1 p e) rfl)).trans (heap_alloc_old w _ hpl)
               have d4 : w4.cell? ⟨p, 4, none⟩ = some (.slice ao L.length co) := (World.cell?_of_block (a := ⟨p, 4, none⟩) b4).trans c0
               have g5 : w4.frozen? ⟨p, 4, none⟩ = false := (World.frozen?_of_block (a := ⟨p, 4, none⟩) b4).trans f0)
  have hpush := pushed (J := fun j => j = 4) HK.out.1 hp ((Below.refl w.heap.size w).alloc (Nat.le_refl _) _) HK.out.2.2.2.1 hown4 hgr4 hat4 (by decide) rfl d4
  clear hown4 hgr4 hat4 hlt4 b4 d4 g5 c0 f0
  generalize w4.setCell ⟨p, 4, none⟩ (.slice (some ⟨g4, 0, none⟩) (L.length + 1) cap4) = w5 at *
  obtain ⟨q1, q2, _, q4, q5, q6, q7⟩ := hpush
  have hb5 := q2.book HK.out.1
  have k5 : w5.ownsRow base 24 1 (.slice am M.length cm) M.length (M.map CL.cell) := owns_turn HK.out.2.2.2.2.1 q2 (fun g hg => ⟨HK.out.2.2.2.2.2.2.2 g hg, fun e => HK.out.2.2.2.2.2.1 g e hg⟩)
  have x5 : w5.ownsRow base 56 2 x.cell x.l.length (flat Chg.cells x.l) := owns_turn HK.out.2.2.1 q2 (fun g hg => ⟨not_book HK.out.1 HK.out.2.2.1 (by decide) hg, fun e => not_type HK.out.2.2.1 (show 56 ≠ 24 by decide) hg (by
    obtain ⟨cur, hh⟩ := own_type HK.out.2.2.2.1 e
    exact ⟨cur, _, hh⟩)⟩)
  have c5 : w5.cell? ⟨p, 5, none⟩ = some (.slice am M.length cm) := (q2.cell 5 (by decide)).trans c1
  have f5 := hb5.frozen 5
  have hp5 := hb5.lt
  have lx : LiesAt w5 x.a (flat Chg.cells x.l) := by
    obtain ⟨a', c', hv, hl, _⟩ := own_formK x5
    obtain ⟨rfl, rfl⟩ : x.a = a' ∧ x.c = c' := by simpa [CL.cell] using hv
    exact hl
  have HQ := Lib.hid (And.intro q1 (And.intro q2 (And.intro q4 (And.intro q5 (And.intro q6 (And.intro q7 (And.intro hb5 (And.intro k5 (And.intro x5 lx)))))))))
  clear q1 q2 q4 q5 q6 q7 hb5 k5 x5 lx c1 f1
  go_region_law (first
    | (refine step_append_lies _ rfl (.tmp 24) (.tmp 27) 38 rfl base 24 i0 _ 1 24 Try.underlying38 HI.out.1 HI.out.2.1 HI.out.2.2.1 HI.out.2.2.2 (by rfl) (by omega) (.slice am M.length cm) M.length (M.map CL.cell) rfl ((own_belowK HQ.out.2.2.2.2.2.2.2.1 H6.out.1).alloc _) _ 1 1 [.slice a6 x.l.length c6] rfl rfl (by exact World.news_of_block (heap_alloc_last _ _)) (by intro u hu; simp at hu; rw [hu]; rfl) (by omega) (by unfold maxLen; omega) (by omega) (by have := H6.out.1.size; have := HQ.out.1.size; have := HK.out.1.lt; simp; omega) _ rfl ?_
       intro g7 cap7 w7 hown7 hgr7 hat7 hlt7
       have b7 := (grown_block hgr7 (show p < _ by have := H6.out.1.size; simp; omega) (fun e => (HK.out.2.2.2.2.2.2.2 p e) rfl)).trans (heap_alloc_old w6 _ (show p < w6.heap.size by have := H6.out.1.size; omega))
       have d7 : w7.cell? ⟨p, 5, none⟩ = some (.slice am M.length cm) := (World.cell?_of_block (a := ⟨p, 5, none⟩) b7).trans d6
       have f7 : w7.frozen? ⟨p, 5, none⟩ = false := (World.frozen?_of_block (a := ⟨p, 5, none⟩) b7).trans f6)
    | (go_simp
       go_at_call 33
       refine (copyChanges_is x.a x.l x.c _ (HQ.out.2.2.2.2.2.2.2.2.2.below (Below.refl _ _).drew) (by omega)).mono ?_
       rintro e w6 ⟨v6, rfl, b6, o6⟩
       obtain ⟨a6, c6, rfl⟩ := owns_slice o6
       have b6' : Below w5.heap.size w5 w6 := (Below.refl w5.heap.size w5).drew.trans b6
       have d6 : w6.cell? ⟨p, 5, none⟩ = some (.slice am M.length cm) := (b6'.cell (p := ⟨p, 5, none⟩) hp5).trans c5
       have f6 : w6.frozen? ⟨p, 5, none⟩ = false := (b6'.frozen (p := ⟨p, 5, none⟩) hp5).trans f5
       have hp6 : p < w6.heap.size := Nat.lt_of_lt_of_le hp5 b6'.size
       have H6 := Lib.hid (And.intro b6' o6)
       clear b6 b6' o6))
  all_goals
    obtain ⟨q1, q2, q4, q5, q6, q7, hb5, k5, x5, lx⟩ := HQ.out
    obtain ⟨hb, hk, hx, o0, o1, hne, n0, n1⟩ := HK.out
    obtain ⟨r1, r2, r3, r4, r5, r6, r7⟩ := pushed (J := fun j => j = 5) hb5 hp (H6.out.1.alloc H6.out.1.size _) k5 hown7 hgr7 hat7 (by decide) rfl d7
    have tt := (q2.mono (J' := fun j => j = 4 ∨ j = 5) (R' := OfType w 24) (fun j e => Or.inl e) (fun g _ e => by
      obtain ⟨cur, hh⟩ := own_type o0 e
      exact ⟨cur, _, hh⟩)).trans (r2.mono (fun j e => Or.inr e) (fun g _ e => by
      obtain ⟨cur, hh⟩ := own_type o1 e
      exact ⟨cur, _, hh⟩))
    have hvM : ∀ g, Value.ownBlock (.slice am M.length cm) = some g → g < w.heap.size := fun g hg => (o1.lt g hg).2
    have h45 : ∀ g, Value.ownBlock (.slice am M.length cm) = some g → g4 ≠ g := fun g hg => by
      rcases q6 with e | e
      · rintro rfl
        exact hne _ e hg
      · have := hvM g hg
        omega
    have h47 : g4 ≠ g7 := by
      rcases r6 with e | e
      · exact h45 _ e
      · have := (q4.lt g4 rfl).2
        omega
    have bu : Below w6.heap.size w6 (w6.alloc (.cells #[.slice a6 x.l.length c6] 24)) := (Below.refl _ _).alloc (Nat.le_refl _) _
    have bb : base ≤ (w5.drew).heap.size := Nat.le_trans hp (Nat.le_of_lt hb5.lt)
    have y6 := owns_base bb (own_belowK H6.out.2 bu)
    have m6 := own_belowK (own_belowK k5 H6.out.1) bu
    have hb6 : BookB (w6.alloc (.cells #[.slice a6 x.l.length c6] 24)) p := book_of_block (bu.block p (Nat.lt_of_lt_of_le hb5.lt H6.out.1.size)) (book_of_block (H6.out.1.block p hb5.lt) hb5)
    have y7 := owns_turn y6 r3 (fun g hg => ⟨not_book hb6 y6 (by decide) hg, fun e => not_type y6 (show 56 ≠ 24 by decide) hg (by
      obtain ⟨cur, hh⟩ := own_type m6 e
      exact ⟨cur, _, hh⟩)⟩)
    have fin : KeepChanges _ base p (L ++ [x]) (M ++ [⟨a6, x.l, c6⟩]) := {
      ex := ⟨_, _, (r2.cell 4 (by decide)).trans q5, r5, by simpa using owns_turn q4 r2 (fun g hg => by
          obtain rfl : g4 = g := by simpa [Value.ownBlock] using hg
          exact ⟨q7, fun e => h45 _ e rfl⟩), by simpa [CL.cell] using r4, fun g hg e => by
          obtain rfl : g4 = g := by simpa [Value.ownBlock] using hg
          obtain rfl : g7 = g4 := by simpa [Value.ownBlock] using e
          exact h47 rfl⟩
      each := fun z hz => by
        rcases List.mem_append.1 hz with e | e
        · exact owns_typed (hk.each z e) hb tt (by decide) (by decide)
        · obtain rfl : z = x := by simpa using e
          exact owns_typed hx hb tt (by decide) (by decide)
      copy := fun z hz => by
        rcases List.mem_append.1 hz with e | e
        · exact owns_typed (hk.copy z e) hb tt (by decide) (by decide)
        · obtain rfl : z = ⟨a6, x.l, c6⟩ := by simpa using e
          exact y7
      len := by simp [hk.len]
      same := fun i z y hz hy => by
        rcases Nat.lt_or_ge i L.length with e | e
        · rw [List.getElem?_append_left e] at hz
          rw [List.getElem?_append_left (by rw [← hk.len]; exact e)] at hy
          exact hk.same i z y hz hy
        · rw [List.getElem?_append_right e] at hz
          rw [List.getElem?_append_right (by rw [← hk.len]; exact e), ← hk.len] at hy
          have : i - L.length = 0 := by have := (List.getElem?_eq_some_iff.1 hz).1; simp at this; omega
          rw [this] at hz hy
          obtain rfl : x = z := by simpa using hz
          obtain rfl : (⟨a6, x.l, c6⟩ : CL) = y := by simpa using hy
          rfl
      apart := List.pairwise_append.2 ⟨hk.apart, List.pairwise_singleton _ _, fun y hy z hz => by
        obtain rfl : z = x := by simpa using hz
        exact hap y hy⟩
      small := fun z hz => by
        rcases List.mem_append.1 hz with e | e
        · exact hk.small z e
        · obtain rfl : z = x := by simpa using e
          exact hs }
    exact bodyPost_end (results_none rfl _ _ _) rfl ⟨rfl, q1.trans r1, tt, _, fin⟩
theorem outInfoEntries : (Try.prog.info? 25).map (fun i => (i.zero, i.size, i.bytes)) = some (some (.slice none 0 0), 1, 24) := by kernel_rfl
theorem cells_oneEntries {l : List EL} : ∀ u ∈ l.map EL.cell, u.oneCell' = true := fun u hu => by
  obtain ⟨x, _, rfl⟩ := List.mem_map.1 hu
  rfl
/-- The lists of a kind that were kept, and their copies. -/
structure KeepEntries (w : World) (base p : Nat) (L M : List EL) : Prop where
  ex : ∃ vO vM, w.cell? ⟨p, 6, none⟩ = some vO ∧ w.cell? ⟨p, 7, none⟩ = some vM ∧ w.ownsRow base 25 1 vO L.length (L.map EL.cell) ∧ w.ownsRow base 25 1 vM M.length (M.map EL.cell) ∧ (∀ g, vO.ownBlock = some g → vM.ownBlock ≠ some g)
  each : ∀ x ∈ L, w.ownsRow base 23 5 x.cell x.l.length (flat Ent.cells x.l)
  copy : ∀ x ∈ M, w.ownsRow base 23 5 x.cell x.l.length (flat Ent.cells x.l)
  len : L.length = M.length
  same : ∀ (i : Nat) (x y : EL), L[i]? = some x → M[i]? = some y → x.l = y.l
  apart : L.Pairwise (fun x y => ∀ g, x.cell.ownBlock = some g → y.cell.ownBlock ≠ some g)
  small : ∀ x ∈ L, x.l.length ≤ 1000
/-- What steps on other kinds leave. -/
theorem KeepEntries.other {w w' : World} {base p : Nat} {L M : List EL} (h : KeepEntries w base p L M) (hb : BookB w p) {J : Nat → Prop} {T : TypeId} (t : Turn w w' p J (OfType w T)) (hJ : ¬ J 6 ∧ ¬ J 7) (h1 : 23 ≠ T) (h2 : 25 ≠ T) : KeepEntries w' base p L M := by
  obtain ⟨vO, vM, c0, c1, o0, o1, ha⟩ := h.ex
  exact ⟨⟨vO, vM, by rw [t.cell _ hJ.1]; exact c0, by rw [t.cell _ hJ.2]; exact c1, owns_typed o0 hb t h2 (by decide), owns_typed o1 hb t h2 (by decide), ha⟩,
    fun x hx => owns_typed (h.each x hx) hb t h1 (by decide), fun x hx => owns_typed (h.copy x hx) hb t h1 (by decide), h.len, h.same, h.apart, h.small⟩
theorem KeepEntries.below {w w' : World} {base p : Nat} {L M : List EL} (h : KeepEntries w base p L M) (hb : BookB w p) (b : Below w.heap.size w w') : KeepEntries w' base p L M := by
  obtain ⟨vO, vM, c0, c1, o0, o1, ha⟩ := h.ex
  have t : Turn w w' p (fun _ => False) (fun _ => False) := Turn.of_below b hb.lt
  exact ⟨⟨vO, vM, by rw [t.cell _ id]; exact c0, by rw [t.cell _ id]; exact c1, own_belowK o0 b, own_belowK o1 b, ha⟩,
    fun x hx => own_belowK (h.each x hx) b, fun x hx => own_belowK (h.copy x hx) b, h.len, h.same, h.apart, h.small⟩

set_option maxRecDepth 100000 in
set_option maxHeartbeats 2000000 in
theorem keepEntries_is (base p : Nat) (L M : List EL) (x : EL) (w : World) (hb : BookB w p) (hp : base ≤ p) (h : KeepEntries w base p L M) (hx : w.ownsRow base 23 5 x.cell x.l.length (flat Ent.cells x.l))
    (hap : ∀ y ∈ L, ∀ g, y.cell.ownBlock = some g → x.cell.ownBlock ≠ some g) (hs : x.l.length ≤ 1000) (hL : L.length ≤ 100) :
    Calls Try.prog 17 #[.pointer (some ⟨p, 0, none⟩), .slice x.a x.l.length x.c] w fun e w' => e = .returned (.tuple #[]) ∧ Below base w w' ∧ Turn w w' p (fun j => j = 6 ∨ j = 7) (OfType w 25) ∧ ∃ y : EL, KeepEntries w' base p (L ++ [x]) (M ++ [y]) := by
  obtain ⟨i0, hi, hz0, hz1, hz2⟩ := info_parts outInfoEntries
  have HI := Lib.hid (And.intro hi (And.intro hz0 (And.intro hz1 hz2)))
  clear hi hz0 hz1 hz2
  obtain ⟨vO, vM, c0, c1, o0, o1, hne⟩ := h.ex
  obtain ⟨ao, co, rfl⟩ := owns_slice o0
  obtain ⟨am, cm, rfl⟩ := owns_slice o1
  have hpl := hb.lt
  have f0 := hb.frozen 6
  have f1 := hb.frozen 7
  have hLi : (L.length : Int) < 250 := by omega
  have n0 : ∀ g, Value.ownBlock (.slice ao L.length co) = some g → g ≠ p := fun g hg => not_book hb o0 (by decide) hg
  have n1 : ∀ g, Value.ownBlock (.slice am M.length cm) = some g → g ≠ p := fun g hg => not_book hb o1 (by decide) hg
  have HK := Lib.hid (And.intro hb (And.intro h (And.intro hx (And.intro o0 (And.intro o1 (And.intro hne (And.intro n0 n1)))))))
  have hM100 : M.length ≤ 100 := by have := h.len; omega
  clear hb h hx o0 o1 hne n0 n1
  go_enter Try.func17, Try.ntmps17
  go_wp2_with (refine wpList_append_lies _ rfl (.tmp 14) (.tmp 16) 39 rfl base 25 i0 _ 1 24 Try.underlying39 HI.out.1 HI.out.2.1 HI.out.2.2.1 HI.out.2.2.2 rfl (by omega) (.slice ao L.length co) L.length (L.map EL.cell) rfl (HK.out.2.2.2.1.alloc _) _ 1 1 [x.cell] rfl rfl (by exact World.news_of_block (heap_alloc_last _ _)) (by intro u hu; simp at hu; rw [hu]; rfl) (by omega) (by unfold maxLen; omega) (by omega) (by simp; omega) _ rfl ?_
               intro g4 cap4 w4 hown4 hgr4 hat4 hlt4
               have b4 := (grown_block hgr4 (show p < _ by simp; omega) (fun e => (HK.out.2.2.2.2.2.2.1 p e) rfl)).trans (heap_alloc_old w _ hpl)
               have d4 : w4.cell? ⟨p, 6, none⟩ = some (.slice ao L.length co) := (World.cell?_of_block (a := ⟨p, 6, none⟩) b4).trans c0
               have g5 : w4.frozen? ⟨p, 6, none⟩ = false := (World.frozen?_of_block (a := ⟨p, 6, none⟩) b4).trans f0)
  have hpush := pushed (J := fun j => j = 6) HK.out.1 hp ((Below.refl w.heap.size w).alloc (Nat.le_refl _) _) HK.out.2.2.2.1 hown4 hgr4 hat4 (by decide) rfl d4
  clear hown4 hgr4 hat4 hlt4 b4 d4 g5 c0 f0
  generalize w4.setCell ⟨p, 6, none⟩ (.slice (some ⟨g4, 0, none⟩) (L.length + 1) cap4) = w5 at *
  obtain ⟨q1, q2, _, q4, q5, q6, q7⟩ := hpush
  have hb5 := q2.book HK.out.1
  have k5 : w5.ownsRow base 25 1 (.slice am M.length cm) M.length (M.map EL.cell) := owns_turn HK.out.2.2.2.2.1 q2 (fun g hg => ⟨HK.out.2.2.2.2.2.2.2 g hg, fun e => HK.out.2.2.2.2.2.1 g e hg⟩)
  have x5 : w5.ownsRow base 23 5 x.cell x.l.length (flat Ent.cells x.l) := owns_turn HK.out.2.2.1 q2 (fun g hg => ⟨not_book HK.out.1 HK.out.2.2.1 (by decide) hg, fun e => not_type HK.out.2.2.1 (show 23 ≠ 25 by decide) hg (by
    obtain ⟨cur, hh⟩ := own_type HK.out.2.2.2.1 e
    exact ⟨cur, _, hh⟩)⟩)
  have c5 : w5.cell? ⟨p, 7, none⟩ = some (.slice am M.length cm) := (q2.cell 7 (by decide)).trans c1
  have f5 := hb5.frozen 7
  have hp5 := hb5.lt
  have lx : LiesAt w5 x.a (flat Ent.cells x.l) := by
    obtain ⟨a', c', hv, hl, _⟩ := own_formK x5
    obtain ⟨rfl, rfl⟩ : x.a = a' ∧ x.c = c' := by simpa [EL.cell] using hv
    exact hl
  have HQ := Lib.hid (And.intro q1 (And.intro q2 (And.intro q4 (And.intro q5 (And.intro q6 (And.intro q7 (And.intro hb5 (And.intro k5 (And.intro x5 lx)))))))))
  clear q1 q2 q4 q5 q6 q7 hb5 k5 x5 lx c1 f1
  go_region_law (first
    | (refine step_append_lies _ rfl (.tmp 24) (.tmp 27) 39 rfl base 25 i0 _ 1 24 Try.underlying39 HI.out.1 HI.out.2.1 HI.out.2.2.1 HI.out.2.2.2 (by rfl) (by omega) (.slice am M.length cm) M.length (M.map EL.cell) rfl ((own_belowK HQ.out.2.2.2.2.2.2.2.1 H6.out.1).alloc _) _ 1 1 [.slice a6 x.l.length c6] rfl rfl (by exact World.news_of_block (heap_alloc_last _ _)) (by intro u hu; simp at hu; rw [hu]; rfl) (by omega) (by unfold maxLen; omega) (by omega) (by have := H6.out.1.size; have := HQ.out.1.size; have := HK.out.1.lt; simp; omega) _ rfl ?_
       intro g7 cap7 w7 hown7 hgr7 hat7 hlt7
       have b7 := (grown_block hgr7 (show p < _ by have := H6.out.1.size; simp; omega) (fun e => (HK.out.2.2.2.2.2.2.2 p e) rfl)).trans (heap_alloc_old w6 _ (show p < w6.heap.size by have := H6.out.1.size; omega))
       have d7 : w7.cell? ⟨p, 7, none⟩ = some (.slice am M.length cm) := (World.cell?_of_block (a := ⟨p, 7, none⟩) b7).trans d6
       have f7 : w7.frozen? ⟨p, 7, none⟩ = false := (World.frozen?_of_block (a := ⟨p, 7, none⟩) b7).trans f6)
    | (go_simp
       go_at_call 34
       refine (copyEntries_is x.a x.l x.c _ (HQ.out.2.2.2.2.2.2.2.2.2.below (Below.refl _ _).drew) (by omega)).mono ?_
       rintro e w6 ⟨v6, rfl, b6, o6⟩
       obtain ⟨a6, c6, rfl⟩ := owns_slice o6
       have b6' : Below w5.heap.size w5 w6 := (Below.refl w5.heap.size w5).drew.trans b6
       have d6 : w6.cell? ⟨p, 7, none⟩ = some (.slice am M.length cm) := (b6'.cell (p := ⟨p, 7, none⟩) hp5).trans c5
       have f6 : w6.frozen? ⟨p, 7, none⟩ = false := (b6'.frozen (p := ⟨p, 7, none⟩) hp5).trans f5
       have hp6 : p < w6.heap.size := Nat.lt_of_lt_of_le hp5 b6'.size
       have H6 := Lib.hid (And.intro b6' o6)
       clear b6 b6' o6))
  all_goals
    obtain ⟨q1, q2, q4, q5, q6, q7, hb5, k5, x5, lx⟩ := HQ.out
    obtain ⟨hb, hk, hx, o0, o1, hne, n0, n1⟩ := HK.out
    obtain ⟨r1, r2, r3, r4, r5, r6, r7⟩ := pushed (J := fun j => j = 7) hb5 hp (H6.out.1.alloc H6.out.1.size _) k5 hown7 hgr7 hat7 (by decide) rfl d7
    have tt := (q2.mono (J' := fun j => j = 6 ∨ j = 7) (R' := OfType w 25) (fun j e => Or.inl e) (fun g _ e => by
      obtain ⟨cur, hh⟩ := own_type o0 e
      exact ⟨cur, _, hh⟩)).trans (r2.mono (fun j e => Or.inr e) (fun g _ e => by
      obtain ⟨cur, hh⟩ := own_type o1 e
      exact ⟨cur, _, hh⟩))
    have hvM : ∀ g, Value.ownBlock (.slice am M.length cm) = some g → g < w.heap.size := fun g hg => (o1.lt g hg).2
    have h45 : ∀ g, Value.ownBlock (.slice am M.length cm) = some g → g4 ≠ g := fun g hg => by
      rcases q6 with e | e
      · rintro rfl
        exact hne _ e hg
      · have := hvM g hg
        omega
    have h47 : g4 ≠ g7 := by
      rcases r6 with e | e
      · exact h45 _ e
      · have := (q4.lt g4 rfl).2
        omega
    have bu : Below w6.heap.size w6 (w6.alloc (.cells #[.slice a6 x.l.length c6] 25)) := (Below.refl _ _).alloc (Nat.le_refl _) _
    have bb : base ≤ (w5.drew).heap.size := Nat.le_trans hp (Nat.le_of_lt hb5.lt)
    have y6 := owns_base bb (own_belowK H6.out.2 bu)
    have m6 := own_belowK (own_belowK k5 H6.out.1) bu
    have hb6 : BookB (w6.alloc (.cells #[.slice a6 x.l.length c6] 25)) p := book_of_block (bu.block p (Nat.lt_of_lt_of_le hb5.lt H6.out.1.size)) (book_of_block (H6.out.1.block p hb5.lt) hb5)
    have y7 := owns_turn y6 r3 (fun g hg => ⟨not_book hb6 y6 (by decide) hg, fun e => not_type y6 (show 23 ≠ 25 by decide) hg (by
      obtain ⟨cur, hh⟩ := own_type m6 e
      exact ⟨cur, _, hh⟩)⟩)
    have fin : KeepEntries _ base p (L ++ [x]) (M ++ [⟨a6, x.l, c6⟩]) := {
      ex := ⟨_, _, (r2.cell 6 (by decide)).trans q5, r5, by simpa using owns_turn q4 r2 (fun g hg => by
          obtain rfl : g4 = g := by simpa [Value.ownBlock] using hg
          exact ⟨q7, fun e => h45 _ e rfl⟩), by simpa [EL.cell] using r4, fun g hg e => by
          obtain rfl : g4 = g := by simpa [Value.ownBlock] using hg
          obtain rfl : g7 = g4 := by simpa [Value.ownBlock] using e
          exact h47 rfl⟩
      each := fun z hz => by
        rcases List.mem_append.1 hz with e | e
        · exact owns_typed (hk.each z e) hb tt (by decide) (by decide)
        · obtain rfl : z = x := by simpa using e
          exact owns_typed hx hb tt (by decide) (by decide)
      copy := fun z hz => by
        rcases List.mem_append.1 hz with e | e
        · exact owns_typed (hk.copy z e) hb tt (by decide) (by decide)
        · obtain rfl : z = ⟨a6, x.l, c6⟩ := by simpa using e
          exact y7
      len := by simp [hk.len]
      same := fun i z y hz hy => by
        rcases Nat.lt_or_ge i L.length with e | e
        · rw [List.getElem?_append_left e] at hz
          rw [List.getElem?_append_left (by rw [← hk.len]; exact e)] at hy
          exact hk.same i z y hz hy
        · rw [List.getElem?_append_right e] at hz
          rw [List.getElem?_append_right (by rw [← hk.len]; exact e), ← hk.len] at hy
          have : i - L.length = 0 := by have := (List.getElem?_eq_some_iff.1 hz).1; simp at this; omega
          rw [this] at hz hy
          obtain rfl : x = z := by simpa using hz
          obtain rfl : (⟨a6, x.l, c6⟩ : EL) = y := by simpa using hy
          rfl
      apart := List.pairwise_append.2 ⟨hk.apart, List.pairwise_singleton _ _, fun y hy z hz => by
        obtain rfl : z = x := by simpa using hz
        exact hap y hy⟩
      small := fun z hz => by
        rcases List.mem_append.1 hz with e | e
        · exact hk.small z e
        · obtain rfl : z = x := by simpa using e
          exact hs }
    exact bodyPost_end (results_none rfl _ _ _) rfl ⟨rfl, q1.trans r1, tt, _, fin⟩
end Go.Proofs.Ytebeegfgghbdlaa.Bk
