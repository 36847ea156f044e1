/- The book: one list more (Texts, Ints). -/
import Derived.Test.YtgmjphekfhiapaaBookKeep
namespace Go.Proofs.Ytgmjphekfhiapaa.Bk
open Go.RowKit

theorem grown_block {w w' : World} {row : Option Nat} (h : w.grownBy w' row) {g : Nat} (hg : g < w.heap.size) (hn : row ≠ some g) : w'.heap[g]? = w.heap[g]? := h.block g hg (fun e => hn e.symm)
theorem owns_slice {w : World} {base : Nat} {e : TypeId} {k : Nat} {v : Value} {n : Nat} {xs : List Value} (h : w.ownsRow base e k v n xs) : ∃ a c, v = .slice a n c := by
  rcases h.2 with ⟨q, q2⟩ | ⟨g, cap, cur, hv, _⟩
  · exact ⟨none, 0, by rw [q, q2]⟩
  · exact ⟨_, _, hv⟩

theorem owns_base {w : World} {b b' : Nat} {e : TypeId} {k : Nat} {v : Value} {m : Nat} {cs : List Value} (hb : b ≤ b') (h : w.ownsRow b' e k v m cs) : w.ownsRow b e k v m cs := by
  refine ⟨h.1, ?_⟩
  rcases h.2 with q | ⟨g, cap, cur, hv, hg, r⟩
  · exact .inl q
  · exact .inr ⟨g, cap, cur, hv, Nat.le_trans hb hg, r⟩
/-- One element more behind a row, and the row's new slice into the book's field. -/
theorem pushed {w u w4 : World} {base p j g cap n : Nat} {O : TypeId} {v c : Value} {xs : List Value} {J : Nat → Prop} (hb : BookB w p) (hp : base ≤ p) (hu : Below w.heap.size w u) (ho : w.ownsRow base O 1 v n xs)
    (hown : w4.ownsRow base O 1 (.slice (some ⟨g, 0, none⟩) (n + 1) cap) (n + 1) (xs ++ [c])) (hgr : u.grownBy w4 v.ownBlock) (hat : v.ownBlock = some g ∨ g = u.heap.size) (hO : O ≠ 33) (hJ : J j) {old : Value} (hd : w4.cell? ⟨p, j, none⟩ = some old) :
    Below base w (w4.setCell ⟨p, j, none⟩ (.slice (some ⟨g, 0, none⟩) (n + 1) cap)) ∧ Turn w (w4.setCell ⟨p, j, none⟩ (.slice (some ⟨g, 0, none⟩) (n + 1) cap)) p J (fun i => v.ownBlock = some i) ∧
    Turn u (w4.setCell ⟨p, j, none⟩ (.slice (some ⟨g, 0, none⟩) (n + 1) cap)) p J (fun i => v.ownBlock = some i) ∧
    (w4.setCell ⟨p, j, none⟩ (.slice (some ⟨g, 0, none⟩) (n + 1) cap)).ownsRow base O 1 (.slice (some ⟨g, 0, none⟩) (n + 1) cap) (n + 1) (xs ++ [c]) ∧
    (w4.setCell ⟨p, j, none⟩ (.slice (some ⟨g, 0, none⟩) (n + 1) cap)).cell? ⟨p, j, none⟩ = some (.slice (some ⟨g, 0, none⟩) (n + 1) cap) ∧ (v.ownBlock = some g ∨ w.heap.size ≤ g) ∧ g ≠ p := by
  have hpl := hb.lt
  have hpu : p < u.heap.size := Nat.lt_of_lt_of_le hpl hu.size
  have t2 : Turn u w4 p J (fun i => v.ownBlock = some i) := Turn.grown hgr hpu (fun i hi => ⟨not_book hb ho hO hi, hi⟩)
  have t3 : Turn w4 (w4.setCell ⟨p, j, none⟩ (.slice (some ⟨g, 0, none⟩) (n + 1) cap)) p J (fun i => v.ownBlock = some i) := Turn.set j _ hJ
  have t1 : Turn w u p J (fun i => v.ownBlock = some i) := Turn.of_below hu hpl
  have hb4 := t2.book (t1.book hb)
  have hgp : g ≠ p := not_book hb4 hown hO rfl
  refine ⟨((hu.mono (Nat.le_trans hp (Nat.le_of_lt hpl))).grown hgr (by have := hu.size; omega) (fun k hk => (ho.lt k hk).1)).setCell (p := ⟨p, j, none⟩) hp _, (t1.trans t2).trans t3, t2.trans t3, owns_other hown (fun e => hgp (by simpa [Value.ownBlock] using e)) _, by rw [World.cell?_setCell_same _ _ _ hd], ?_, hgp⟩
  rcases hat with q | q
  · exact .inl q
  · exact .inr (by rw [q]; exact hu.size)

theorem outInfoTexts : (Try.prog.info? 34).map (fun i => (i.zero, i.size, i.bytes)) = some (some (.slice none 0 0), 1, 24) := by kernel_rfl
theorem cells_oneTexts {l : List TL} : ∀ u ∈ l.map TL.cell, u.oneCell' = true := fun u hu => by
  obtain ⟨x, _, rfl⟩ := List.mem_map.1 hu
  rfl
/-- The lists of a kind that were kept, and their copies. -/
structure KeepTexts (w : World) (base p : Nat) (L M : List TL) : Prop where
  ex : ∃ vO vM, w.cell? ⟨p, 0, none⟩ = some vO ∧ w.cell? ⟨p, 1, none⟩ = some vM ∧ w.ownsRow base 34 1 vO L.length (L.map TL.cell) ∧ w.ownsRow base 34 1 vM M.length (M.map TL.cell) ∧ (∀ g, vO.ownBlock = some g → vM.ownBlock ≠ some g)
  each : ∀ x ∈ L, w.ownsRow base 9 1 x.cell x.l.length (txts x.l)
  copy : ∀ x ∈ M, w.ownsRow base 9 1 x.cell x.l.length (txts x.l)
  len : L.length = M.length
  same : ∀ (i : Nat) (x y : TL), L[i]? = some x → M[i]? = some y → x.l = y.l
  apart : L.Pairwise (fun x y => ∀ g, x.cell.ownBlock = some g → y.cell.ownBlock ≠ some g)
  small : ∀ x ∈ L, x.l.length ≤ 1000
/-- What steps on other kinds leave. -/
theorem KeepTexts.other {w w' : World} {base p : Nat} {L M : List TL} (h : KeepTexts w base p L M) (hb : BookB w p) {J : Nat → Prop} {T : TypeId} (t : Turn w w' p J (OfType w T)) (hJ : ¬ J 0 ∧ ¬ J 1) (h1 : 9 ≠ T) (h2 : 34 ≠ T) : KeepTexts w' base p L M := by
  obtain ⟨vO, vM, c0, c1, o0, o1, ha⟩ := h.ex
  exact ⟨⟨vO, vM, by rw [t.cell _ hJ.1]; exact c0, by rw [t.cell _ hJ.2]; exact c1, owns_typed o0 hb t h2 (by decide), owns_typed o1 hb t h2 (by decide), ha⟩,
    fun x hx => owns_typed (h.each x hx) hb t h1 (by decide), fun x hx => owns_typed (h.copy x hx) hb t h1 (by decide), h.len, h.same, h.apart, h.small⟩
theorem KeepTexts.below {w w' : World} {base p : Nat} {L M : List TL} (h : KeepTexts w base p L M) (hb : BookB w p) (b : Below w.heap.size w w') : KeepTexts w' base p L M := by
  obtain ⟨vO, vM, c0, c1, o0, o1, ha⟩ := h.ex
  have t : Turn w w' p (fun _ => False) (fun _ => False) := Turn.of_below b hb.lt
  exact ⟨⟨vO, vM, by rw [t.cell _ id]; exact c0, by rw [t.cell _ id]; exact c1, own_below o0 b, own_below o1 b, ha⟩,
    fun x hx => own_below (h.each x hx) b, fun x hx => own_below (h.copy x hx) b, h.len, h.same, h.apart, h.small⟩

set_option maxRecDepth 100000 in
set_option maxHeartbeats 2000000 in
theorem keepTexts_is (base p : Nat) (L M : List TL) (x : TL) (w : World) (hb : BookB w p) (hp : base ≤ p) (h : KeepTexts w base p L M) (hx : w.ownsRow base 9 1 x.cell x.l.length (txts x.l))
    (hap : ∀ y ∈ L, ∀ g, y.cell.ownBlock = some g → x.cell.ownBlock ≠ some g) (hs : x.l.length ≤ 1000) (hL : L.length ≤ 100) :
    Calls Try.prog 9 #[.pointer (some ⟨p, 0, none⟩), .slice x.a x.l.length x.c] w fun e w' => e = .returned (.tuple #[]) ∧ Below base w w' ∧ Turn w w' p (fun j => j = 0 ∨ j = 1) (OfType w 34) ∧ ∃ y : TL, KeepTexts w' base p (L ++ [x]) (M ++ [y]) := by
  obtain ⟨i0, hi, hz0, hz1, hz2⟩ := info_parts outInfoTexts
  have HI := Lib.hid (And.intro hi (And.intro hz0 (And.intro hz1 hz2)))
  clear hi hz0 hz1 hz2
  obtain ⟨vO, vM, c0, c1, o0, o1, hne⟩ := h.ex
  obtain ⟨ao, co, rfl⟩ := owns_slice o0
  obtain ⟨am, cm, rfl⟩ := owns_slice o1
  have hpl := hb.lt
  have f0 := hb.frozen 0
  have f1 := hb.frozen 1
  have hLi : (L.length : Int) < 250 := by omega
  have n0 : ∀ g, Value.ownBlock (.slice ao L.length co) = some g → g ≠ p := fun g hg => not_book hb o0 (by decide) hg
  have n1 : ∀ g, Value.ownBlock (.slice am M.length cm) = some g → g ≠ p := fun g hg => not_book hb o1 (by decide) hg
  have HK := Lib.hid (And.intro hb (And.intro h (And.intro hx (And.intro o0 (And.intro o1 (And.intro hne (And.intro n0 n1)))))))
  have hM100 : M.length ≤ 100 := by have := h.len; omega
  clear hb h hx o0 o1 hne n0 n1
  go_enter Try.func9, Try.ntmps9
  go_wp2_with (refine wpList_append_lies _ rfl (.tmp 14) (.tmp 16) 26 rfl base 34 i0 _ 1 24 Try.underlying26 HI.out.1 HI.out.2.1 HI.out.2.2.1 HI.out.2.2.2 rfl (by omega) (.slice ao L.length co) L.length (L.map TL.cell) rfl (HK.out.2.2.2.1.alloc _) _ 1 1 [x.cell] rfl rfl (by exact World.news_of_block (heap_alloc_last _ _)) (by intro u hu; simp at hu; rw [hu]; rfl) (by omega) (by unfold maxLen; omega) (by omega) (by simp; omega) _ rfl ?_
               intro g4 cap4 w4 hown4 hgr4 hat4 hlt4
               have b4 := (grown_block hgr4 (show p < _ by simp; omega) (fun e => (HK.out.2.2.2.2.2.2.1 p e) rfl)).trans (heap_alloc_old w _ hpl)
               have d4 : w4.cell? ⟨p, 0, none⟩ = some (.slice ao L.length co) := (World.cell?_of_block (a := ⟨p, 0, none⟩) b4).trans c0
               have g5 : w4.frozen? ⟨p, 0, none⟩ = false := (World.frozen?_of_block (a := ⟨p, 0, none⟩) b4).trans f0)
  have hpush := pushed (J := fun j => j = 0) HK.out.1 hp ((Below.refl w.heap.size w).alloc (Nat.le_refl _) _) HK.out.2.2.2.1 hown4 hgr4 hat4 (by decide) rfl d4
  clear hown4 hgr4 hat4 hlt4 b4 d4 g5 c0 f0
  generalize w4.setCell ⟨p, 0, none⟩ (.slice (some ⟨g4, 0, none⟩) (L.length + 1) cap4) = w5 at *
  obtain ⟨q1, q2, _, q4, q5, q6, q7⟩ := hpush
  have hb5 := q2.book HK.out.1
  have k5 : w5.ownsRow base 34 1 (.slice am M.length cm) M.length (M.map TL.cell) := owns_turn HK.out.2.2.2.2.1 q2 (fun g hg => ⟨HK.out.2.2.2.2.2.2.2 g hg, fun e => HK.out.2.2.2.2.2.1 g e hg⟩)
  have x5 : w5.ownsRow base 9 1 x.cell x.l.length (txts x.l) := owns_turn HK.out.2.2.1 q2 (fun g hg => ⟨not_book HK.out.1 HK.out.2.2.1 (by decide) hg, fun e => not_type HK.out.2.2.1 (show 9 ≠ 34 by decide) hg (by
    obtain ⟨cur, hh⟩ := own_type HK.out.2.2.2.1 e
    exact ⟨cur, _, hh⟩)⟩)
  have c5 : w5.cell? ⟨p, 1, none⟩ = some (.slice am M.length cm) := (q2.cell 1 (by decide)).trans c1
  have f5 := hb5.frozen 1
  have hp5 := hb5.lt
  have lx : LiesAt w5 x.a (txts x.l) := by
    obtain ⟨a', c', hv, hl, _⟩ := own_form x5
    obtain ⟨rfl, rfl⟩ : x.a = a' ∧ x.c = c' := by simpa [TL.cell] using hv
    exact hl
  have HQ := Lib.hid (And.intro q1 (And.intro q2 (And.intro q4 (And.intro q5 (And.intro q6 (And.intro q7 (And.intro hb5 (And.intro k5 (And.intro x5 lx)))))))))
  clear q1 q2 q4 q5 q6 q7 hb5 k5 x5 lx c1 f1
  go_region_law (first
    | (refine step_append_lies _ rfl (.tmp 24) (.tmp 27) 26 rfl base 34 i0 _ 1 24 Try.underlying26 HI.out.1 HI.out.2.1 HI.out.2.2.1 HI.out.2.2.2 (by rfl) (by omega) (.slice am M.length cm) M.length (M.map TL.cell) rfl ((own_below HQ.out.2.2.2.2.2.2.2.1 H6.out.1).alloc _) _ 1 1 [.slice a6 x.l.length c6] rfl rfl (by exact World.news_of_block (heap_alloc_last _ _)) (by intro u hu; simp at hu; rw [hu]; rfl) (by omega) (by unfold maxLen; omega) (by omega) (by have := H6.out.1.size; have := HQ.out.1.size; have := HK.out.1.lt; simp; omega) _ rfl ?_
       intro g7 cap7 w7 hown7 hgr7 hat7 hlt7
       have b7 := (grown_block hgr7 (show p < _ by have := H6.out.1.size; simp; omega) (fun e => (HK.out.2.2.2.2.2.2.2 p e) rfl)).trans (heap_alloc_old w6 _ (show p < w6.heap.size by have := H6.out.1.size; omega))
       have d7 : w7.cell? ⟨p, 1, none⟩ = some (.slice am M.length cm) := (World.cell?_of_block (a := ⟨p, 1, none⟩) b7).trans d6
       have f7 : w7.frozen? ⟨p, 1, none⟩ = false := (World.frozen?_of_block (a := ⟨p, 1, none⟩) b7).trans f6)
    | (go_simp
       go_at_call 28
       refine (copyTexts_is x.a x.l x.c _ (HQ.out.2.2.2.2.2.2.2.2.2.below (Below.refl _ _).drew) (by omega)).mono ?_
       rintro e w6 ⟨v6, rfl, b6, o6⟩
       obtain ⟨a6, c6, rfl⟩ := owns_slice o6
       have b6' : Below w5.heap.size w5 w6 := (Below.refl w5.heap.size w5).drew.trans b6
       have d6 : w6.cell? ⟨p, 1, none⟩ = some (.slice am M.length cm) := (b6'.cell (p := ⟨p, 1, none⟩) hp5).trans c5
       have f6 : w6.frozen? ⟨p, 1, none⟩ = false := (b6'.frozen (p := ⟨p, 1, none⟩) hp5).trans f5
       have hp6 : p < w6.heap.size := Nat.lt_of_lt_of_le hp5 b6'.size
       have H6 := Lib.hid (And.intro b6' o6)
       clear b6 b6' o6))
  all_goals
    obtain ⟨q1, q2, q4, q5, q6, q7, hb5, k5, x5, lx⟩ := HQ.out
    obtain ⟨hb, hk, hx, o0, o1, hne, n0, n1⟩ := HK.out
    obtain ⟨r1, r2, r3, r4, r5, r6, r7⟩ := pushed (J := fun j => j = 1) hb5 hp (H6.out.1.alloc H6.out.1.size _) k5 hown7 hgr7 hat7 (by decide) rfl d7
    have tt := (q2.mono (J' := fun j => j = 0 ∨ j = 1) (R' := OfType w 34) (fun j e => Or.inl e) (fun g _ e => by
      obtain ⟨cur, hh⟩ := own_type o0 e
      exact ⟨cur, _, hh⟩)).trans (r2.mono (fun j e => Or.inr e) (fun g _ e => by
      obtain ⟨cur, hh⟩ := own_type o1 e
      exact ⟨cur, _, hh⟩))
    have hvM : ∀ g, Value.ownBlock (.slice am M.length cm) = some g → g < w.heap.size := fun g hg => (o1.lt g hg).2
    have h45 : ∀ g, Value.ownBlock (.slice am M.length cm) = some g → g4 ≠ g := fun g hg => by
      rcases q6 with e | e
      · rintro rfl
        exact hne _ e hg
      · have := hvM g hg
        omega
    have h47 : g4 ≠ g7 := by
      rcases r6 with e | e
      · exact h45 _ e
      · have := (q4.lt g4 rfl).2
        omega
    have bu : Below w6.heap.size w6 (w6.alloc (.cells #[.slice a6 x.l.length c6] 34)) := (Below.refl _ _).alloc (Nat.le_refl _) _
    have bb : base ≤ (w5.drew).heap.size := Nat.le_trans hp (Nat.le_of_lt hb5.lt)
    have y6 := owns_base bb (own_below H6.out.2 bu)
    have m6 := own_below (own_below k5 H6.out.1) bu
    have hb6 : BookB (w6.alloc (.cells #[.slice a6 x.l.length c6] 34)) p := book_of_block (bu.block p (Nat.lt_of_lt_of_le hb5.lt H6.out.1.size)) (book_of_block (H6.out.1.block p hb5.lt) hb5)
    have y7 := owns_turn y6 r3 (fun g hg => ⟨not_book hb6 y6 (by decide) hg, fun e => not_type y6 (show 9 ≠ 34 by decide) hg (by
      obtain ⟨cur, hh⟩ := own_type m6 e
      exact ⟨cur, _, hh⟩)⟩)
    have fin : KeepTexts _ base p (L ++ [x]) (M ++ [⟨a6, x.l, c6⟩]) := {
      ex := ⟨_, _, (r2.cell 0 (by decide)).trans q5, r5, by simpa using owns_turn q4 r2 (fun g hg => by
          obtain rfl : g4 = g := by simpa [Value.ownBlock] using hg
          exact ⟨q7, fun e => h45 _ e rfl⟩), by simpa [TL.cell] using r4, fun g hg e => by
          obtain rfl : g4 = g := by simpa [Value.ownBlock] using hg
          obtain rfl : g7 = g4 := by simpa [Value.ownBlock] using e
          exact h47 rfl⟩
      each := fun z hz => by
        rcases List.mem_append.1 hz with e | e
        · exact owns_typed (hk.each z e) hb tt (by decide) (by decide)
        · obtain rfl : z = x := by simpa using e
          exact owns_typed hx hb tt (by decide) (by decide)
      copy := fun z hz => by
        rcases List.mem_append.1 hz with e | e
        · exact owns_typed (hk.copy z e) hb tt (by decide) (by decide)
        · obtain rfl : z = ⟨a6, x.l, c6⟩ := by simpa using e
          exact y7
      len := by simp [hk.len]
      same := fun i z y hz hy => by
        rcases Nat.lt_or_ge i L.length with e | e
        · rw [List.getElem?_append_left e] at hz
          rw [List.getElem?_append_left (by rw [← hk.len]; exact e)] at hy
          exact hk.same i z y hz hy
        · rw [List.getElem?_append_right e] at hz
          rw [List.getElem?_append_right (by rw [← hk.len]; exact e), ← hk.len] at hy
          have : i - L.length = 0 := by have := (List.getElem?_eq_some_iff.1 hz).1; simp at this; omega
          rw [this] at hz hy
          obtain rfl : x = z := by simpa using hz
          obtain rfl : (⟨a6, x.l, c6⟩ : TL) = y := by simpa using hy
          rfl
      apart := List.pairwise_append.2 ⟨hk.apart, List.pairwise_singleton _ _, fun y hy z hz => by
        obtain rfl : z = x := by simpa using hz
        exact hap y hy⟩
      small := fun z hz => by
        rcases List.mem_append.1 hz with e | e
        · exact hk.small z e
        · obtain rfl : z = x := by simpa using e
          exact hs }
    exact bodyPost_end (results_none rfl _ _ _) rfl ⟨rfl, q1.trans r1, tt, _, fin⟩
theorem outInfoInts : (Try.prog.info? 22).map (fun i => (i.zero, i.size, i.bytes)) = some (some (.slice none 0 0), 1, 24) := by kernel_rfl
theorem cells_oneInts {l : List IL} : ∀ u ∈ l.map IL.cell, u.oneCell' = true := fun u hu => by
  obtain ⟨x, _, rfl⟩ := List.mem_map.1 hu
  rfl
/-- The lists of a kind that were kept, and their copies. -/
structure KeepInts (w : World) (base p : Nat) (L M : List IL) : Prop where
  ex : ∃ vO vM, w.cell? ⟨p, 2, none⟩ = some vO ∧ w.cell? ⟨p, 3, none⟩ = some vM ∧ w.ownsRow base 22 1 vO L.length (L.map IL.cell) ∧ w.ownsRow base 22 1 vM M.length (M.map IL.cell) ∧ (∀ g, vO.ownBlock = some g → vM.ownBlock ≠ some g)
  each : ∀ x ∈ L, w.ownsRow base 3 1 x.cell x.l.length (vals x.l)
  copy : ∀ x ∈ M, w.ownsRow base 3 1 x.cell x.l.length (vals x.l)
  len : L.length = M.length
  same : ∀ (i : Nat) (x y : IL), L[i]? = some x → M[i]? = some y → x.l = y.l
  apart : L.Pairwise (fun x y => ∀ g, x.cell.ownBlock = some g → y.cell.ownBlock ≠ some g)
  small : ∀ x ∈ L, x.l.length ≤ 1000
/-- What steps on other kinds leave. -/
theorem KeepInts.other {w w' : World} {base p : Nat} {L M : List IL} (h : KeepInts w base p L M) (hb : BookB w p) {J : Nat → Prop} {T : TypeId} (t : Turn w w' p J (OfType w T)) (hJ : ¬ J 2 ∧ ¬ J 3) (h1 : 3 ≠ T) (h2 : 22 ≠ T) : KeepInts w' base p L M := by
  obtain ⟨vO, vM, c0, c1, o0, o1, ha⟩ := h.ex
  exact ⟨⟨vO, vM, by rw [t.cell _ hJ.1]; exact c0, by rw [t.cell _ hJ.2]; exact c1, owns_typed o0 hb t h2 (by decide), owns_typed o1 hb t h2 (by decide), ha⟩,
    fun x hx => owns_typed (h.each x hx) hb t h1 (by decide), fun x hx => owns_typed (h.copy x hx) hb t h1 (by decide), h.len, h.same, h.apart, h.small⟩
theorem KeepInts.below {w w' : World} {base p : Nat} {L M : List IL} (h : KeepInts w base p L M) (hb : BookB w p) (b : Below w.heap.size w w') : KeepInts w' base p L M := by
  obtain ⟨vO, vM, c0, c1, o0, o1, ha⟩ := h.ex
  have t : Turn w w' p (fun _ => False) (fun _ => False) := Turn.of_below b hb.lt
  exact ⟨⟨vO, vM, by rw [t.cell _ id]; exact c0, by rw [t.cell _ id]; exact c1, own_below o0 b, own_below o1 b, ha⟩,
    fun x hx => own_below (h.each x hx) b, fun x hx => own_below (h.copy x hx) b, h.len, h.same, h.apart, h.small⟩

set_option maxRecDepth 100000 in
set_option maxHeartbeats 2000000 in
theorem keepInts_is (base p : Nat) (L M : List IL) (x : IL) (w : World) (hb : BookB w p) (hp : base ≤ p) (h : KeepInts w base p L M) (hx : w.ownsRow base 3 1 x.cell x.l.length (vals x.l))
    (hap : ∀ y ∈ L, ∀ g, y.cell.ownBlock = some g → x.cell.ownBlock ≠ some g) (hs : x.l.length ≤ 1000) (hL : L.length ≤ 100) :
    Calls Try.prog 14 #[.pointer (some ⟨p, 0, none⟩), .slice x.a x.l.length x.c] w fun e w' => e = .returned (.tuple #[]) ∧ Below base w w' ∧ Turn w w' p (fun j => j = 2 ∨ j = 3) (OfType w 22) ∧ ∃ y : IL, KeepInts w' base p (L ++ [x]) (M ++ [y]) := by
  obtain ⟨i0, hi, hz0, hz1, hz2⟩ := info_parts outInfoInts
  have HI := Lib.hid (And.intro hi (And.intro hz0 (And.intro hz1 hz2)))
  clear hi hz0 hz1 hz2
  obtain ⟨vO, vM, c0, c1, o0, o1, hne⟩ := h.ex
  obtain ⟨ao, co, rfl⟩ := owns_slice o0
  obtain ⟨am, cm, rfl⟩ := owns_slice o1
  have hpl := hb.lt
  have f0 := hb.frozen 2
  have f1 := hb.frozen 3
  have hLi : (L.length : Int) < 250 := by omega
  have n0 : ∀ g, Value.ownBlock (.slice ao L.length co) = some g → g ≠ p := fun g hg => not_book hb o0 (by decide) hg
  have n1 : ∀ g, Value.ownBlock (.slice am M.length cm) = some g → g ≠ p := fun g hg => not_book hb o1 (by decide) hg
  have HK := Lib.hid (And.intro hb (And.intro h (And.intro hx (And.intro o0 (And.intro o1 (And.intro hne (And.intro n0 n1)))))))
  have hM100 : M.length ≤ 100 := by have := h.len; omega
  clear hb h hx o0 o1 hne n0 n1
  go_enter Try.func14, Try.ntmps14
  go_wp2_with (refine wpList_append_lies _ rfl (.tmp 14) (.tmp 16) 27 rfl base 22 i0 _ 1 24 Try.underlying27 HI.out.1 HI.out.2.1 HI.out.2.2.1 HI.out.2.2.2 rfl (by omega) (.slice ao L.length co) L.length (L.map IL.cell) rfl (HK.out.2.2.2.1.alloc _) _ 1 1 [x.cell] rfl rfl (by exact World.news_of_block (heap_alloc_last _ _)) (by intro u hu; simp at hu; rw [hu]; rfl) (by omega) (by unfold maxLen; omega) (by omega) (by simp; omega) _ rfl ?_
               intro g4 cap4 w4 hown4 hgr4 hat4 hlt4
               have b4 := (grown_block hgr4 (show p < _ by simp; omega) (fun e => (HK.out.2.2.2.2.2.2.1 p e) rfl)).trans (heap_alloc_old w _ hpl)
               have d4 : w4.cell? ⟨p, 2, none⟩ = some (.slice ao L.length co) := (World.cell?_of_block (a := ⟨p, 2, none⟩) b4).trans c0
               have g5 : w4.frozen? ⟨p, 2, none⟩ = false := (World.frozen?_of_block (a := ⟨p, 2, none⟩) b4).trans f0)
  have hpush := pushed (J := fun j => j = 2) HK.out.1 hp ((Below.refl w.heap.size w).alloc (Nat.le_refl _) _) HK.out.2.2.2.1 hown4 hgr4 hat4 (by decide) rfl d4
  clear hown4 hgr4 hat4 hlt4 b4 d4 g5 c0 f0
  generalize w4.setCell ⟨p, 2, none⟩ (.slice (some ⟨g4, 0, none⟩) (L.length + 1) cap4) = w5 at *
  obtain ⟨q1, q2, _, q4, q5, q6, q7⟩ := hpush
  have hb5 := q2.book HK.out.1
  have k5 : w5.ownsRow base 22 1 (.slice am M.length cm) M.length (M.map IL.cell) := owns_turn HK.out.2.2.2.2.1 q2 (fun g hg => ⟨HK.out.2.2.2.2.2.2.2 g hg, fun e => HK.out.2.2.2.2.2.1 g e hg⟩)
  have x5 : w5.ownsRow base 3 1 x.cell x.l.length (vals x.l) := owns_turn HK.out.2.2.1 q2 (fun g hg => ⟨not_book HK.out.1 HK.out.2.2.1 (by decide) hg, fun e => not_type HK.out.2.2.1 (show 3 ≠ 22 by decide) hg (by
    obtain ⟨cur, hh⟩ := own_type HK.out.2.2.2.1 e
    exact ⟨cur, _, hh⟩)⟩)
  have c5 : w5.cell? ⟨p, 3, none⟩ = some (.slice am M.length cm) := (q2.cell 3 (by decide)).trans c1
  have f5 := hb5.frozen 3
  have hp5 := hb5.lt
  have lx : LiesAt w5 x.a (vals x.l) := by
    obtain ⟨a', c', hv, hl, _⟩ := own_form x5
    obtain ⟨rfl, rfl⟩ : x.a = a' ∧ x.c = c' := by simpa [IL.cell] using hv
    exact hl
  have HQ := Lib.hid (And.intro q1 (And.intro q2 (And.intro q4 (And.intro q5 (And.intro q6 (And.intro q7 (And.intro hb5 (And.intro k5 (And.intro x5 lx)))))))))
  clear q1 q2 q4 q5 q6 q7 hb5 k5 x5 lx c1 f1
  go_region_law (first
    | (refine step_append_lies _ rfl (.tmp 24) (.tmp 27) 27 rfl base 22 i0 _ 1 24 Try.underlying27 HI.out.1 HI.out.2.1 HI.out.2.2.1 HI.out.2.2.2 (by rfl) (by omega) (.slice am M.length cm) M.length (M.map IL.cell) rfl ((own_below HQ.out.2.2.2.2.2.2.2.1 H6.out.1).alloc _) _ 1 1 [.slice a6 x.l.length c6] rfl rfl (by exact World.news_of_block (heap_alloc_last _ _)) (by intro u hu; simp at hu; rw [hu]; rfl) (by omega) (by unfold maxLen; omega) (by omega) (by have := H6.out.1.size; have := HQ.out.1.size; have := HK.out.1.lt; simp; omega) _ rfl ?_
       intro g7 cap7 w7 hown7 hgr7 hat7 hlt7
       have b7 := (grown_block hgr7 (show p < _ by have := H6.out.1.size; simp; omega) (fun e => (HK.out.2.2.2.2.2.2.2 p e) rfl)).trans (heap_alloc_old w6 _ (show p < w6.heap.size by have := H6.out.1.size; omega))
       have d7 : w7.cell? ⟨p, 3, none⟩ = some (.slice am M.length cm) := (World.cell?_of_block (a := ⟨p, 3, none⟩) b7).trans d6
       have f7 : w7.frozen? ⟨p, 3, none⟩ = false := (World.frozen?_of_block (a := ⟨p, 3, none⟩) b7).trans f6)
    | (go_simp
       go_at_call 19
       refine (copyInts_is x.a x.l x.c _ (HQ.out.2.2.2.2.2.2.2.2.2.below (Below.refl _ _).drew) (by omega)).mono ?_
       rintro e w6 ⟨v6, rfl, b6, o6⟩
       obtain ⟨a6, c6, rfl⟩ := owns_slice o6
       have b6' : Below w5.heap.size w5 w6 := (Below.refl w5.heap.size w5).drew.trans b6
       have d6 : w6.cell? ⟨p, 3, none⟩ = some (.slice am M.length cm) := (b6'.cell (p := ⟨p, 3, none⟩) hp5).trans c5
       have f6 : w6.frozen? ⟨p, 3, none⟩ = false := (b6'.frozen (p := ⟨p, 3, none⟩) hp5).trans f5
       have hp6 : p < w6.heap.size := Nat.lt_of_lt_of_le hp5 b6'.size
       have H6 := Lib.hid (And.intro b6' o6)
       clear b6 b6' o6))
  all_goals
    obtain ⟨q1, q2, q4, q5, q6, q7, hb5, k5, x5, lx⟩ := HQ.out
    obtain ⟨hb, hk, hx, o0, o1, hne, n0, n1⟩ := HK.out
    obtain ⟨r1, r2, r3, r4, r5, r6, r7⟩ := pushed (J := fun j => j = 3) hb5 hp (H6.out.1.alloc H6.out.1.size _) k5 hown7 hgr7 hat7 (by decide) rfl d7
    have tt := (q2.mono (J' := fun j => j = 2 ∨ j = 3) (R' := OfType w 22) (fun j e => Or.inl e) (fun g _ e => by
      obtain ⟨cur, hh⟩ := own_type o0 e
      exact ⟨cur, _, hh⟩)).trans (r2.mono (fun j e => Or.inr e) (fun g _ e => by
      obtain ⟨cur, hh⟩ := own_type o1 e
      exact ⟨cur, _, hh⟩))
    have hvM : ∀ g, Value.ownBlock (.slice am M.length cm) = some g → g < w.heap.size := fun g hg => (o1.lt g hg).2
    have h45 : ∀ g, Value.ownBlock (.slice am M.length cm) = some g → g4 ≠ g := fun g hg => by
      rcases q6 with e | e
      · rintro rfl
        exact hne _ e hg
      · have := hvM g hg
        omega
    have h47 : g4 ≠ g7 := by
      rcases r6 with e | e
      · exact h45 _ e
      · have := (q4.lt g4 rfl).2
        omega
    have bu : Below w6.heap.size w6 (w6.alloc (.cells #[.slice a6 x.l.length c6] 22)) := (Below.refl _ _).alloc (Nat.le_refl _) _
    have bb : base ≤ (w5.drew).heap.size := Nat.le_trans hp (Nat.le_of_lt hb5.lt)
    have y6 := owns_base bb (own_below H6.out.2 bu)
    have m6 := own_below (own_below k5 H6.out.1) bu
    have hb6 : BookB (w6.alloc (.cells #[.slice a6 x.l.length c6] 22)) p := book_of_block (bu.block p (Nat.lt_of_lt_of_le hb5.lt H6.out.1.size)) (book_of_block (H6.out.1.block p hb5.lt) hb5)
    have y7 := owns_turn y6 r3 (fun g hg => ⟨not_book hb6 y6 (by decide) hg, fun e => not_type y6 (show 3 ≠ 22 by decide) hg (by
      obtain ⟨cur, hh⟩ := own_type m6 e
      exact ⟨cur, _, hh⟩)⟩)
    have fin : KeepInts _ base p (L ++ [x]) (M ++ [⟨a6, x.l, c6⟩]) := {
      ex := ⟨_, _, (r2.cell 2 (by decide)).trans q5, r5, by simpa using owns_turn q4 r2 (fun g hg => by
          obtain rfl : g4 = g := by simpa [Value.ownBlock] using hg
          exact ⟨q7, fun e => h45 _ e rfl⟩), by simpa [IL.cell] using r4, fun g hg e => by
          obtain rfl : g4 = g := by simpa [Value.ownBlock] using hg
          obtain rfl : g7 = g4 := by simpa [Value.ownBlock] using e
          exact h47 rfl⟩
      each := fun z hz => by
        rcases List.mem_append.1 hz with e | e
        · exact owns_typed (hk.each z e) hb tt (by decide) (by decide)
        · obtain rfl : z = x := by simpa using e
          exact owns_typed hx hb tt (by decide) (by decide)
      copy := fun z hz => by
        rcases List.mem_append.1 hz with e | e
        · exact owns_typed (hk.copy z e) hb tt (by decide) (by decide)
        · obtain rfl : z = ⟨a6, x.l, c6⟩ := by simpa using e
          exact y7
      len := by simp [hk.len]
      same := fun i z y hz hy => by
        rcases Nat.lt_or_ge i L.length with e | e
        · rw [List.getElem?_append_left e] at hz
          rw [List.getElem?_append_left (by rw [← hk.len]; exact e)] at hy
          exact hk.same i z y hz hy
        · rw [List.getElem?_append_right e] at hz
          rw [List.getElem?_append_right (by rw [← hk.len]; exact e), ← hk.len] at hy
          have : i - L.length = 0 := by have := (List.getElem?_eq_some_iff.1 hz).1; simp at this; omega
          rw [this] at hz hy
          obtain rfl : x = z := by simpa using hz
          obtain rfl : (⟨a6, x.l, c6⟩ : IL) = y := by simpa using hy
          rfl
      apart := List.pairwise_append.2 ⟨hk.apart, List.pairwise_singleton _ _, fun y hy z hz => by
        obtain rfl : z = x := by simpa using hz
        exact hap y hy⟩
      small := fun z hz => by
        rcases List.mem_append.1 hz with e | e
        · exact hk.small z e
        · obtain rfl : z = x := by simpa using e
          exact hs }
    exact bodyPost_end (results_none rfl _ _ _) rfl ⟨rfl, q1.trans r1, tt, _, fin⟩
end Go.Proofs.Ytgmjphekfhiapaa.Bk
