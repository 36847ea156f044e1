/- The book: lists of structs: growing. -/
import Derived.Test.YtebeegfgghbdlaaBookWPut
namespace Go.Proofs.Ytebeegfgghbdlaa.Bk
open Go.RowKit

structure GrowChanges (w wr : World) (base p : Nat) (L : List CL) (C : Nat → List Chg) (N : Nat) (Lo : List CL) (vo : Value) : Prop where
  below : Below base w wr
  turn : Turn w wr p (fun _ => False) (OfType w 56)
  book : BookB wr p
  held : HeldChanges wr base p L C
  out : wr.ownsRow w.heap.size 24 1 vo Lo.length (Lo.map CL.cell)
  lo : ∀ (i : Nat) (y : CL), Lo[i]? = some y → wr.ownsRow base 56 2 y.cell y.l.length (flat Chg.cells y.l) ∧ y.l = marksChanges (i : Int) 0 y.l.length ∧ y.l.length ≤ 2000 ∧ (∀ g, y.cell.ownBlock = some g → g < N ∧ ∀ (j : Nat) (x : CL), i ≠ j → L[j]? = some x → x.cell.ownBlock ≠ some g)
  N : w.heap.size ≤ N ∧ N ≤ wr.heap.size
theorem GrowChanges.next {w wr w' : World} {base p N : Nat} {L Lo : List CL} {C : Nat → List Chg} {vo : Value} (h : GrowChanges w wr base p L C N Lo vo) (hp : base ≤ p) (b : Below wr.heap.size wr w') : GrowChanges w w' base p L C N Lo vo :=
  ⟨h.below.trans (b.mono (Nat.le_trans hp (Nat.le_of_lt h.book.lt))), h.turn.trans (Turn.of_below b h.book.lt), book_of_block (b.block p h.book.lt) h.book, h.held.below h.book b, own_belowK h.out b,
    fun i y hy => ⟨own_belowK (h.lo i y hy).1 b, (h.lo i y hy).2⟩, ⟨h.N.1, Nat.le_trans h.N.2 b.size⟩⟩
/-- A row of elements has grown where it was. -/
theorem GrowChanges.grown {w wr w' : World} {base p N g : Nat} {L Lo : List CL} {C : Nat → List Chg} {vo : Value} (h : GrowChanges w wr base p L C N Lo vo) (hp : base ≤ p) (hg : wr.grownBy w' (some g)) (c1 : g ≠ p) (c2 : OfType w 56 g ∨ w.heap.size ≤ g) (c3 : base ≤ g)
    (c4 : ∀ (i : Nat) (x : CL), L[i]? = some x → w'.ownsRow base 56 2 x.cell x.l.length (flat Chg.cells (C i))) (c5 : OfType wr 56 g) (c6 : ∀ (i : Nat) (y : CL), Lo[i]? = some y → y.cell.ownBlock ≠ some g) : GrowChanges w w' base p L C N Lo vo := by
  have hpl := h.book.lt
  have t := h.turn.more hg hpl (fun g' e => by
    obtain rfl : g = g' := by simpa using e
    exact ⟨c1, c2⟩)
  obtain ⟨ao, co, e0, o0⟩ := h.held.ex
  have nO : ∀ {b v m cs}, wr.ownsRow b 24 1 v m cs → ∀ g', v.ownBlock = some g' → some g ≠ some g' := fun ho g' e q => by
    obtain rfl : g = g' := by simpa using q
    exact not_type ho (show 24 ≠ 56 by decide) e c5
  have hbp : w'.heap[p]? = wr.heap[p]? := grown_block hg hpl (fun e => c1 (by simpa using e))
  refine ⟨h.below.grown hg (Nat.le_trans hp (Nat.le_of_lt hpl)) (fun k hk => by
      obtain rfl : g = k := by simpa using hk
      exact c3), t, book_of_block hbp h.book, ⟨⟨ao, co, (World.cell?_of_block (w := wr) (a := ⟨p, 4, none⟩) hbp).trans e0, owns_grown o0 hg (nO o0)⟩, c4, h.held.apart, h.held.small⟩, owns_grown h.out hg (nO h.out), fun i y hy => ⟨owns_grown (h.lo i y hy).1 hg (fun g' e q => ?_), (h.lo i y hy).2⟩, ⟨h.N.1, Nat.le_trans h.N.2 hg.size⟩⟩
  obtain rfl : g = g' := by simpa using q
  exact c6 i y hy e
/-- One append onto a list's row. -/
theorem GrowChanges.step {w wr w' : World} {base p N g cap k q m cl : Nat} {al : Option Addr} {L Lo : List CL} {C C0 : Nat → List Chg} {vo : Value} {x : CL} {xs ys : List Chg} (h : GrowChanges w wr base p L C N Lo vo) (hp : base ≤ p) (hw : HeldChanges w base p L C0)
    (hx : L[k]? = some x) (hk : k = Lo.length) (hv : wr.ownsRow base 56 2 (.slice al q cl) q (flat Chg.cells xs)) (hq : x.l.length ≤ q) (hblk : (al = x.a ∧ cl = x.c) ∨ ∀ g', Value.ownBlock (.slice al q cl) = some g' → N ≤ g')
    (hgr : GrewK wr w' (.slice al q cl) q g cap) (hown : w'.ownsRow base 56 2 (.slice (some ⟨g, 0, none⟩) (q + m) cap) (q + m) (flat Chg.cells ys)) (hys : ys.take x.l.length = C k) :
    GrowChanges w w' base p L C N Lo vo ∧ ((some ⟨g, 0, none⟩ = x.a ∧ cap = x.c) ∨ ∀ g', Value.ownBlock (.slice (some ⟨g, 0, none⟩) (q + m) cap) = some g' → N ≤ g') := by
  rcases hgr with ⟨e, hg⟩ | ⟨e, hg⟩
  · obtain ⟨rfl, rfl⟩ : al = some ⟨g, 0, none⟩ ∧ cl = cap := by simpa using e
    have c5 : OfType wr 56 g := by
      obtain ⟨cur, hh⟩ := own_type hv rfl
      exact ⟨cur, _, hh⟩
    have c1 : g ≠ p := not_book h.book hv (by decide) rfl
    have c3 : base ≤ g := (hv.lt g rfl).1
    rcases hblk with ⟨b1, b2⟩ | hN
    · have hxg : x.cell.ownBlock = some g := by rw [CL.cell, ← b1]; rfl
      have c2 : OfType w 56 g := by
        obtain ⟨cur, hh⟩ := own_type (hw.each k x hx) hxg
        exact ⟨cur, _, hh⟩
      refine ⟨h.grown hp hg c1 (.inl c2) c3 (fun i y hy => ?_) c5 (fun i y hy => ?_), .inl ⟨b1, b2⟩⟩
      · by_cases hi : i = k
        · subst hi
          obtain rfl : x = y := by rw [hx] at hy; simpa using hy
          rw [CL.cell, ← b1, ← b2]
          exact owns_headK hown (by omega) (by rw [flat_take Chg.len, hys])
        · exact owns_grown (h.held.each i y hy) hg (fun g' e q => by
            obtain rfl : g = g' := by simpa using q
            exact h.held.apart i k y x hi hy hx g e hxg)
      · intro e
        have hne : i ≠ k := by have := (List.getElem?_eq_some_iff.1 hy).1; omega
        exact ((h.lo i y hy).2.2.2 g e).2 k x hne hx hxg
    · have hNg := hN g rfl
      have hN0 := h.N.1
      refine ⟨h.grown hp hg c1 (.inr (by omega)) c3 (fun i y hy => ?_) c5 (fun i y hy e => ?_), .inr hN⟩
      · exact owns_grown (h.held.each i y hy) hg (fun g' e q => by
          obtain rfl : g = g' := by simpa using q
          have := ((hw.each i y hy).lt g e).2
          omega)
      · have := ((h.lo i y hy).2.2.2 g e).1
        omega
  · refine ⟨h.next hp (below_none hg), .inr (fun g' e' => ?_)⟩
    obtain rfl : g = g' := by simpa [Value.ownBlock] using e'
    exact Nat.le_trans h.N.2 e
/-- One list more stands in what is told. -/
theorem GrowChanges.push {w wr w' : World} {base p N g cap : Nat} {L Lo : List CL} {C C0 : Nat → List Chg} {vo : Value} {x y : CL} (h : GrowChanges w wr base p L C N Lo vo) (hp : base ≤ p) (hw : HeldChanges w base p L C0) (hwb : BookB w p) (hx : L[Lo.length]? = some x)
    (hy : wr.ownsRow base 56 2 y.cell y.l.length (flat Chg.cells y.l)) (hm : ∀ i, i = Lo.length → y.l = marksChanges (i : Int) 0 y.l.length) (hs : y.l.length ≤ 2000) (hblk : (y.a = x.a ∧ y.c = x.c) ∨ ∀ g', y.cell.ownBlock = some g' → N ≤ g')
    (hgr : GrewK wr w' vo Lo.length g cap) (hown : w'.ownsRow w.heap.size 24 1 (.slice (some ⟨g, 0, none⟩) (Lo.length + 1) cap) (Lo.length + 1) (Lo.map CL.cell ++ [y.cell])) :
    GrowChanges w w' base p L C w'.heap.size (Lo ++ [y]) (.slice (some ⟨g, 0, none⟩) (Lo.length + 1) cap) := by
  have hpl := h.book.lt
  have hsz : wr.heap.size ≤ w'.heap.size := by
    rcases hgr with ⟨_, q⟩ | ⟨_, q⟩ <;> exact q.size
  have hbw : base ≤ w.heap.size := Nat.le_trans hp (Nat.le_of_lt hwb.lt)
  have hrow : ∃ row, wr.grownBy w' row ∧ ∀ g', row = some g' → w.heap.size ≤ g' ∧ OfType wr 24 g' := by
    rcases hgr with ⟨e, q⟩ | ⟨_, q⟩
    · refine ⟨_, q, fun g' e' => ?_⟩
      obtain rfl : g = g' := by simpa using e'
      have hg : vo.ownBlock = some g := by rw [e]; rfl
      obtain ⟨cur, hh⟩ := own_type h.out hg
      exact ⟨(h.out.lt g hg).1, cur, _, hh⟩
    · exact ⟨_, q, fun g' e' => by cases e'⟩
  obtain ⟨row, hg, hr⟩ := hrow
  have nE : ∀ {v m cs}, wr.ownsRow base 56 2 v m cs → ∀ g', v.ownBlock = some g' → row ≠ some g' := fun ho g' e q => not_type ho (show 56 ≠ 24 by decide) e (hr g' q).2
  have hrp : ∀ g', row = some g' → g' ≠ p := fun g' e q => by
    have := (hr g' e).1
    have := hwb.lt
    omega
  have t := h.turn.more hg hpl (fun g' e => ⟨hrp g' e, .inr (hr g' e).1⟩)
  obtain ⟨ao, co, e0, o0⟩ := h.held.ex
  obtain ⟨ao', co', e0', o0'⟩ := hw.ex
  have hbp : w'.heap[p]? = wr.heap[p]? := grown_block hg hpl (fun e => hrp p e rfl)
  have hsame : Value.slice ao L.length co = .slice ao' L.length co' := by
    have := (h.turn.cell 4 id)
    rw [e0, e0'] at this
    simpa using this
  refine ⟨h.below.grown hg (Nat.le_trans hbw h.turn.size) (fun k hk => Nat.le_trans hbw (hr k hk).1), t, book_of_block hbp h.book, ⟨⟨ao, co, (World.cell?_of_block (w := wr) (a := ⟨p, 4, none⟩) hbp).trans e0, owns_grown o0 hg (fun g' e q => ?_)⟩, fun i z hz => owns_grown (h.held.each i z hz) hg (nE (h.held.each i z hz)), h.held.apart, h.held.small⟩, ?_, fun i z hz => ?_, ⟨Nat.le_trans h.turn.size hsz, Nat.le_refl _⟩⟩
  · rw [hsame] at e
    have := (o0'.lt g' e).2
    have := (hr g' q).1
    omega
  · simpa using hown
  · rcases Nat.lt_or_ge i Lo.length with e | e
    · rw [List.getElem?_append_left e] at hz
      obtain ⟨z1, z2, z3, z4⟩ := h.lo i z hz
      exact ⟨owns_grown z1 hg (nE z1), z2, z3, fun g' hg' => ⟨Nat.lt_of_lt_of_le (z1.lt g' hg').2 hsz, (z4 g' hg').2⟩⟩
    · rw [List.getElem?_append_right e] at hz
      have hi : i = Lo.length := by have := (List.getElem?_eq_some_iff.1 hz).1; simp at this; omega
      subst hi
      obtain rfl : y = z := by simpa using hz
      refine ⟨owns_grown hy hg (nE hy), hm _ rfl, hs, fun g' hg' => ⟨Nat.lt_of_lt_of_le (hy.lt g' hg').2 hsz, fun j u hj hu hug => ?_⟩⟩
      rcases hblk with ⟨b1, b2⟩ | hN
      · have hxg : x.cell.ownBlock = some g' := by
          rw [CL.cell, ← b1]
          rw [CL.cell] at hg'
          cases hya : y.a with
          | none => rw [hya] at hg'; cases hg'
          | some b => rw [hya] at hg'; exact hg'
        exact hw.apart Lo.length j x u hj hx hu g' hxg hug
      · have h1 := hN g' hg'
        have h2 := ((hw.each j u hu).lt g' hug).2
        have h3 := h.N.1
        omega

theorem grow_startChanges {w : World} {base p : Nat} {L : List CL} {C : Nat → List Chg} (hb : BookB w p) (h : HeldChanges w base p L C) : GrowChanges w w base p L C w.heap.size [] (.slice none 0 0) :=
  ⟨Below.refl _ _, Turn.refl _ _ _ _, hb, h, World.ownsRow_nil _ _ _ _, fun i y hy => by simp at hy, ⟨Nat.le_refl _, Nat.le_refl _⟩⟩

set_option maxRecDepth 100000 in
set_option maxHeartbeats 4000000 in
theorem growChanges_is (base p : Nat) (L : List CL) (C : Nat → List Chg) (w : World) (hb : BookB w p) (hp : base ≤ p) (h : HeldChanges w base p L C) (hC : ∀ (k : Nat) (x : CL), L[k]? = some x → C k = marksChanges (k : Int) 0 x.l.length) (hL : L.length ≤ 100) :
    Calls Try.prog 50 #[.pointer (some ⟨p, 0, none⟩)] w fun e w' => ∃ N Lo vo, e = .returned vo ∧ Lo.length = L.length ∧ GrowChanges w w' base p L C N Lo vo := by
  obtain ⟨i0, hi, hz0, hz1, hz2⟩ := info_parts outInfoChanges
  have HI := Lib.hid (And.intro hi (And.intro hz0 (And.intro hz1 hz2)))
  clear hi hz0 hz1 hz2
  obtain ⟨i1, hi, hz0, hz1, hz2⟩ := info_parts chgInfo
  have HJ := Lib.hid (And.intro hi (And.intro hz0 (And.intro hz1 hz2)))
  clear hi hz0 hz1 hz2
  have HS := Lib.hid (grow_startChanges hb h)
  have HB := Lib.hid (And.intro hb (And.intro h hC))
  have hLi : (L.length : Int) ≤ 100 := by omega
  clear h hb hC
  go_enter Try.func50, Try.ntmps50
  go_wp2
  go_loopw [3, 4] (fun ov i wr => ∃ (k N : Nat) (Lo : List CL), k ≤ L.length ∧ i = .int .i64 (k : Int) ∧ Hid (Lo.length = k ∧ GrowChanges w wr base p L C N Lo ov)) (fun _ i _ => L.length - (intOf i).toNat)
  case atStart => exact ⟨0, _, [], Nat.zero_le _, rfl, Lib.hid ⟨rfl, HS.out⟩⟩
  case round =>
    obtain ⟨k, N, Lo, hk, rfl, HP⟩ := hrel
    obtain ⟨ao, co, c0, o0⟩ := HP.out.2.held.ex
    by_cases hlt : k < L.length
    · have hx : L[k]? = some L[k] := List.getElem?_eq_getElem hlt
      obtain ⟨go, co', hv, _, _, hgo⟩ := own_blkK o0 (by omega)
      obtain ⟨rfl, rfl⟩ : ao = some ⟨go, 0, none⟩ ∧ co = co' := by simpa using hv
      have r0 := (owns_cell o0 (k := k) (x := L[k].cell) (by rw [List.getElem?_map, hx]; rfl)).1
      have hsm := HP.out.2.held.small _ (List.getElem_mem hlt)
      have hCk := HB.out.2.2 k _ hx
      generalize L[k] = x at *
      have r1 : wr.cell? ⟨go, k, none⟩ = some (.slice x.a x.l.length x.c) := r0
      have hi1 : (k : Int) < (L.length : Int) := by omega
      have hk1 : (k : Int) ≤ 1000 := by omega
      have HQ := Lib.hid (And.intro hx hCk)
      have HR : Hid (GrowChanges w wr base p L C N Lo u3 ∧ wr.ownsRow base 56 2 (.slice x.a (x.l.length + 0) x.c) (x.l.length + 0) (flat Chg.cells (marksChanges (k : Int) 0 (x.l.length + 0))) ∧ ((x.a = x.a ∧ x.c = x.c) ∨ ∀ g', Value.ownBlock (.slice x.a (x.l.length + 0) x.c) = some g' → N ≤ g')) := Lib.hid ⟨HP.out.2, by
        have := HP.out.2.held.each k x hx
        rw [hCk] at this
        exact this, .inl ⟨rfl, rfl⟩⟩
      have HK := Lib.hid HP.out.1
      clear hx r0 hv o0 HP hCk
      go_wp2
      go_loopw [5, 6] (fun lv i wx => ∃ (q s cl : Nat) (al : Option Addr), q ≤ 12 ∧ s ≤ 1012 ∧ Hid (s = x.l.length + q) ∧ i = .int .i64 (q : Int) ∧ lv = .slice al s cl ∧ Hid (GrowChanges w wx base p L C N Lo u3 ∧ wx.ownsRow base 56 2 (.slice al s cl) s (flat Chg.cells (marksChanges (k : Int) 0 s)) ∧ ((al = x.a ∧ cl = x.c) ∨ ∀ g', Value.ownBlock (.slice al s cl) = some g' → N ≤ g'))) (fun _ i _ => 12 - (intOf i).toNat)
      case atStart => exact ⟨0, x.l.length, x.c, x.a, Nat.zero_le _, by omega, Lib.hid rfl, rfl, rfl, Lib.hid ⟨HR.out.1, HR.out.2.1, .inl ⟨rfl, rfl⟩⟩⟩
      case round =>
        obtain ⟨q, s, cl, al, hq, hs1, hs2, rfl, rfl, HT⟩ := hrel
        have hsi : (s : Int) ≤ 1012 := by omega
        by_cases hq12 : q < 12
        · have hi2 : (q : Int) < 12 := by omega
          have hbs := HT.out.1.book.lt
          go_wp2_with (first
            | (go_at_call 71
               refine (markChanges_is (k : Int) s 1 _ (by omega) hk1 (by omega) (by decide)).mono ?_
               rintro e w2 ⟨vm, rfl, b2, o2⟩
               obtain ⟨gm, cm, rfl, _⟩ := own_blkK o2 (by omega)
               have H2 := Lib.hid (And.intro b2 o2)
               clear b2 o2)
            | (refine wpList_append_twoK rfl (.tmp 27) (.tmp 31) 24 rfl base 56 i1 _ 2 16 Try.underlying24 HJ.out.1 HJ.out.2.1 HJ.out.2.2.1 HJ.out.2.2.2 rfl (by omega) (.slice al s cl) s (flat Chg.cells (marksChanges (k : Int) 0 s)) rfl (own_belowK HT.out.2.1 H2.out.1) _ 1 cm (flat Chg.cells (marksChanges (k : Int) s 1)) rfl (by rw [flat_len Chg.len, marksChanges_len]) (H2.out.2.cells (g := gm) rfl) (flat_all Chg.one _) (by omega) (by unfold maxLen; omega) (by omega) (by have := H2.out.1.size; omega) ?_
               intro g cap w4 hown4 hgr4 hb4 hlt4
               have H4 := Lib.hid (And.intro hown4 hgr4)
               clear hown4 hgr4 hb4 hlt4))
          have HN : Hid (GrowChanges w w4 base p L C N Lo u3 ∧ w4.ownsRow base 56 2 (.slice (some ⟨g, 0, none⟩) (s + 1) cap) (s + 1) (flat Chg.cells (marksChanges (k : Int) 0 (s + 1))) ∧ ((some ⟨g, 0, none⟩ = x.a ∧ cap = x.c) ∨ ∀ g', Value.ownBlock (.slice (some ⟨g, 0, none⟩) (s + 1) cap) = some g' → N ≤ g')) := Lib.hid (by
            have ho := H4.out.1
            rw [← flat_app, ← marksChanges_add] at ho
            obtain ⟨n1, n2⟩ := (HT.out.1.next hp H2.out.1).step hp HB.out.2.1 HQ.out.1 HK.out.symm (own_belowK HT.out.2.1 H2.out.1) (by have := hs2.out; omega) HT.out.2.2 H4.out.2 ho (by
              rw [hs2.out, Nat.add_assoc, marksChanges_take]
              exact HQ.out.2.symm)
            exact ⟨n1, ho, n2⟩)
          exact ⟨⟨q + 1, s + 1, cap, some ⟨g, 0, none⟩, by omega, by have := hs2.out; omega, Lib.hid (by have := hs2.out; omega), by go_num, rfl, HN⟩, by simp [intOf]; omega⟩
        · obtain rfl : q = 12 := by omega
          have hn2 : ¬ (12 : Int) < 12 := by omega
          have hbs := HT.out.1.book.lt
          have hLo := HK.out
          go_wp2_with (first
            | (go_at_call 71
               refine (markChanges_is (k : Int) s 60 _ (by omega) hk1 (by omega) (by decide)).mono ?_
               rintro e w2 ⟨vm, rfl, b2, o2⟩
               obtain ⟨gm, cm, rfl, _⟩ := own_blkK o2 (by omega)
               have H2 := Lib.hid (And.intro b2 o2)
               clear b2 o2)
            | (refine wpList_append_twoK rfl (.tmp 34) (.tmp 38) 24 rfl base 56 i1 _ 2 16 Try.underlying24 HJ.out.1 HJ.out.2.1 HJ.out.2.2.1 HJ.out.2.2.2 rfl (by omega) (.slice al s cl) s (flat Chg.cells (marksChanges (k : Int) 0 s)) rfl (own_belowK HT.out.2.1 H2.out.1) _ 60 cm (flat Chg.cells (marksChanges (k : Int) s 60)) rfl (by rw [flat_len Chg.len, marksChanges_len]) (H2.out.2.cells (g := gm) rfl) (flat_all Chg.one _) (by omega) (by unfold maxLen; omega) (by omega) (by have := H2.out.1.size; omega) ?_
               intro g cap w4 hown4 hgr4 hb4 hlt4
               have hsz4 : w.heap.size ≤ w4.heap.size := by
                 have h1 := HT.out.1.N
                 have h2 := H2.out.1.size
                 rcases hgr4 with ⟨_, e⟩ | ⟨_, e⟩
                 · have := e.size; omega
                 · have := e.size; omega
               have HG : Hid (GrowChanges w w4 base p L C N Lo u3 ∧ w4.ownsRow base 56 2 (.slice (some ⟨g, 0, none⟩) (s + 60) cap) (s + 60) (flat Chg.cells (marksChanges (k : Int) 0 (s + 60))) ∧ ((some ⟨g, 0, none⟩ = x.a ∧ cap = x.c) ∨ ∀ g', Value.ownBlock (.slice (some ⟨g, 0, none⟩) (s + 60) cap) = some g' → N ≤ g')) := Lib.hid (by
                 have ho := hown4
                 rw [← flat_app, ← marksChanges_add] at ho
                 obtain ⟨n1, n2⟩ := (HT.out.1.next hp H2.out.1).step hp HB.out.2.1 HQ.out.1 HK.out.symm (own_belowK HT.out.2.1 H2.out.1) (by have := hs2.out; omega) HT.out.2.2 hgr4 ho (by
                   rw [hs2.out, Nat.add_assoc, marksChanges_take]
                   exact HQ.out.2.symm)
                 exact ⟨n1, ho, n2⟩)
               clear hown4 hgr4 hb4 hlt4)
            | (refine wpList_append_twoK rfl (.tmp 33) (.tmp 40) 38 rfl w.heap.size 24 i0 _ 1 24 Try.underlying38 HI.out.1 HI.out.2.1 HI.out.2.2.1 HI.out.2.2.2 rfl (by omega) u3 Lo.length (Lo.map CL.cell) rfl (HG.out.1.out.alloc _) _ 1 1 [.slice (some ⟨g, 0, none⟩) (s + 60) cap] rfl rfl (by exact World.news_of_block (heap_alloc_last _ _)) (by intro u hu; simp at hu; rw [hu]; rfl) (by omega) (by unfold maxLen; omega) (by omega) (by simp; omega) ?_
               intro g6 cap6 w6 hown6 hgr6 hb6 hlt6
               have H6 := Lib.hid (And.intro hown6 hgr6)
               clear hown6 hgr6 hb6 hlt6))
          have HN : Hid (GrowChanges w w6 base p L C w6.heap.size (Lo ++ [⟨some ⟨g, 0, none⟩, marksChanges (k : Int) 0 (s + 60), cap⟩]) (.slice (some ⟨g6, 0, none⟩) (Lo.length + 1) cap6)) := Lib.hid (by
            obtain ⟨n1, n2, n3⟩ := HG.out
            have ec : CL.cell ⟨some ⟨g, 0, none⟩, marksChanges (k : Int) 0 (s + 60), cap⟩ = .slice (some ⟨g, 0, none⟩) (s + 60) cap := by
              rw [CL.cell, marksChanges_len]
            have el : (CL.l ⟨some ⟨g, 0, none⟩, marksChanges (k : Int) 0 (s + 60), cap⟩).length = s + 60 := by
              exact marksChanges_len _ _ _
            have ba := (Below.refl w4.heap.size w4).alloc (Nat.le_refl _) (.cells #[.slice (some ⟨g, 0, none⟩) (s + 60) cap] 24)
            refine (n1.next hp ba).push hp HB.out.2.1 HB.out.1 (by rw [HK.out]; exact HQ.out.1) (y := ⟨some ⟨g, 0, none⟩, marksChanges (k : Int) 0 (s + 60), cap⟩) ?_ ?_ ?_ ?_ H6.out.2 ?_
            · rw [ec, el]
              exact own_belowK n2 ba
            · intro i hi
              rw [el, hi, HK.out]
            · rw [el]; omega
            · rw [ec]; exact n3
            · rw [ec]; exact H6.out.1)
          exact ⟨⟨k + 1, w6.heap.size, Lo ++ [⟨some ⟨g, 0, none⟩, marksChanges (k : Int) 0 (s + 60), cap⟩], by omega, by go_num, Lib.hid ⟨by rw [List.length_append, HK.out]; rfl, by have h := HN.out; rw [HK.out] at h; exact h⟩⟩, by simp [intOf]; omega⟩
    · obtain rfl : k = L.length := by omega
      have hn : ¬ (L.length : Int) < (L.length : Int) := by omega
      clear hlt hk o0
      go_wp2
      go_ret
      exact ⟨N, Lo, _, rfl, HP.out.1, HP.out.2⟩
structure GrowEntries (w wr : World) (base p : Nat) (L : List EL) (C : Nat → List Ent) (N : Nat) (Lo : List EL) (vo : Value) : Prop where
  below : Below base w wr
  turn : Turn w wr p (fun _ => False) (OfType w 23)
  book : BookB wr p
  held : HeldEntries wr base p L C
  out : wr.ownsRow w.heap.size 25 1 vo Lo.length (Lo.map EL.cell)
  lo : ∀ (i : Nat) (y : EL), Lo[i]? = some y → wr.ownsRow base 23 5 y.cell y.l.length (flat Ent.cells y.l) ∧ y.l = marksEntries (i : Int) 0 y.l.length ∧ y.l.length ≤ 2000 ∧ (∀ g, y.cell.ownBlock = some g → g < N ∧ ∀ (j : Nat) (x : EL), i ≠ j → L[j]? = some x → x.cell.ownBlock ≠ some g)
  N : w.heap.size ≤ N ∧ N ≤ wr.heap.size
theorem GrowEntries.next {w wr w' : World} {base p N : Nat} {L Lo : List EL} {C : Nat → List Ent} {vo : Value} (h : GrowEntries w wr base p L C N Lo vo) (hp : base ≤ p) (b : Below wr.heap.size wr w') : GrowEntries w w' base p L C N Lo vo :=
  ⟨h.below.trans (b.mono (Nat.le_trans hp (Nat.le_of_lt h.book.lt))), h.turn.trans (Turn.of_below b h.book.lt), book_of_block (b.block p h.book.lt) h.book, h.held.below h.book b, own_belowK h.out b,
    fun i y hy => ⟨own_belowK (h.lo i y hy).1 b, (h.lo i y hy).2⟩, ⟨h.N.1, Nat.le_trans h.N.2 b.size⟩⟩
/-- A row of elements has grown where it was. -/
theorem GrowEntries.grown {w wr w' : World} {base p N g : Nat} {L Lo : List EL} {C : Nat → List Ent} {vo : Value} (h : GrowEntries w wr base p L C N Lo vo) (hp : base ≤ p) (hg : wr.grownBy w' (some g)) (c1 : g ≠ p) (c2 : OfType w 23 g ∨ w.heap.size ≤ g) (c3 : base ≤ g)
    (c4 : ∀ (i : Nat) (x : EL), L[i]? = some x → w'.ownsRow base 23 5 x.cell x.l.length (flat Ent.cells (C i))) (c5 : OfType wr 23 g) (c6 : ∀ (i : Nat) (y : EL), Lo[i]? = some y → y.cell.ownBlock ≠ some g) : GrowEntries w w' base p L C N Lo vo := by
  have hpl := h.book.lt
  have t := h.turn.more hg hpl (fun g' e => by
    obtain rfl : g = g' := by simpa using e
    exact ⟨c1, c2⟩)
  obtain ⟨ao, co, e0, o0⟩ := h.held.ex
  have nO : ∀ {b v m cs}, wr.ownsRow b 25 1 v m cs → ∀ g', v.ownBlock = some g' → some g ≠ some g' := fun ho g' e q => by
    obtain rfl : g = g' := by simpa using q
    exact not_type ho (show 25 ≠ 23 by decide) e c5
  have hbp : w'.heap[p]? = wr.heap[p]? := grown_block hg hpl (fun e => c1 (by simpa using e))
  refine ⟨h.below.grown hg (Nat.le_trans hp (Nat.le_of_lt hpl)) (fun k hk => by
      obtain rfl : g = k := by simpa using hk
      exact c3), t, book_of_block hbp h.book, ⟨⟨ao, co, (World.cell?_of_block (w := wr) (a := ⟨p, 6, none⟩) hbp).trans e0, owns_grown o0 hg (nO o0)⟩, c4, h.held.apart, h.held.small⟩, owns_grown h.out hg (nO h.out), fun i y hy => ⟨owns_grown (h.lo i y hy).1 hg (fun g' e q => ?_), (h.lo i y hy).2⟩, ⟨h.N.1, Nat.le_trans h.N.2 hg.size⟩⟩
  obtain rfl : g = g' := by simpa using q
  exact c6 i y hy e
/-- One append onto a list's row. -/
theorem GrowEntries.step {w wr w' : World} {base p N g cap k q m cl : Nat} {al : Option Addr} {L Lo : List EL} {C C0 : Nat → List Ent} {vo : Value} {x : EL} {xs ys : List Ent} (h : GrowEntries w wr base p L C N Lo vo) (hp : base ≤ p) (hw : HeldEntries w base p L C0)
    (hx : L[k]? = some x) (hk : k = Lo.length) (hv : wr.ownsRow base 23 5 (.slice al q cl) q (flat Ent.cells xs)) (hq : x.l.length ≤ q) (hblk : (al = x.a ∧ cl = x.c) ∨ ∀ g', Value.ownBlock (.slice al q cl) = some g' → N ≤ g')
    (hgr : GrewK wr w' (.slice al q cl) q g cap) (hown : w'.ownsRow base 23 5 (.slice (some ⟨g, 0, none⟩) (q + m) cap) (q + m) (flat Ent.cells ys)) (hys : ys.take x.l.length = C k) :
    GrowEntries w w' base p L C N Lo vo ∧ ((some ⟨g, 0, none⟩ = x.a ∧ cap = x.c) ∨ ∀ g', Value.ownBlock (.slice (some ⟨g, 0, none⟩) (q + m) cap) = some g' → N ≤ g') := by
  rcases hgr with ⟨e, hg⟩ | ⟨e, hg⟩
  · obtain ⟨rfl, rfl⟩ : al = some ⟨g, 0, none⟩ ∧ cl = cap := by simpa using e
    have c5 : OfType wr 23 g := by
      obtain ⟨cur, hh⟩ := own_type hv rfl
      exact ⟨cur, _, hh⟩
    have c1 : g ≠ p := not_book h.book hv (by decide) rfl
    have c3 : base ≤ g := (hv.lt g rfl).1
    rcases hblk with ⟨b1, b2⟩ | hN
    · have hxg : x.cell.ownBlock = some g := by rw [EL.cell, ← b1]; rfl
      have c2 : OfType w 23 g := by
        obtain ⟨cur, hh⟩ := own_type (hw.each k x hx) hxg
        exact ⟨cur, _, hh⟩
      refine ⟨h.grown hp hg c1 (.inl c2) c3 (fun i y hy => ?_) c5 (fun i y hy => ?_), .inl ⟨b1, b2⟩⟩
      · by_cases hi : i = k
        · subst hi
          obtain rfl : x = y := by rw [hx] at hy; simpa using hy
          rw [EL.cell, ← b1, ← b2]
          exact owns_headK hown (by omega) (by rw [flat_take Ent.len, hys])
        · exact owns_grown (h.held.each i y hy) hg (fun g' e q => by
            obtain rfl : g = g' := by simpa using q
            exact h.held.apart i k y x hi hy hx g e hxg)
      · intro e
        have hne : i ≠ k := by have := (List.getElem?_eq_some_iff.1 hy).1; omega
        exact ((h.lo i y hy).2.2.2 g e).2 k x hne hx hxg
    · have hNg := hN g rfl
      have hN0 := h.N.1
      refine ⟨h.grown hp hg c1 (.inr (by omega)) c3 (fun i y hy => ?_) c5 (fun i y hy e => ?_), .inr hN⟩
      · exact owns_grown (h.held.each i y hy) hg (fun g' e q => by
          obtain rfl : g = g' := by simpa using q
          have := ((hw.each i y hy).lt g e).2
          omega)
      · have := ((h.lo i y hy).2.2.2 g e).1
        omega
  · refine ⟨h.next hp (below_none hg), .inr (fun g' e' => ?_)⟩
    obtain rfl : g = g' := by simpa [Value.ownBlock] using e'
    exact Nat.le_trans h.N.2 e
/-- One list more stands in what is told. -/
theorem GrowEntries.push {w wr w' : World} {base p N g cap : Nat} {L Lo : List EL} {C C0 : Nat → List Ent} {vo : Value} {x y : EL} (h : GrowEntries w wr base p L C N Lo vo) (hp : base ≤ p) (hw : HeldEntries w base p L C0) (hwb : BookB w p) (hx : L[Lo.length]? = some x)
    (hy : wr.ownsRow base 23 5 y.cell y.l.length (flat Ent.cells y.l)) (hm : ∀ i, i = Lo.length → y.l = marksEntries (i : Int) 0 y.l.length) (hs : y.l.length ≤ 2000) (hblk : (y.a = x.a ∧ y.c = x.c) ∨ ∀ g', y.cell.ownBlock = some g' → N ≤ g')
    (hgr : GrewK wr w' vo Lo.length g cap) (hown : w'.ownsRow w.heap.size 25 1 (.slice (some ⟨g, 0, none⟩) (Lo.length + 1) cap) (Lo.length + 1) (Lo.map EL.cell ++ [y.cell])) :
    GrowEntries w w' base p L C w'.heap.size (Lo ++ [y]) (.slice (some ⟨g, 0, none⟩) (Lo.length + 1) cap) := by
  have hpl := h.book.lt
  have hsz : wr.heap.size ≤ w'.heap.size := by
    rcases hgr with ⟨_, q⟩ | ⟨_, q⟩ <;> exact q.size
  have hbw : base ≤ w.heap.size := Nat.le_trans hp (Nat.le_of_lt hwb.lt)
  have hrow : ∃ row, wr.grownBy w' row ∧ ∀ g', row = some g' → w.heap.size ≤ g' ∧ OfType wr 25 g' := by
    rcases hgr with ⟨e, q⟩ | ⟨_, q⟩
    · refine ⟨_, q, fun g' e' => ?_⟩
      obtain rfl : g = g' := by simpa using e'
      have hg : vo.ownBlock = some g := by rw [e]; rfl
      obtain ⟨cur, hh⟩ := own_type h.out hg
      exact ⟨(h.out.lt g hg).1, cur, _, hh⟩
    · exact ⟨_, q, fun g' e' => by cases e'⟩
  obtain ⟨row, hg, hr⟩ := hrow
  have nE : ∀ {v m cs}, wr.ownsRow base 23 5 v m cs → ∀ g', v.ownBlock = some g' → row ≠ some g' := fun ho g' e q => not_type ho (show 23 ≠ 25 by decide) e (hr g' q).2
  have hrp : ∀ g', row = some g' → g' ≠ p := fun g' e q => by
    have := (hr g' e).1
    have := hwb.lt
    omega
  have t := h.turn.more hg hpl (fun g' e => ⟨hrp g' e, .inr (hr g' e).1⟩)
  obtain ⟨ao, co, e0, o0⟩ := h.held.ex
  obtain ⟨ao', co', e0', o0'⟩ := hw.ex
  have hbp : w'.heap[p]? = wr.heap[p]? := grown_block hg hpl (fun e => hrp p e rfl)
  have hsame : Value.slice ao L.length co = .slice ao' L.length co' := by
    have := (h.turn.cell 6 id)
    rw [e0, e0'] at this
    simpa using this
  refine ⟨h.below.grown hg (Nat.le_trans hbw h.turn.size) (fun k hk => Nat.le_trans hbw (hr k hk).1), t, book_of_block hbp h.book, ⟨⟨ao, co, (World.cell?_of_block (w := wr) (a := ⟨p, 6, none⟩) hbp).trans e0, owns_grown o0 hg (fun g' e q => ?_)⟩, fun i z hz => owns_grown (h.held.each i z hz) hg (nE (h.held.each i z hz)), h.held.apart, h.held.small⟩, ?_, fun i z hz => ?_, ⟨Nat.le_trans h.turn.size hsz, Nat.le_refl _⟩⟩
  · rw [hsame] at e
    have := (o0'.lt g' e).2
    have := (hr g' q).1
    omega
  · simpa using hown
  · rcases Nat.lt_or_ge i Lo.length with e | e
    · rw [List.getElem?_append_left e] at hz
      obtain ⟨z1, z2, z3, z4⟩ := h.lo i z hz
      exact ⟨owns_grown z1 hg (nE z1), z2, z3, fun g' hg' => ⟨Nat.lt_of_lt_of_le (z1.lt g' hg').2 hsz, (z4 g' hg').2⟩⟩
    · rw [List.getElem?_append_right e] at hz
      have hi : i = Lo.length := by have := (List.getElem?_eq_some_iff.1 hz).1; simp at this; omega
      subst hi
      obtain rfl : y = z := by simpa using hz
      refine ⟨owns_grown hy hg (nE hy), hm _ rfl, hs, fun g' hg' => ⟨Nat.lt_of_lt_of_le (hy.lt g' hg').2 hsz, fun j u hj hu hug => ?_⟩⟩
      rcases hblk with ⟨b1, b2⟩ | hN
      · have hxg : x.cell.ownBlock = some g' := by
          rw [EL.cell, ← b1]
          rw [EL.cell] at hg'
          cases hya : y.a with
          | none => rw [hya] at hg'; cases hg'
          | some b => rw [hya] at hg'; exact hg'
        exact hw.apart Lo.length j x u hj hx hu g' hxg hug
      · have h1 := hN g' hg'
        have h2 := ((hw.each j u hu).lt g' hug).2
        have h3 := h.N.1
        omega

theorem grow_startEntries {w : World} {base p : Nat} {L : List EL} {C : Nat → List Ent} (hb : BookB w p) (h : HeldEntries w base p L C) : GrowEntries w w base p L C w.heap.size [] (.slice none 0 0) :=
  ⟨Below.refl _ _, Turn.refl _ _ _ _, hb, h, World.ownsRow_nil _ _ _ _, fun i y hy => by simp at hy, ⟨Nat.le_refl _, Nat.le_refl _⟩⟩

set_option maxRecDepth 100000 in
set_option maxHeartbeats 4000000 in
theorem growEntries_is (base p : Nat) (L : List EL) (C : Nat → List Ent) (w : World) (hb : BookB w p) (hp : base ≤ p) (h : HeldEntries w base p L C) (hC : ∀ (k : Nat) (x : EL), L[k]? = some x → C k = marksEntries (k : Int) 0 x.l.length) (hL : L.length ≤ 100) :
    Calls Try.prog 51 #[.pointer (some ⟨p, 0, none⟩)] w fun e w' => ∃ N Lo vo, e = .returned vo ∧ Lo.length = L.length ∧ GrowEntries w w' base p L C N Lo vo := by
  obtain ⟨i0, hi, hz0, hz1, hz2⟩ := info_parts outInfoEntries
  have HI := Lib.hid (And.intro hi (And.intro hz0 (And.intro hz1 hz2)))
  clear hi hz0 hz1 hz2
  obtain ⟨i1, hi, hz0, hz1, hz2⟩ := info_parts entInfo
  have HJ := Lib.hid (And.intro hi (And.intro hz0 (And.intro hz1 hz2)))
  clear hi hz0 hz1 hz2
  have HS := Lib.hid (grow_startEntries hb h)
  have HB := Lib.hid (And.intro hb (And.intro h hC))
  have hLi : (L.length : Int) ≤ 100 := by omega
  clear h hb hC
  go_enter Try.func51, Try.ntmps51
  go_wp2
  go_loopw [3, 4] (fun ov i wr => ∃ (k N : Nat) (Lo : List EL), k ≤ L.length ∧ i = .int .i64 (k : Int) ∧ Hid (Lo.length = k ∧ GrowEntries w wr base p L C N Lo ov)) (fun _ i _ => L.length - (intOf i).toNat)
  case atStart => exact ⟨0, _, [], Nat.zero_le _, rfl, Lib.hid ⟨rfl, HS.out⟩⟩
  case round =>
    obtain ⟨k, N, Lo, hk, rfl, HP⟩ := hrel
    obtain ⟨ao, co, c0, o0⟩ := HP.out.2.held.ex
    by_cases hlt : k < L.length
    · have hx : L[k]? = some L[k] := List.getElem?_eq_getElem hlt
      obtain ⟨go, co', hv, _, _, hgo⟩ := own_blkK o0 (by omega)
      obtain ⟨rfl, rfl⟩ : ao = some ⟨go, 0, none⟩ ∧ co = co' := by simpa using hv
      have r0 := (owns_cell o0 (k := k) (x := L[k].cell) (by rw [List.getElem?_map, hx]; rfl)).1
      have hsm := HP.out.2.held.small _ (List.getElem_mem hlt)
      have hCk := HB.out.2.2 k _ hx
      generalize L[k] = x at *
      have r1 : wr.cell? ⟨go, k, none⟩ = some (.slice x.a x.l.length x.c) := r0
      have hi1 : (k : Int) < (L.length : Int) := by omega
      have hk1 : (k : Int) ≤ 1000 := by omega
      have HQ := Lib.hid (And.intro hx hCk)
      have HR : Hid (GrowEntries w wr base p L C N Lo u3 ∧ wr.ownsRow base 23 5 (.slice x.a (x.l.length + 0) x.c) (x.l.length + 0) (flat Ent.cells (marksEntries (k : Int) 0 (x.l.length + 0))) ∧ ((x.a = x.a ∧ x.c = x.c) ∨ ∀ g', Value.ownBlock (.slice x.a (x.l.length + 0) x.c) = some g' → N ≤ g')) := Lib.hid ⟨HP.out.2, by
        have := HP.out.2.held.each k x hx
        rw [hCk] at this
        exact this, .inl ⟨rfl, rfl⟩⟩
      have HK := Lib.hid HP.out.1
      clear hx r0 hv o0 HP hCk
      go_wp2
      go_loopw [5, 6] (fun lv i wx => ∃ (q s cl : Nat) (al : Option Addr), q ≤ 12 ∧ s ≤ 1012 ∧ Hid (s = x.l.length + q) ∧ i = .int .i64 (q : Int) ∧ lv = .slice al s cl ∧ Hid (GrowEntries w wx base p L C N Lo u3 ∧ wx.ownsRow base 23 5 (.slice al s cl) s (flat Ent.cells (marksEntries (k : Int) 0 s)) ∧ ((al = x.a ∧ cl = x.c) ∨ ∀ g', Value.ownBlock (.slice al s cl) = some g' → N ≤ g'))) (fun _ i _ => 12 - (intOf i).toNat)
      case atStart => exact ⟨0, x.l.length, x.c, x.a, Nat.zero_le _, by omega, Lib.hid rfl, rfl, rfl, Lib.hid ⟨HR.out.1, HR.out.2.1, .inl ⟨rfl, rfl⟩⟩⟩
      case round =>
        obtain ⟨q, s, cl, al, hq, hs1, hs2, rfl, rfl, HT⟩ := hrel
        have hsi : (s : Int) ≤ 1012 := by omega
        by_cases hq12 : q < 12
        · have hi2 : (q : Int) < 12 := by omega
          have hbs := HT.out.1.book.lt
          go_wp2_with (first
            | (go_at_call 72
               refine (markEntries_is (k : Int) s 1 _ (by omega) hk1 (by omega) (by decide)).mono ?_
               rintro e w2 ⟨vm, rfl, b2, o2⟩
               obtain ⟨gm, cm, rfl, _⟩ := own_blkK o2 (by omega)
               have H2 := Lib.hid (And.intro b2 o2)
               clear b2 o2)
            | (refine wpList_append_twoK rfl (.tmp 27) (.tmp 31) 25 rfl base 23 i1 _ 5 40 Try.underlying25 HJ.out.1 HJ.out.2.1 HJ.out.2.2.1 HJ.out.2.2.2 rfl (by omega) (.slice al s cl) s (flat Ent.cells (marksEntries (k : Int) 0 s)) rfl (own_belowK HT.out.2.1 H2.out.1) _ 1 cm (flat Ent.cells (marksEntries (k : Int) s 1)) rfl (by rw [flat_len Ent.len, marksEntries_len]) (H2.out.2.cells (g := gm) rfl) (flat_all Ent.one _) (by omega) (by unfold maxLen; omega) (by omega) (by have := H2.out.1.size; omega) ?_
               intro g cap w4 hown4 hgr4 hb4 hlt4
               have H4 := Lib.hid (And.intro hown4 hgr4)
               clear hown4 hgr4 hb4 hlt4))
          have HN : Hid (GrowEntries w w4 base p L C N Lo u3 ∧ w4.ownsRow base 23 5 (.slice (some ⟨g, 0, none⟩) (s + 1) cap) (s + 1) (flat Ent.cells (marksEntries (k : Int) 0 (s + 1))) ∧ ((some ⟨g, 0, none⟩ = x.a ∧ cap = x.c) ∨ ∀ g', Value.ownBlock (.slice (some ⟨g, 0, none⟩) (s + 1) cap) = some g' → N ≤ g')) := Lib.hid (by
            have ho := H4.out.1
            rw [← flat_app, ← marksEntries_add] at ho
            obtain ⟨n1, n2⟩ := (HT.out.1.next hp H2.out.1).step hp HB.out.2.1 HQ.out.1 HK.out.symm (own_belowK HT.out.2.1 H2.out.1) (by have := hs2.out; omega) HT.out.2.2 H4.out.2 ho (by
              rw [hs2.out, Nat.add_assoc, marksEntries_take]
              exact HQ.out.2.symm)
            exact ⟨n1, ho, n2⟩)
          exact ⟨⟨q + 1, s + 1, cap, some ⟨g, 0, none⟩, by omega, by have := hs2.out; omega, Lib.hid (by have := hs2.out; omega), by go_num, rfl, HN⟩, by simp [intOf]; omega⟩
        · obtain rfl : q = 12 := by omega
          have hn2 : ¬ (12 : Int) < 12 := by omega
          have hbs := HT.out.1.book.lt
          have hLo := HK.out
          go_wp2_with (first
            | (go_at_call 72
               refine (markEntries_is (k : Int) s 60 _ (by omega) hk1 (by omega) (by decide)).mono ?_
               rintro e w2 ⟨vm, rfl, b2, o2⟩
               obtain ⟨gm, cm, rfl, _⟩ := own_blkK o2 (by omega)
               have H2 := Lib.hid (And.intro b2 o2)
               clear b2 o2)
            | (refine wpList_append_twoK rfl (.tmp 34) (.tmp 38) 25 rfl base 23 i1 _ 5 40 Try.underlying25 HJ.out.1 HJ.out.2.1 HJ.out.2.2.1 HJ.out.2.2.2 rfl (by omega) (.slice al s cl) s (flat Ent.cells (marksEntries (k : Int) 0 s)) rfl (own_belowK HT.out.2.1 H2.out.1) _ 60 cm (flat Ent.cells (marksEntries (k : Int) s 60)) rfl (by rw [flat_len Ent.len, marksEntries_len]) (H2.out.2.cells (g := gm) rfl) (flat_all Ent.one _) (by omega) (by unfold maxLen; omega) (by omega) (by have := H2.out.1.size; omega) ?_
               intro g cap w4 hown4 hgr4 hb4 hlt4
               have hsz4 : w.heap.size ≤ w4.heap.size := by
                 have h1 := HT.out.1.N
                 have h2 := H2.out.1.size
                 rcases hgr4 with ⟨_, e⟩ | ⟨_, e⟩
                 · have := e.size; omega
                 · have := e.size; omega
               have HG : Hid (GrowEntries w w4 base p L C N Lo u3 ∧ w4.ownsRow base 23 5 (.slice (some ⟨g, 0, none⟩) (s + 60) cap) (s + 60) (flat Ent.cells (marksEntries (k : Int) 0 (s + 60))) ∧ ((some ⟨g, 0, none⟩ = x.a ∧ cap = x.c) ∨ ∀ g', Value.ownBlock (.slice (some ⟨g, 0, none⟩) (s + 60) cap) = some g' → N ≤ g')) := Lib.hid (by
                 have ho := hown4
                 rw [← flat_app, ← marksEntries_add] at ho
                 obtain ⟨n1, n2⟩ := (HT.out.1.next hp H2.out.1).step hp HB.out.2.1 HQ.out.1 HK.out.symm (own_belowK HT.out.2.1 H2.out.1) (by have := hs2.out; omega) HT.out.2.2 hgr4 ho (by
                   rw [hs2.out, Nat.add_assoc, marksEntries_take]
                   exact HQ.out.2.symm)
                 exact ⟨n1, ho, n2⟩)
               clear hown4 hgr4 hb4 hlt4)
            | (refine wpList_append_twoK rfl (.tmp 33) (.tmp 40) 39 rfl w.heap.size 25 i0 _ 1 24 Try.underlying39 HI.out.1 HI.out.2.1 HI.out.2.2.1 HI.out.2.2.2 rfl (by omega) u3 Lo.length (Lo.map EL.cell) rfl (HG.out.1.out.alloc _) _ 1 1 [.slice (some ⟨g, 0, none⟩) (s + 60) cap] rfl rfl (by exact World.news_of_block (heap_alloc_last _ _)) (by intro u hu; simp at hu; rw [hu]; rfl) (by omega) (by unfold maxLen; omega) (by omega) (by simp; omega) ?_
               intro g6 cap6 w6 hown6 hgr6 hb6 hlt6
               have H6 := Lib.hid (And.intro hown6 hgr6)
               clear hown6 hgr6 hb6 hlt6))
          have HN : Hid (GrowEntries w w6 base p L C w6.heap.size (Lo ++ [⟨some ⟨g, 0, none⟩, marksEntries (k : Int) 0 (s + 60), cap⟩]) (.slice (some ⟨g6, 0, none⟩) (Lo.length + 1) cap6)) := Lib.hid (by
            obtain ⟨n1, n2, n3⟩ := HG.out
            have ec : EL.cell ⟨some ⟨g, 0, none⟩, marksEntries (k : Int) 0 (s + 60), cap⟩ = .slice (some ⟨g, 0, none⟩) (s + 60) cap := by
              rw [EL.cell, marksEntries_len]
            have el : (EL.l ⟨some ⟨g, 0, none⟩, marksEntries (k : Int) 0 (s + 60), cap⟩).length = s + 60 := by
              exact marksEntries_len _ _ _
            have ba := (Below.refl w4.heap.size w4).alloc (Nat.le_refl _) (.cells #[.slice (some ⟨g, 0, none⟩) (s + 60) cap] 25)
            refine (n1.next hp ba).push hp HB.out.2.1 HB.out.1 (by rw [HK.out]; exact HQ.out.1) (y := ⟨some ⟨g, 0, none⟩, marksEntries (k : Int) 0 (s + 60), cap⟩) ?_ ?_ ?_ ?_ H6.out.2 ?_
            · rw [ec, el]
              exact own_belowK n2 ba
            · intro i hi
              rw [el, hi, HK.out]
            · rw [el]; omega
            · rw [ec]; exact n3
            · rw [ec]; exact H6.out.1)
          exact ⟨⟨k + 1, w6.heap.size, Lo ++ [⟨some ⟨g, 0, none⟩, marksEntries (k : Int) 0 (s + 60), cap⟩], by omega, by go_num, Lib.hid ⟨by rw [List.length_append, HK.out]; rfl, by have h := HN.out; rw [HK.out] at h; exact h⟩⟩, by simp [intOf]; omega⟩
    · obtain rfl : k = L.length := by omega
      have hn : ¬ (L.length : Int) < (L.length : Int) := by omega
      clear hlt hk o0
      go_wp2
      go_ret
      exact ⟨N, Lo, _, rfl, HP.out.1, HP.out.2⟩
end Go.Proofs.Ytebeegfgghbdlaa.Bk
