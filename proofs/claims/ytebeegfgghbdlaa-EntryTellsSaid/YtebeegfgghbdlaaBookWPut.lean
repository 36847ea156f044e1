/- The book: lists of structs: all are marked. -/
import Derived.Test.YtebeegfgghbdlaaBookWAdd
namespace Go.Proofs.Ytebeegfgghbdlaa.Bk
open Go.RowKit

theorem Turn.stores {w : World} {p g j : Nat} {J R : Nat → Prop} (vs : List Value) (hb : BookB w p) (hg : g ≠ p) (hr : R g) : Turn w (w.setCells g j vs) p J R := by
  refine ⟨Nat.le_of_eq (size_sets _ _ _ _).symm, fun i _ _ hn => heap_sets _ _ _ _ _ (fun e => hn (by rw [e]; exact hr)), fun i _ => World.cell?_of_block (w := w) (a := ⟨p, i, none⟩) (heap_sets _ _ _ _ _ (fun e => hg e.symm)), fun _ => book_of_block (heap_sets _ _ _ _ _ (fun e => hg e.symm)) hb⟩

/-- The lists of a kind, whatever is in them now. -/
structure HeldChanges (w : World) (base p : Nat) (L : List CL) (C : Nat → List Chg) : Prop where
  ex : ∃ ao co, w.cell? ⟨p, 4, none⟩ = some (.slice ao L.length co) ∧ w.ownsRow base 24 1 (.slice ao L.length co) L.length (L.map CL.cell)
  each : ∀ (i : Nat) (x : CL), L[i]? = some x → w.ownsRow base 56 2 x.cell x.l.length (flat Chg.cells (C i))
  apart : ∀ (i j : Nat) (x y : CL), i ≠ j → L[i]? = some x → L[j]? = some y → ∀ g, x.cell.ownBlock = some g → y.cell.ownBlock ≠ some g
  small : ∀ x ∈ L, x.l.length ≤ 1000
theorem KeepChanges.held {w : World} {base p : Nat} {L M : List CL} (h : KeepChanges w base p L M) : HeldChanges w base p L (fun i => (L[i]?.map (·.l)).getD []) := by
  obtain ⟨vO, vM, c0, _, o0, _, _⟩ := h.ex
  obtain ⟨ao, co, rfl⟩ := owns_slice o0
  refine ⟨⟨ao, co, c0, o0⟩, fun i x hx => by rw [hx]; exact h.each x (List.mem_of_getElem? hx), fun i j x y hij hx hy => ?_, h.small⟩
  have hp := List.pairwise_iff_getElem.1 h.apart
  obtain ⟨hi, rfl⟩ := List.getElem?_eq_some_iff.1 hx
  obtain ⟨hj, rfl⟩ := List.getElem?_eq_some_iff.1 hy
  rcases Nat.lt_or_gt_of_ne hij with q | q
  · exact hp i j hi hj q
  · exact fun g e1 e2 => hp j i hj hi q g e2 e1
theorem HeldChanges.below {w w' : World} {base p : Nat} {L : List CL} {C : Nat → List Chg} (h : HeldChanges w base p L C) (hb : BookB w p) (b : Below w.heap.size w w') : HeldChanges w' base p L C := by
  obtain ⟨ao, co, c0, o0⟩ := h.ex
  have t : Turn w w' p (fun _ => False) (fun _ => False) := Turn.of_below b hb.lt
  exact ⟨⟨ao, co, by rw [t.cell _ id]; exact c0, own_belowK o0 b⟩, fun i x hx => own_belowK (h.each i x hx) b, h.apart, h.small⟩
theorem HeldChanges.other {w w' : World} {base p : Nat} {L : List CL} {C : Nat → List Chg} (h : HeldChanges w base p L C) (hb : BookB w p) {J : Nat → Prop} {T : TypeId} (t : Turn w w' p J (OfType w T)) (hJ : ¬ J 4) (h1 : 56 ≠ T) (h2 : 24 ≠ T) : HeldChanges w' base p L C := by
  obtain ⟨ao, co, c0, o0⟩ := h.ex
  exact ⟨⟨ao, co, by rw [t.cell _ hJ]; exact c0, owns_typed o0 hb t h2 (by decide)⟩, fun i x hx => owns_typed (h.each i x hx) hb t h1 (by decide), h.apart, h.small⟩
/-- A store into one of them. -/
theorem HeldChanges.store {w : World} {base p : Nat} {L : List CL} {C : Nat → List Chg} (h : HeldChanges w base p L C) (hb : BookB w p) {k : Nat} {x : CL} (hk : L[k]? = some x) {g c : Nat} (hx : x.cell = .slice (some ⟨g, 0, none⟩) x.l.length c) (j : Nat) (hj : j < (C k).length) (v : Chg) :
    HeldChanges (w.setCells g (j * 2) v.cells) base p L (fun i => if i = k then (C k).set j v else C i) ∧ Below base w (w.setCells g (j * 2) v.cells) ∧ BookB (w.setCells g (j * 2) v.cells) p ∧ g ≠ p ∧ g < w.heap.size := by
  have ok := h.each k x hk
  have hg : x.cell.ownBlock = some g := by rw [hx]; rfl
  have hgp := not_book hb ok (by decide) hg
  have hbp := heap_sets g v.cells (j * 2) w p (fun e => hgp e.symm)
  obtain ⟨ao, co, c0, o0⟩ := h.ex
  refine ⟨⟨⟨ao, co, (World.cell?_of_block (w := w) (a := ⟨p, 4, none⟩) hbp).trans c0, owns_otherB o0 (fun g' e => heap_sets _ _ _ _ _ (fun q => ?_))⟩, fun i y hy => ?_, h.apart, h.small⟩, below_sets (ok.lt g hg).1 _ _ (Below.refl _ _), book_of_block hbp hb, hgp, (ok.lt g hg).2⟩
  · subst q
    obtain ⟨cur, hh⟩ := own_type o0 e
    exact not_type ok (show 56 ≠ 24 by decide) hg ⟨cur, _, hh⟩
  · by_cases hi : i = k
    · subst hi
      obtain rfl : x = y := by rw [hk] at hy; simpa using hy
      rw [if_pos rfl, flat_set Chg.len _ _ hj]
      rw [hx] at ok ⊢
      exact owns_setRun _ _ ok
    · rw [if_neg hi]
      exact owns_otherB (h.each i y hy) (fun g' e => heap_sets _ _ _ _ _ (fun q => h.apart i k y x hi hy hk g (by rw [← q]; exact e) hg))

/-- So far lists are marked. -/
structure PuttingChanges (w wr : World) (base p : Nat) (L : List CL) (k : Nat) (C : Nat → List Chg) : Prop where
  below : Below base w wr
  turn : Turn w wr p (fun _ => False) (OfType w 56)
  book : BookB wr p
  held : HeldChanges wr base p L C
  done : ∀ (k' : Nat) (x : CL), k' < k → L[k']? = some x → C k' = marksChanges (k' : Int) 0 x.l.length

theorem PuttingChanges.next {w wr wx : World} {base p : Nat} {L : List CL} {k : Nat} {C : Nat → List Chg} (h : PuttingChanges w wr base p L k C) (hp : base ≤ p) (b : Below wr.heap.size wr wx) : PuttingChanges w wx base p L k C :=
  ⟨h.below.trans (b.mono (Nat.le_trans hp (Nat.le_of_lt h.book.lt))), h.turn.trans (Turn.of_below b h.book.lt), book_of_block (b.block p h.book.lt) h.book, h.held.below h.book b, h.done⟩
set_option maxRecDepth 100000 in
set_option maxHeartbeats 2000000 in
theorem putChanges_is (base p : Nat) (L : List CL) (C : Nat → List Chg) (w : World) (hb : BookB w p) (hp : base ≤ p) (h : HeldChanges w base p L C) (hL : L.length ≤ 100) :
    Calls Try.prog 45 #[.pointer (some ⟨p, 0, none⟩)] w fun e w' => e = .returned (.tuple #[]) ∧ ∃ C', PuttingChanges w w' base p L L.length C' := by
  have HS : Hid (PuttingChanges w w base p L 0 C) := Lib.hid ⟨Below.refl _ _, Turn.refl _ _ _ _, hb, h, fun _ _ q => absurd q (Nat.not_lt_zero _)⟩
  have HB := Lib.hid h
  have hLi : (L.length : Int) ≤ 100 := by omega
  clear h hb
  go_enter Try.func45, Try.ntmps45
  go_wp2
  go_loopw [2] (fun i wr => ∃ k : Nat, k ≤ L.length ∧ i = .int .i64 (k : Int) ∧ Hid (∃ C', PuttingChanges w wr base p L k C')) (fun i _ => L.length - (intOf i).toNat)
  case atStart => exact ⟨0, Nat.zero_le _, rfl, Lib.hid ⟨C, HS.out⟩⟩
  case round =>
    obtain ⟨k, hk, rfl, HP⟩ := hrel
    obtain ⟨C1, hP⟩ := HP.out
    obtain ⟨ao, co, c0, o0⟩ := hP.held.ex
    by_cases hlt : k < L.length
    · have hx : L[k]? = some L[k] := List.getElem?_eq_getElem hlt
      obtain ⟨go, co', hv, hrow, _⟩ := own_blkK o0 (by omega)
      obtain ⟨rfl, rfl⟩ : ao = some ⟨go, 0, none⟩ ∧ co = co' := by simpa using hv
      have r0 := (owns_cell o0 (k := k) (x := L[k].cell) (by rw [List.getElem?_map, hx]; rfl)).1
      have hsm := hP.held.small _ (List.getElem_mem hlt)
      generalize L[k] = x at *
      have r1 : wr.cell? ⟨go, k, none⟩ = some (.slice x.a x.l.length x.c) := r0
      have hi1 : (k : Int) < (L.length : Int) := by omega
      have hk1 : (k : Int) ≤ 1000 := by omega
      have hgo : go < wr.heap.size := (o0.lt go rfl).2
      have HQ := Lib.hid (And.intro hP (And.intro hx (And.intro hsm (And.intro hgo o0))))
      clear hP hx r0 hv hrow o0 HP
      go_wp2_with (go_at_call 71
                   refine (markChanges_is (k : Int) 0 x.l.length _ (by omega) hk1 (by decide) (by have := HQ.out.2.2.1; omega)).mono ?_
                   rintro e w2 ⟨vm, rfl, b2, o2⟩
                   obtain ⟨am, cm, rfl, l2, hform⟩ := own_formK o2
                   have H2 := Lib.hid (And.intro b2 (And.intro o2 (And.intro l2 hform)))
                   clear b2 o2 l2 hform)
      have hml : (marksChanges (k : Int) 0 x.l.length).length = x.l.length := by simp [marksChanges]
      generalize hme : marksChanges (k : Int) 0 x.l.length = md at *
      have HME := Lib.hid hme.symm
      clear hme
      have HI0 : Hid (∃ C', PuttingChanges w w2 base p L k C' ∧ (C' k).take 0 = md.take 0 ∧ LiesAt w2 am (flat Chg.cells md)) := Lib.hid ⟨C1, ⟨HQ.out.1.below.trans (H2.out.1.mono (Nat.le_trans hp (Nat.le_of_lt HQ.out.1.book.lt))), HQ.out.1.turn.trans (Turn.of_below H2.out.1 HQ.out.1.book.lt), book_of_block (H2.out.1.block p HQ.out.1.book.lt) HQ.out.1.book, HQ.out.1.held.below HQ.out.1.book H2.out.1, HQ.out.1.done⟩, by simp, H2.out.2.2.1⟩
      have hgx : ∀ g, x.cell.ownBlock = some g → ∀ b : Addr, am = some b → b.block ≠ g := fun g hg b hb => by
        have h1 := ((HQ.out.1.held.each k x HQ.out.2.1).lt g hg).2
        rcases H2.out.2.2.2 with e | ⟨g', e, h2, _⟩
        · rw [e] at hb; cases hb
        · rw [hb] at e
          obtain rfl : b = ⟨g', 0, none⟩ := by simpa using e
          show g' ≠ g
          omega
      have HG := Lib.hid hgx
      clear hgx c0 r1
      go_loopw [4] (fun i wx => ∃ j : Nat, j ≤ x.l.length ∧ i = .int .i64 (j : Int) ∧ Hid (∃ C', PuttingChanges w wx base p L k C' ∧ (C' k).take j = md.take j ∧ LiesAt wx am (flat Chg.cells md))) (fun i _ => x.l.length - (intOf i).toNat)
      case atStart => exact ⟨0, Nat.zero_le _, rfl, HI0⟩
      case round =>
        obtain ⟨j, hj, rfl, HJ⟩ := hrel
        obtain ⟨C2, hS, hpart, hmd⟩ := HJ.out
        by_cases hjl : j < x.l.length
        · obtain ⟨ao', co2, c0, o0⟩ := hS.held.ex
          obtain ⟨go', co', hv, _⟩ := own_blkK o0 (by omega)
          obtain ⟨rfl, rfl⟩ : ao' = some ⟨go', 0, none⟩ ∧ co2 = co' := by simpa using hv
          have r1 : wr.cell? ⟨go', k, none⟩ = some (.slice x.a x.l.length x.c) := (owns_cell o0 (k := k) (x := x.cell) (by rw [List.getElem?_map, HQ.out.2.1]; rfl)).1
          have ok := hS.held.each k x HQ.out.2.1
          have hlen : (C2 k).length = x.l.length := by have := ok.1; rw [flat_len Chg.len] at this; omega
          obtain ⟨g, cx, hxc, _⟩ := own_blkK ok (by omega)
          have hst := hS.held.store hS.book HQ.out.2.1 hxc j (by omega) (md[j]'(by omega))
          rw [hxc] at ok
          obtain ⟨y0, y1, t0, q0, t1, q1⟩ := owns_there2 ok (show j < x.l.length by omega)
          obtain ⟨gm, om, hbm, hbl, hm1⟩ := hmd.elem Chg.len (by omega) (List.getElem?_eq_getElem (show j < md.length by omega))
          obtain rfl := hbm
          have hne := HG.out g (by rw [hxc]; rfl) ⟨gm, om, none⟩ rfl
          have hxa : x.a = some ⟨g, 0, none⟩ := by
            have e : x.a = some ⟨g, 0, none⟩ ∧ x.c = cx := by simpa [CL.cell] using hxc
            exact e.1
          rw [hxa] at r1
          have hmj : md[j]? = some (md[j]'(by omega)) := List.getElem?_eq_getElem _
          generalize md[j]'(by omega) = zv at *
          have m0 := hm1 0 _ rfl
          have m1 := hm1 1 _ rfl
          first | (have m2 := hm1 2 _ rfl) | skip
          first | (have m3 := hm1 3 _ rfl) | skip
          first | (have m4 := hm1 4 _ rfl) | skip
          rw [Nat.add_zero] at m0
          have hi2 : (j : Int) < (x.l.length : Int) := by omega
          have hgt := not_book hS.book (hS.held.each k x HQ.out.2.1) (by decide) (show x.cell.ownBlock = some g by rw [hxc]; rfl)
          have HN : Hid (∃ C', PuttingChanges w (wr.setCells g (j * 2) zv.cells) base p L k C' ∧ (C' k).take (j + 1) = md.take (j + 1) ∧ LiesAt (wr.setCells g (j * 2) zv.cells) (some ⟨gm, om, none⟩) (flat Chg.cells md)) := Lib.hid ⟨_, ⟨hS.below.trans hst.2.1, hS.turn.trans (Turn.stores _ hS.book hgt (by
            have hg0 : x.cell.ownBlock = some g := by rw [hxc]; rfl
            obtain ⟨cur, hh⟩ := own_type (HB.out.each k x HQ.out.2.1) hg0
            exact ⟨cur, _, hh⟩)), hst.2.2.1, hst.1, fun k' y hk' hy => by
              rw [if_neg (by omega)]
              exact hS.done k' y hk' hy⟩, by
              rw [if_pos rfl]
              exact take_set_next hpart (by omega) hmj, hmd.of_blocks (Nat.le_of_eq (size_sets _ _ _ _).symm) (fun b hb => heap_sets _ _ _ _ _ (by
                obtain rfl : ⟨gm, om, none⟩ = b := by simpa using hb
                exact hne))⟩
          clear hS hpart hmd ok hst hmj hne hbl hgt hlen o0 hv HJ HI0 hm1
          go_wp2_with fail
          go_region
          all_goals
            go_wp2
            obtain ⟨C', n1, n2, n3⟩ := HN.out
            exact ⟨⟨j + 1, by omega, by go_num, Lib.hid ⟨C', n1.next hp (Below.refl _ _).drew, n2, n3.below (Below.refl _ _).drew⟩⟩, by simp [intOf]; omega⟩
        · obtain rfl : j = x.l.length := by omega
          have hn : ¬ (x.l.length : Int) < (x.l.length : Int) := by omega
          have HN : Hid (∃ C', PuttingChanges w wr base p L (k + 1) C') := Lib.hid ⟨C2, ⟨hS.below, hS.turn, hS.book, hS.held, fun k' y hk' hy => by
            rcases Nat.lt_or_ge k' k with e | e
            · exact hS.done k' y e hy
            · obtain rfl : k' = k := by omega
              obtain rfl : x = y := by rw [HQ.out.2.1] at hy; simpa using hy
              have ok := hS.held.each k' x HQ.out.2.1
              have hlen : (C2 k').length = x.l.length := by have := ok.1; rw [flat_len Chg.len] at this; omega
              rw [List.take_of_length_le (by omega), List.take_of_length_le (by omega)] at hpart
              rw [hpart]
              exact HME.out⟩⟩
          clear hS hpart hmd HJ HI0 hjl hj
          go_wp2
          exact ⟨⟨k + 1, by omega, by go_num, HN⟩, by simp [intOf]; omega⟩
    · obtain rfl : k = L.length := by omega
      have hn : ¬ (L.length : Int) < (L.length : Int) := by omega
      clear hlt hk hP o0
      go_wp2
      exact bodyPost_end (results_none rfl _ _ _) rfl ⟨rfl, HP.out⟩
/-- The lists of a kind, whatever is in them now. -/
structure HeldEntries (w : World) (base p : Nat) (L : List EL) (C : Nat → List Ent) : Prop where
  ex : ∃ ao co, w.cell? ⟨p, 6, none⟩ = some (.slice ao L.length co) ∧ w.ownsRow base 25 1 (.slice ao L.length co) L.length (L.map EL.cell)
  each : ∀ (i : Nat) (x : EL), L[i]? = some x → w.ownsRow base 23 5 x.cell x.l.length (flat Ent.cells (C i))
  apart : ∀ (i j : Nat) (x y : EL), i ≠ j → L[i]? = some x → L[j]? = some y → ∀ g, x.cell.ownBlock = some g → y.cell.ownBlock ≠ some g
  small : ∀ x ∈ L, x.l.length ≤ 1000
theorem KeepEntries.held {w : World} {base p : Nat} {L M : List EL} (h : KeepEntries w base p L M) : HeldEntries w base p L (fun i => (L[i]?.map (·.l)).getD []) := by
  obtain ⟨vO, vM, c0, _, o0, _, _⟩ := h.ex
  obtain ⟨ao, co, rfl⟩ := owns_slice o0
  refine ⟨⟨ao, co, c0, o0⟩, fun i x hx => by rw [hx]; exact h.each x (List.mem_of_getElem? hx), fun i j x y hij hx hy => ?_, h.small⟩
  have hp := List.pairwise_iff_getElem.1 h.apart
  obtain ⟨hi, rfl⟩ := List.getElem?_eq_some_iff.1 hx
  obtain ⟨hj, rfl⟩ := List.getElem?_eq_some_iff.1 hy
  rcases Nat.lt_or_gt_of_ne hij with q | q
  · exact hp i j hi hj q
  · exact fun g e1 e2 => hp j i hj hi q g e2 e1
theorem HeldEntries.below {w w' : World} {base p : Nat} {L : List EL} {C : Nat → List Ent} (h : HeldEntries w base p L C) (hb : BookB w p) (b : Below w.heap.size w w') : HeldEntries w' base p L C := by
  obtain ⟨ao, co, c0, o0⟩ := h.ex
  have t : Turn w w' p (fun _ => False) (fun _ => False) := Turn.of_below b hb.lt
  exact ⟨⟨ao, co, by rw [t.cell _ id]; exact c0, own_belowK o0 b⟩, fun i x hx => own_belowK (h.each i x hx) b, h.apart, h.small⟩
theorem HeldEntries.other {w w' : World} {base p : Nat} {L : List EL} {C : Nat → List Ent} (h : HeldEntries w base p L C) (hb : BookB w p) {J : Nat → Prop} {T : TypeId} (t : Turn w w' p J (OfType w T)) (hJ : ¬ J 6) (h1 : 23 ≠ T) (h2 : 25 ≠ T) : HeldEntries w' base p L C := by
  obtain ⟨ao, co, c0, o0⟩ := h.ex
  exact ⟨⟨ao, co, by rw [t.cell _ hJ]; exact c0, owns_typed o0 hb t h2 (by decide)⟩, fun i x hx => owns_typed (h.each i x hx) hb t h1 (by decide), h.apart, h.small⟩
/-- A store into one of them. -/
theorem HeldEntries.store {w : World} {base p : Nat} {L : List EL} {C : Nat → List Ent} (h : HeldEntries w base p L C) (hb : BookB w p) {k : Nat} {x : EL} (hk : L[k]? = some x) {g c : Nat} (hx : x.cell = .slice (some ⟨g, 0, none⟩) x.l.length c) (j : Nat) (hj : j < (C k).length) (v : Ent) :
    HeldEntries (w.setCells g (j * 5) v.cells) base p L (fun i => if i = k then (C k).set j v else C i) ∧ Below base w (w.setCells g (j * 5) v.cells) ∧ BookB (w.setCells g (j * 5) v.cells) p ∧ g ≠ p ∧ g < w.heap.size := by
  have ok := h.each k x hk
  have hg : x.cell.ownBlock = some g := by rw [hx]; rfl
  have hgp := not_book hb ok (by decide) hg
  have hbp := heap_sets g v.cells (j * 5) w p (fun e => hgp e.symm)
  obtain ⟨ao, co, c0, o0⟩ := h.ex
  refine ⟨⟨⟨ao, co, (World.cell?_of_block (w := w) (a := ⟨p, 6, none⟩) hbp).trans c0, owns_otherB o0 (fun g' e => heap_sets _ _ _ _ _ (fun q => ?_))⟩, fun i y hy => ?_, h.apart, h.small⟩, below_sets (ok.lt g hg).1 _ _ (Below.refl _ _), book_of_block hbp hb, hgp, (ok.lt g hg).2⟩
  · subst q
    obtain ⟨cur, hh⟩ := own_type o0 e
    exact not_type ok (show 23 ≠ 25 by decide) hg ⟨cur, _, hh⟩
  · by_cases hi : i = k
    · subst hi
      obtain rfl : x = y := by rw [hk] at hy; simpa using hy
      rw [if_pos rfl, flat_set Ent.len _ _ hj]
      rw [hx] at ok ⊢
      exact owns_setRun _ _ ok
    · rw [if_neg hi]
      exact owns_otherB (h.each i y hy) (fun g' e => heap_sets _ _ _ _ _ (fun q => h.apart i k y x hi hy hk g (by rw [← q]; exact e) hg))

/-- So far lists are marked. -/
structure PuttingEntries (w wr : World) (base p : Nat) (L : List EL) (k : Nat) (C : Nat → List Ent) : Prop where
  below : Below base w wr
  turn : Turn w wr p (fun _ => False) (OfType w 23)
  book : BookB wr p
  held : HeldEntries wr base p L C
  done : ∀ (k' : Nat) (x : EL), k' < k → L[k']? = some x → C k' = marksEntries (k' : Int) 0 x.l.length

theorem PuttingEntries.next {w wr wx : World} {base p : Nat} {L : List EL} {k : Nat} {C : Nat → List Ent} (h : PuttingEntries w wr base p L k C) (hp : base ≤ p) (b : Below wr.heap.size wr wx) : PuttingEntries w wx base p L k C :=
  ⟨h.below.trans (b.mono (Nat.le_trans hp (Nat.le_of_lt h.book.lt))), h.turn.trans (Turn.of_below b h.book.lt), book_of_block (b.block p h.book.lt) h.book, h.held.below h.book b, h.done⟩
set_option maxRecDepth 100000 in
set_option maxHeartbeats 2000000 in
theorem putEntries_is (base p : Nat) (L : List EL) (C : Nat → List Ent) (w : World) (hb : BookB w p) (hp : base ≤ p) (h : HeldEntries w base p L C) (hL : L.length ≤ 100) :
    Calls Try.prog 46 #[.pointer (some ⟨p, 0, none⟩)] w fun e w' => e = .returned (.tuple #[]) ∧ ∃ C', PuttingEntries w w' base p L L.length C' := by
  have HS : Hid (PuttingEntries w w base p L 0 C) := Lib.hid ⟨Below.refl _ _, Turn.refl _ _ _ _, hb, h, fun _ _ q => absurd q (Nat.not_lt_zero _)⟩
  have HB := Lib.hid h
  have hLi : (L.length : Int) ≤ 100 := by omega
  clear h hb
  go_enter Try.func46, Try.ntmps46
  go_wp2
  go_loopw [2] (fun i wr => ∃ k : Nat, k ≤ L.length ∧ i = .int .i64 (k : Int) ∧ Hid (∃ C', PuttingEntries w wr base p L k C')) (fun i _ => L.length - (intOf i).toNat)
  case atStart => exact ⟨0, Nat.zero_le _, rfl, Lib.hid ⟨C, HS.out⟩⟩
  case round =>
    obtain ⟨k, hk, rfl, HP⟩ := hrel
    obtain ⟨C1, hP⟩ := HP.out
    obtain ⟨ao, co, c0, o0⟩ := hP.held.ex
    by_cases hlt : k < L.length
    · have hx : L[k]? = some L[k] := List.getElem?_eq_getElem hlt
      obtain ⟨go, co', hv, hrow, _⟩ := own_blkK o0 (by omega)
      obtain ⟨rfl, rfl⟩ : ao = some ⟨go, 0, none⟩ ∧ co = co' := by simpa using hv
      have r0 := (owns_cell o0 (k := k) (x := L[k].cell) (by rw [List.getElem?_map, hx]; rfl)).1
      have hsm := hP.held.small _ (List.getElem_mem hlt)
      generalize L[k] = x at *
      have r1 : wr.cell? ⟨go, k, none⟩ = some (.slice x.a x.l.length x.c) := r0
      have hi1 : (k : Int) < (L.length : Int) := by omega
      have hk1 : (k : Int) ≤ 1000 := by omega
      have hgo : go < wr.heap.size := (o0.lt go rfl).2
      have HQ := Lib.hid (And.intro hP (And.intro hx (And.intro hsm (And.intro hgo o0))))
      clear hP hx r0 hv hrow o0 HP
      go_wp2_with (go_at_call 72
                   refine (markEntries_is (k : Int) 0 x.l.length _ (by omega) hk1 (by decide) (by have := HQ.out.2.2.1; omega)).mono ?_
                   rintro e w2 ⟨vm, rfl, b2, o2⟩
                   obtain ⟨am, cm, rfl, l2, hform⟩ := own_formK o2
                   have H2 := Lib.hid (And.intro b2 (And.intro o2 (And.intro l2 hform)))
                   clear b2 o2 l2 hform)
      have hml : (marksEntries (k : Int) 0 x.l.length).length = x.l.length := by simp [marksEntries]
      generalize hme : marksEntries (k : Int) 0 x.l.length = md at *
      have HME := Lib.hid hme.symm
      clear hme
      have HI0 : Hid (∃ C', PuttingEntries w w2 base p L k C' ∧ (C' k).take 0 = md.take 0 ∧ LiesAt w2 am (flat Ent.cells md)) := Lib.hid ⟨C1, ⟨HQ.out.1.below.trans (H2.out.1.mono (Nat.le_trans hp (Nat.le_of_lt HQ.out.1.book.lt))), HQ.out.1.turn.trans (Turn.of_below H2.out.1 HQ.out.1.book.lt), book_of_block (H2.out.1.block p HQ.out.1.book.lt) HQ.out.1.book, HQ.out.1.held.below HQ.out.1.book H2.out.1, HQ.out.1.done⟩, by simp, H2.out.2.2.1⟩
      have hgx : ∀ g, x.cell.ownBlock = some g → ∀ b : Addr, am = some b → b.block ≠ g := fun g hg b hb => by
        have h1 := ((HQ.out.1.held.each k x HQ.out.2.1).lt g hg).2
        rcases H2.out.2.2.2 with e | ⟨g', e, h2, _⟩
        · rw [e] at hb; cases hb
        · rw [hb] at e
          obtain rfl : b = ⟨g', 0, none⟩ := by simpa using e
          show g' ≠ g
          omega
      have HG := Lib.hid hgx
      clear hgx c0 r1
      go_loopw [4] (fun i wx => ∃ j : Nat, j ≤ x.l.length ∧ i = .int .i64 (j : Int) ∧ Hid (∃ C', PuttingEntries w wx base p L k C' ∧ (C' k).take j = md.take j ∧ LiesAt wx am (flat Ent.cells md))) (fun i _ => x.l.length - (intOf i).toNat)
      case atStart => exact ⟨0, Nat.zero_le _, rfl, HI0⟩
      case round =>
        obtain ⟨j, hj, rfl, HJ⟩ := hrel
        obtain ⟨C2, hS, hpart, hmd⟩ := HJ.out
        by_cases hjl : j < x.l.length
        · obtain ⟨ao', co2, c0, o0⟩ := hS.held.ex
          obtain ⟨go', co', hv, _⟩ := own_blkK o0 (by omega)
          obtain ⟨rfl, rfl⟩ : ao' = some ⟨go', 0, none⟩ ∧ co2 = co' := by simpa using hv
          have r1 : wr.cell? ⟨go', k, none⟩ = some (.slice x.a x.l.length x.c) := (owns_cell o0 (k := k) (x := x.cell) (by rw [List.getElem?_map, HQ.out.2.1]; rfl)).1
          have ok := hS.held.each k x HQ.out.2.1
          have hlen : (C2 k).length = x.l.length := by have := ok.1; rw [flat_len Ent.len] at this; omega
          obtain ⟨g, cx, hxc, _⟩ := own_blkK ok (by omega)
          have hst := hS.held.store hS.book HQ.out.2.1 hxc j (by omega) (md[j]'(by omega))
          rw [hxc] at ok
          obtain ⟨y0, y1, y2, y3, y4, t0, q0, t1, q1, t2, q2, t3, q3, t4, q4⟩ := owns_there5 ok (show j < x.l.length by omega)
          obtain ⟨gm, om, hbm, hbl, hm1⟩ := hmd.elem Ent.len (by omega) (List.getElem?_eq_getElem (show j < md.length by omega))
          obtain rfl := hbm
          have hne := HG.out g (by rw [hxc]; rfl) ⟨gm, om, none⟩ rfl
          have hxa : x.a = some ⟨g, 0, none⟩ := by
            have e : x.a = some ⟨g, 0, none⟩ ∧ x.c = cx := by simpa [EL.cell] using hxc
            exact e.1
          rw [hxa] at r1
          have hmj : md[j]? = some (md[j]'(by omega)) := List.getElem?_eq_getElem _
          generalize md[j]'(by omega) = zv at *
          have m0 := hm1 0 _ rfl
          have m1 := hm1 1 _ rfl
          first | (have m2 := hm1 2 _ rfl) | skip
          first | (have m3 := hm1 3 _ rfl) | skip
          first | (have m4 := hm1 4 _ rfl) | skip
          rw [Nat.add_zero] at m0
          have hi2 : (j : Int) < (x.l.length : Int) := by omega
          have hgt := not_book hS.book (hS.held.each k x HQ.out.2.1) (by decide) (show x.cell.ownBlock = some g by rw [hxc]; rfl)
          have HN : Hid (∃ C', PuttingEntries w (wr.setCells g (j * 5) zv.cells) base p L k C' ∧ (C' k).take (j + 1) = md.take (j + 1) ∧ LiesAt (wr.setCells g (j * 5) zv.cells) (some ⟨gm, om, none⟩) (flat Ent.cells md)) := Lib.hid ⟨_, ⟨hS.below.trans hst.2.1, hS.turn.trans (Turn.stores _ hS.book hgt (by
            have hg0 : x.cell.ownBlock = some g := by rw [hxc]; rfl
            obtain ⟨cur, hh⟩ := own_type (HB.out.each k x HQ.out.2.1) hg0
            exact ⟨cur, _, hh⟩)), hst.2.2.1, hst.1, fun k' y hk' hy => by
              rw [if_neg (by omega)]
              exact hS.done k' y hk' hy⟩, by
              rw [if_pos rfl]
              exact take_set_next hpart (by omega) hmj, hmd.of_blocks (Nat.le_of_eq (size_sets _ _ _ _).symm) (fun b hb => heap_sets _ _ _ _ _ (by
                obtain rfl : ⟨gm, om, none⟩ = b := by simpa using hb
                exact hne))⟩
          clear hS hpart hmd ok hst hmj hne hbl hgt hlen o0 hv HJ HI0 hm1
          go_wp2_with fail
          go_region
          all_goals
            go_wp2
            obtain ⟨C', n1, n2, n3⟩ := HN.out
            exact ⟨⟨j + 1, by omega, by go_num, Lib.hid ⟨C', n1.next hp (Below.refl _ _).drew, n2, n3.below (Below.refl _ _).drew⟩⟩, by simp [intOf]; omega⟩
        · obtain rfl : j = x.l.length := by omega
          have hn : ¬ (x.l.length : Int) < (x.l.length : Int) := by omega
          have HN : Hid (∃ C', PuttingEntries w wr base p L (k + 1) C') := Lib.hid ⟨C2, ⟨hS.below, hS.turn, hS.book, hS.held, fun k' y hk' hy => by
            rcases Nat.lt_or_ge k' k with e | e
            · exact hS.done k' y e hy
            · obtain rfl : k' = k := by omega
              obtain rfl : x = y := by rw [HQ.out.2.1] at hy; simpa using hy
              have ok := hS.held.each k' x HQ.out.2.1
              have hlen : (C2 k').length = x.l.length := by have := ok.1; rw [flat_len Ent.len] at this; omega
              rw [List.take_of_length_le (by omega), List.take_of_length_le (by omega)] at hpart
              rw [hpart]
              exact HME.out⟩⟩
          clear hS hpart hmd HJ HI0 hjl hj
          go_wp2
          exact ⟨⟨k + 1, by omega, by go_num, HN⟩, by simp [intOf]; omega⟩
    · obtain rfl : k = L.length := by omega
      have hn : ¬ (L.length : Int) < (L.length : Int) := by omega
      clear hlt hk hP o0
      go_wp2
      exact bodyPost_end (results_none rfl _ _ _) rfl ⟨rfl, HP.out⟩
end Go.Proofs.Ytebeegfgghbdlaa.Bk
