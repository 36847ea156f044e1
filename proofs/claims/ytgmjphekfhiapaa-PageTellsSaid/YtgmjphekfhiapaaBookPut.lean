/- The book: all lists of a kind are marked (putTexts, putInts). -/
import Derived.Test.YtgmjphekfhiapaaBookAdd
namespace Go.Proofs.Ytgmjphekfhiapaa.Bk
open Go.RowKit

theorem take_set_next {α : Type} {l m : List α} {k : Nat} {x : α} (h : l.take k = m.take k) (hl : k < l.length) (hm : m[k]? = some x) : (l.set k x).take (k + 1) = m.take (k + 1) := by
  obtain ⟨hk, rfl⟩ := List.getElem?_eq_some_iff.1 hm
  rw [List.take_succ_eq_append_getElem (by simpa using hl), List.take_succ_eq_append_getElem hk]
  simp [List.take_set_of_le, h]

theorem own_blk {w : World} {base : Nat} {e : TypeId} {v : Value} {n : Nat} {xs : List Value} (h : w.ownsRow base e 1 v n xs) (hn : 0 < n) : ∃ (g c : Nat), v = .slice (some ⟨g, 0, none⟩) n c ∧ n ≤ c ∧ base ≤ g ∧ g < w.heap.size := by
  rcases h.2 with ⟨_, q⟩ | ⟨g, cap, cur, hv, hg, hh, hc, r⟩
  · omega
  · exact ⟨g, cap, hv, hc, hg, (h.lt g (by rw [hv]; rfl)).2⟩
theorem Turn.store {w : World} {p g j : Nat} {J R : Nat → Prop} (v : Value) (hb : BookB w p) (hg : g ≠ p) (hr : R g) : Turn w (w.setCell ⟨g, j, none⟩ v) p J R := by
  refine ⟨by simp, fun i _ _ hn => heap_setCell_other _ _ _ _ (fun e => hn (by rw [show i = g from e]; exact hr)), fun i _ => ?_, fun _ => book_of_block (heap_setCell_other _ _ _ _ (fun e => hg e.symm)) hb⟩
  rw [World.cell?_setCell_other]
  intro e
  exact hg (by simpa using congrArg Addr.block e)

theorem txts_len' (l : List ByteArray) : (txts l).length = l.length := by simp [txts]
theorem txts_set (l : List ByteArray) (k : Nat) (x : ByteArray) : (txts l).set k (Value.string x) = txts (l.set k x) := by simp [txts]
theorem txts_at (l : List ByteArray) (k : Nat) (h : k < l.length) : (txts l)[k]? = some (Value.string l[k]) := by simp [txts, h]
/-- The lists of a kind, whatever is in them now. -/
structure HeldTexts (w : World) (base p : Nat) (L : List TL) (C : Nat → List ByteArray) : Prop where
  ex : ∃ ao co, w.cell? ⟨p, 0, none⟩ = some (.slice ao L.length co) ∧ w.ownsRow base 34 1 (.slice ao L.length co) L.length (L.map TL.cell)
  each : ∀ (i : Nat) (x : TL), L[i]? = some x → w.ownsRow base 9 1 x.cell x.l.length (txts (C i))
  apart : ∀ (i j : Nat) (x y : TL), i ≠ j → L[i]? = some x → L[j]? = some y → ∀ g, x.cell.ownBlock = some g → y.cell.ownBlock ≠ some g
  small : ∀ x ∈ L, x.l.length ≤ 1000
theorem KeepTexts.held {w : World} {base p : Nat} {L M : List TL} (h : KeepTexts w base p L M) : HeldTexts w base p L (fun i => (L[i]?.map (·.l)).getD []) := by
  obtain ⟨vO, vM, c0, _, o0, _, _⟩ := h.ex
  obtain ⟨ao, co, rfl⟩ := owns_slice o0
  refine ⟨⟨ao, co, c0, o0⟩, fun i x hx => by rw [hx]; exact h.each x (List.mem_of_getElem? hx), fun i j x y hij hx hy => ?_, h.small⟩
  have hp := List.pairwise_iff_getElem.1 h.apart
  obtain ⟨hi, rfl⟩ := List.getElem?_eq_some_iff.1 hx
  obtain ⟨hj, rfl⟩ := List.getElem?_eq_some_iff.1 hy
  rcases Nat.lt_or_gt_of_ne hij with q | q
  · exact hp i j hi hj q
  · exact fun g e1 e2 => hp j i hj hi q g e2 e1
theorem HeldTexts.below {w w' : World} {base p : Nat} {L : List TL} {C : Nat → List ByteArray} (h : HeldTexts w base p L C) (hb : BookB w p) (b : Below w.heap.size w w') : HeldTexts w' base p L C := by
  obtain ⟨ao, co, c0, o0⟩ := h.ex
  have t : Turn w w' p (fun _ => False) (fun _ => False) := Turn.of_below b hb.lt
  exact ⟨⟨ao, co, by rw [t.cell _ id]; exact c0, own_below o0 b⟩, fun i x hx => own_below (h.each i x hx) b, h.apart, h.small⟩
theorem HeldTexts.other {w w' : World} {base p : Nat} {L : List TL} {C : Nat → List ByteArray} (h : HeldTexts w base p L C) (hb : BookB w p) {J : Nat → Prop} {T : TypeId} (t : Turn w w' p J (OfType w T)) (hJ : ¬ J 0) (h1 : 9 ≠ T) (h2 : 34 ≠ T) : HeldTexts w' base p L C := by
  obtain ⟨ao, co, c0, o0⟩ := h.ex
  exact ⟨⟨ao, co, by rw [t.cell _ hJ]; exact c0, owns_typed o0 hb t h2 (by decide)⟩, fun i x hx => owns_typed (h.each i x hx) hb t h1 (by decide), h.apart, h.small⟩
/-- A store into one of them. -/
theorem HeldTexts.store {w : World} {base p : Nat} {L : List TL} {C : Nat → List ByteArray} (h : HeldTexts w base p L C) (hb : BookB w p) {k : Nat} {x : TL} (hk : L[k]? = some x) {g c : Nat} (hx : x.cell = .slice (some ⟨g, 0, none⟩) x.l.length c) (j : Nat) (v : ByteArray) :
    HeldTexts (w.setCell ⟨g, j, none⟩ (Value.string v)) base p L (fun i => if i = k then (C k).set j v else C i) ∧ Below base w (w.setCell ⟨g, j, none⟩ (Value.string v)) ∧ BookB (w.setCell ⟨g, j, none⟩ (Value.string v)) p ∧ g ≠ p ∧ g < w.heap.size := by
  have ok := h.each k x hk
  have hg : x.cell.ownBlock = some g := by rw [hx]; rfl
  have hgp := not_book hb ok (by decide) hg
  obtain ⟨ao, co, c0, o0⟩ := h.ex
  refine ⟨⟨⟨ao, co, ?_, owns_other o0 (fun e => ?_) _⟩, fun i y hy => ?_, h.apart, h.small⟩, (Below.refl _ _).setCell (p := ⟨g, j, none⟩) (ok.lt g hg).1 _, book_of_block (heap_setCell_other _ _ _ _ (fun e => hgp e.symm)) hb, hgp, (ok.lt g hg).2⟩
  · rw [World.cell?_setCell_other]
    · exact c0
    · intro e
      exact hgp (by simpa using congrArg Addr.block e)
  · obtain ⟨cur, hh⟩ := own_type o0 e
    exact not_type ok (show 9 ≠ 34 by decide) hg ⟨cur, _, hh⟩
  · by_cases hi : i = k
    · subst hi
      obtain rfl : x = y := by rw [hk] at hy; simpa using hy
      rw [if_pos rfl, ← txts_set]
      rw [hx] at ok ⊢
      exact owns_set ok j _
    · rw [if_neg hi]
      exact owns_other (h.each i y hy) (fun e => h.apart i k y x hi hy hk g e hg) _

/-- So far lists are marked. -/
structure PuttingTexts (w wr : World) (base p : Nat) (L : List TL) (k : Nat) (C : Nat → List ByteArray) : Prop where
  below : Below base w wr
  turn : Turn w wr p (fun _ => False) (OfType w 9)
  book : BookB wr p
  held : HeldTexts wr base p L C
  done : ∀ (k' : Nat) (x : TL), k' < k → L[k']? = some x → C k' = marksT k' 0 x.l.length

theorem PuttingTexts.next {w wr wx : World} {base p : Nat} {L : List TL} {k : Nat} {C : Nat → List ByteArray} (h : PuttingTexts w wr base p L k C) (hp : base ≤ p) (b : Below wr.heap.size wr wx) : PuttingTexts w wx base p L k C :=
  ⟨h.below.trans (b.mono (Nat.le_trans hp (Nat.le_of_lt h.book.lt))), h.turn.trans (Turn.of_below b h.book.lt), book_of_block (b.block p h.book.lt) h.book, h.held.below h.book b, h.done⟩
set_option maxRecDepth 100000 in
set_option maxHeartbeats 2000000 in
theorem putTexts_is (base p : Nat) (L : List TL) (C : Nat → List ByteArray) (w : World) (hb : BookB w p) (hp : base ≤ p) (h : HeldTexts w base p L C) (hL : L.length ≤ 100) :
    Calls Try.prog 43 #[.pointer (some ⟨p, 0, none⟩)] w fun e w' => e = .returned (.tuple #[]) ∧ ∃ C', PuttingTexts w w' base p L L.length C' := by
  have HS : Hid (PuttingTexts w w base p L 0 C) := Lib.hid ⟨Below.refl _ _, Turn.refl _ _ _ _, hb, h, fun _ _ q => absurd q (Nat.not_lt_zero _)⟩
  have HB := Lib.hid h
  have hLi : (L.length : Int) ≤ 100 := by omega
  clear h hb
  go_enter Try.func43, Try.ntmps43
  go_wp2
  go_loopw [2] (fun i wr => ∃ k : Nat, k ≤ L.length ∧ i = .int .i64 (k : Int) ∧ Hid (∃ C', PuttingTexts w wr base p L k C')) (fun i _ => L.length - (intOf i).toNat)
  case atStart => exact ⟨0, Nat.zero_le _, rfl, Lib.hid ⟨C, HS.out⟩⟩
  case round =>
    obtain ⟨k, hk, rfl, HP⟩ := hrel
    obtain ⟨C1, hP⟩ := HP.out
    obtain ⟨ao, co, c0, o0⟩ := hP.held.ex
    by_cases hlt : k < L.length
    · have hx : L[k]? = some L[k] := List.getElem?_eq_getElem hlt
      obtain ⟨go, co', hv, hrow, _⟩ := own_blk o0 (by omega)
      obtain ⟨rfl, rfl⟩ : ao = some ⟨go, 0, none⟩ ∧ co = co' := by simpa using hv
      have r0 := (owns_cell o0 (k := k) (x := L[k].cell) (by rw [List.getElem?_map, hx]; rfl)).1
      have hsm := hP.held.small _ (List.getElem_mem hlt)
      generalize L[k] = x at *
      have r1 : wr.cell? ⟨go, k, none⟩ = some (.slice x.a x.l.length x.c) := r0
      have hi1 : (k : Int) < (L.length : Int) := by omega
      have hk1 : (k : Int) ≤ 1000 := by omega
      have hgo : go < wr.heap.size := (o0.lt go rfl).2
      have HQ := Lib.hid (And.intro hP (And.intro hx (And.intro hsm (And.intro hgo o0))))
      clear hP hx r0 hv hrow o0 HP
      go_wp2_with (go_at_call 75
                   refine (markTexts_is k 0 x.l.length _ hk1 (by decide) (by have := HQ.out.2.2.1; omega)).mono ?_
                   rintro e w2 ⟨vm, rfl, b2, o2⟩
                   obtain ⟨am, cm, rfl, l2, hform⟩ := own_form o2
                   have H2 := Lib.hid (And.intro b2 (And.intro o2 (And.intro l2 hform)))
                   clear b2 o2 l2 hform)
      have hml : (marksT k 0 x.l.length).length = x.l.length := by simp [marksT]
      generalize hme : marksT k 0 x.l.length = md at *
      have HME := Lib.hid hme.symm
      clear hme
      have HI0 : Hid (∃ C', PuttingTexts w w2 base p L k C' ∧ (C' k).take 0 = md.take 0 ∧ LiesAt w2 am (txts md)) := Lib.hid ⟨C1, ⟨HQ.out.1.below.trans (H2.out.1.mono (Nat.le_trans hp (Nat.le_of_lt HQ.out.1.book.lt))), HQ.out.1.turn.trans (Turn.of_below H2.out.1 HQ.out.1.book.lt), book_of_block (H2.out.1.block p HQ.out.1.book.lt) HQ.out.1.book, HQ.out.1.held.below HQ.out.1.book H2.out.1, HQ.out.1.done⟩, by simp, H2.out.2.2.1⟩
      have hgx : ∀ g, x.cell.ownBlock = some g → ∀ b : Addr, am = some b → b.block ≠ g := fun g hg b hb => by
        have h1 := ((HQ.out.1.held.each k x HQ.out.2.1).lt g hg).2
        rcases H2.out.2.2.2 with e | ⟨g', e, h2, _⟩
        · rw [e] at hb; cases hb
        · rw [hb] at e
          obtain rfl : b = ⟨g', 0, none⟩ := by simpa using e
          show g' ≠ g
          omega
      have HG := Lib.hid hgx
      clear hgx c0 r1
      go_loopw [4] (fun i wx => ∃ j : Nat, j ≤ x.l.length ∧ i = .int .i64 (j : Int) ∧ Hid (∃ C', PuttingTexts w wx base p L k C' ∧ (C' k).take j = md.take j ∧ LiesAt wx am (txts md))) (fun i _ => x.l.length - (intOf i).toNat)
      case atStart => exact ⟨0, Nat.zero_le _, rfl, HI0⟩
      case round =>
        obtain ⟨j, hj, rfl, HJ⟩ := hrel
        obtain ⟨C2, hS, hpart, hmd⟩ := HJ.out
        by_cases hjl : j < x.l.length
        · obtain ⟨ao', co2, c0, o0⟩ := hS.held.ex
          obtain ⟨go', co', hv, _⟩ := own_blk o0 (by omega)
          obtain ⟨rfl, rfl⟩ : ao' = some ⟨go', 0, none⟩ ∧ co2 = co' := by simpa using hv
          have r1 : wr.cell? ⟨go', k, none⟩ = some (.slice x.a x.l.length x.c) := (owns_cell o0 (k := k) (x := x.cell) (by rw [List.getElem?_map, HQ.out.2.1]; rfl)).1
          have ok := hS.held.each k x HQ.out.2.1
          have hlen : (C2 k).length = x.l.length := by have := ok.1; rw [txts_len'] at this; omega
          obtain ⟨g, cx, hxc, _⟩ := own_blk ok (by omega)
          have hst := hS.held.store hS.book HQ.out.2.1 hxc j (md[j]'(by omega))
          rw [hxc] at ok
          obtain ⟨t1, t2⟩ := owns_cell ok (txts_at (C2 k) j (by omega))
          obtain ⟨bm, hbm, hbl, hm1⟩ := hmd.at_ (txts_at md j (by omega))
          obtain rfl := hbm
          have hne := HG.out g (by rw [hxc]; rfl) bm rfl
          have hxa : x.a = some ⟨g, 0, none⟩ := by
            have e : x.a = some ⟨g, 0, none⟩ ∧ x.c = cx := by simpa [TL.cell] using hxc
            exact e.1
          rw [hxa] at r1
          have hmj : md[j]? = some (md[j]'(by omega)) := List.getElem?_eq_getElem _
          generalize md[j]'(by omega) = zv at *
          have hi2 : (j : Int) < (x.l.length : Int) := by omega
          have hgt := not_book hS.book (hS.held.each k x HQ.out.2.1) (by decide) (show x.cell.ownBlock = some g by rw [hxc]; rfl)
          have HN : Hid (∃ C', PuttingTexts w (wr.setCell ⟨g, j, none⟩ (Value.string zv)) base p L k C' ∧ (C' k).take (j + 1) = md.take (j + 1) ∧ LiesAt (wr.setCell ⟨g, j, none⟩ (Value.string zv)) (some bm) (txts md)) := Lib.hid ⟨_, ⟨hS.below.trans hst.2.1, hS.turn.trans (Turn.store _ hS.book hgt (by
            have hg0 : x.cell.ownBlock = some g := by rw [hxc]; rfl
            obtain ⟨cur, hh⟩ := own_type (HB.out.each k x HQ.out.2.1) hg0
            exact ⟨cur, _, hh⟩)), hst.2.2.1, hst.1, fun k' y hk' hy => by
              rw [if_neg (by omega)]
              exact hS.done k' y hk' hy⟩, by
              rw [if_pos rfl]
              exact take_set_next hpart (by omega) hmj, lies_other hmd (fun b hb => by
                obtain rfl : bm = b := by simpa using hb
                exact hne) _⟩
          generalize (C2 k)[j]'(by omega) = old at t1
          clear hS hpart hmd ok hst hmj hne hbl hgt hlen o0 hv HJ HI0
          go_wp2_with fail
          go_region
          all_goals
            go_wp2
            obtain ⟨C', n1, n2, n3⟩ := HN.out
            exact ⟨⟨j + 1, by omega, by go_num, Lib.hid ⟨C', n1.next hp (Below.refl _ _).drew, n2, n3.below (Below.refl _ _).drew⟩⟩, by simp [intOf]; omega⟩
        · obtain rfl : j = x.l.length := by omega
          have hn : ¬ (x.l.length : Int) < (x.l.length : Int) := by omega
          have HN : Hid (∃ C', PuttingTexts w wr base p L (k + 1) C') := Lib.hid ⟨C2, ⟨hS.below, hS.turn, hS.book, hS.held, fun k' y hk' hy => by
            rcases Nat.lt_or_ge k' k with e | e
            · exact hS.done k' y e hy
            · obtain rfl : k' = k := by omega
              obtain rfl : x = y := by rw [HQ.out.2.1] at hy; simpa using hy
              have ok := hS.held.each k' x HQ.out.2.1
              have hlen : (C2 k').length = x.l.length := by have := ok.1; rw [txts_len'] at this; omega
              rw [List.take_of_length_le (by omega), List.take_of_length_le (by omega)] at hpart
              rw [hpart]
              exact HME.out⟩⟩
          clear hS hpart hmd HJ HI0 hjl hj
          go_wp2
          exact ⟨⟨k + 1, by omega, by go_num, HN⟩, by simp [intOf]; omega⟩
    · obtain rfl : k = L.length := by omega
      have hn : ¬ (L.length : Int) < (L.length : Int) := by omega
      clear hlt hk hP o0
      go_wp2
      exact bodyPost_end (results_none rfl _ _ _) rfl ⟨rfl, HP.out⟩
theorem vals_len' (l : List Int) : (vals l).length = l.length := by simp [vals]
theorem vals_set (l : List Int) (k : Nat) (x : Int) : (vals l).set k (Value.int .i64 x) = vals (l.set k x) := by simp [vals]
theorem vals_at (l : List Int) (k : Nat) (h : k < l.length) : (vals l)[k]? = some (Value.int .i64 l[k]) := by simp [vals, h]
/-- The lists of a kind, whatever is in them now. -/
structure HeldInts (w : World) (base p : Nat) (L : List IL) (C : Nat → List Int) : Prop where
  ex : ∃ ao co, w.cell? ⟨p, 2, none⟩ = some (.slice ao L.length co) ∧ w.ownsRow base 22 1 (.slice ao L.length co) L.length (L.map IL.cell)
  each : ∀ (i : Nat) (x : IL), L[i]? = some x → w.ownsRow base 3 1 x.cell x.l.length (vals (C i))
  apart : ∀ (i j : Nat) (x y : IL), i ≠ j → L[i]? = some x → L[j]? = some y → ∀ g, x.cell.ownBlock = some g → y.cell.ownBlock ≠ some g
  small : ∀ x ∈ L, x.l.length ≤ 1000
theorem KeepInts.held {w : World} {base p : Nat} {L M : List IL} (h : KeepInts w base p L M) : HeldInts w base p L (fun i => (L[i]?.map (·.l)).getD []) := by
  obtain ⟨vO, vM, c0, _, o0, _, _⟩ := h.ex
  obtain ⟨ao, co, rfl⟩ := owns_slice o0
  refine ⟨⟨ao, co, c0, o0⟩, fun i x hx => by rw [hx]; exact h.each x (List.mem_of_getElem? hx), fun i j x y hij hx hy => ?_, h.small⟩
  have hp := List.pairwise_iff_getElem.1 h.apart
  obtain ⟨hi, rfl⟩ := List.getElem?_eq_some_iff.1 hx
  obtain ⟨hj, rfl⟩ := List.getElem?_eq_some_iff.1 hy
  rcases Nat.lt_or_gt_of_ne hij with q | q
  · exact hp i j hi hj q
  · exact fun g e1 e2 => hp j i hj hi q g e2 e1
theorem HeldInts.below {w w' : World} {base p : Nat} {L : List IL} {C : Nat → List Int} (h : HeldInts w base p L C) (hb : BookB w p) (b : Below w.heap.size w w') : HeldInts w' base p L C := by
  obtain ⟨ao, co, c0, o0⟩ := h.ex
  have t : Turn w w' p (fun _ => False) (fun _ => False) := Turn.of_below b hb.lt
  exact ⟨⟨ao, co, by rw [t.cell _ id]; exact c0, own_below o0 b⟩, fun i x hx => own_below (h.each i x hx) b, h.apart, h.small⟩
theorem HeldInts.other {w w' : World} {base p : Nat} {L : List IL} {C : Nat → List Int} (h : HeldInts w base p L C) (hb : BookB w p) {J : Nat → Prop} {T : TypeId} (t : Turn w w' p J (OfType w T)) (hJ : ¬ J 2) (h1 : 3 ≠ T) (h2 : 22 ≠ T) : HeldInts w' base p L C := by
  obtain ⟨ao, co, c0, o0⟩ := h.ex
  exact ⟨⟨ao, co, by rw [t.cell _ hJ]; exact c0, owns_typed o0 hb t h2 (by decide)⟩, fun i x hx => owns_typed (h.each i x hx) hb t h1 (by decide), h.apart, h.small⟩
/-- A store into one of them. -/
theorem HeldInts.store {w : World} {base p : Nat} {L : List IL} {C : Nat → List Int} (h : HeldInts w base p L C) (hb : BookB w p) {k : Nat} {x : IL} (hk : L[k]? = some x) {g c : Nat} (hx : x.cell = .slice (some ⟨g, 0, none⟩) x.l.length c) (j : Nat) (v : Int) :
    HeldInts (w.setCell ⟨g, j, none⟩ (Value.int .i64 v)) base p L (fun i => if i = k then (C k).set j v else C i) ∧ Below base w (w.setCell ⟨g, j, none⟩ (Value.int .i64 v)) ∧ BookB (w.setCell ⟨g, j, none⟩ (Value.int .i64 v)) p ∧ g ≠ p ∧ g < w.heap.size := by
  have ok := h.each k x hk
  have hg : x.cell.ownBlock = some g := by rw [hx]; rfl
  have hgp := not_book hb ok (by decide) hg
  obtain ⟨ao, co, c0, o0⟩ := h.ex
  refine ⟨⟨⟨ao, co, ?_, owns_other o0 (fun e => ?_) _⟩, fun i y hy => ?_, h.apart, h.small⟩, (Below.refl _ _).setCell (p := ⟨g, j, none⟩) (ok.lt g hg).1 _, book_of_block (heap_setCell_other _ _ _ _ (fun e => hgp e.symm)) hb, hgp, (ok.lt g hg).2⟩
  · rw [World.cell?_setCell_other]
    · exact c0
    · intro e
      exact hgp (by simpa using congrArg Addr.block e)
  · obtain ⟨cur, hh⟩ := own_type o0 e
    exact not_type ok (show 3 ≠ 22 by decide) hg ⟨cur, _, hh⟩
  · by_cases hi : i = k
    · subst hi
      obtain rfl : x = y := by rw [hk] at hy; simpa using hy
      rw [if_pos rfl, ← vals_set]
      rw [hx] at ok ⊢
      exact owns_set ok j _
    · rw [if_neg hi]
      exact owns_other (h.each i y hy) (fun e => h.apart i k y x hi hy hk g e hg) _

/-- So far lists are marked. -/
structure PuttingInts (w wr : World) (base p : Nat) (L : List IL) (k : Nat) (C : Nat → List Int) : Prop where
  below : Below base w wr
  turn : Turn w wr p (fun _ => False) (OfType w 3)
  book : BookB wr p
  held : HeldInts wr base p L C
  done : ∀ (k' : Nat) (x : IL), k' < k → L[k']? = some x → C k' = marksI (k' : Int) 0 x.l.length

theorem PuttingInts.next {w wr wx : World} {base p : Nat} {L : List IL} {k : Nat} {C : Nat → List Int} (h : PuttingInts w wr base p L k C) (hp : base ≤ p) (b : Below wr.heap.size wr wx) : PuttingInts w wx base p L k C :=
  ⟨h.below.trans (b.mono (Nat.le_trans hp (Nat.le_of_lt h.book.lt))), h.turn.trans (Turn.of_below b h.book.lt), book_of_block (b.block p h.book.lt) h.book, h.held.below h.book b, h.done⟩
set_option maxRecDepth 100000 in
set_option maxHeartbeats 2000000 in
theorem putInts_is (base p : Nat) (L : List IL) (C : Nat → List Int) (w : World) (hb : BookB w p) (hp : base ≤ p) (h : HeldInts w base p L C) (hL : L.length ≤ 100) :
    Calls Try.prog 44 #[.pointer (some ⟨p, 0, none⟩)] w fun e w' => e = .returned (.tuple #[]) ∧ ∃ C', PuttingInts w w' base p L L.length C' := by
  have HS : Hid (PuttingInts w w base p L 0 C) := Lib.hid ⟨Below.refl _ _, Turn.refl _ _ _ _, hb, h, fun _ _ q => absurd q (Nat.not_lt_zero _)⟩
  have HB := Lib.hid h
  have hLi : (L.length : Int) ≤ 100 := by omega
  clear h hb
  go_enter Try.func44, Try.ntmps44
  go_wp2
  go_loopw [2] (fun i wr => ∃ k : Nat, k ≤ L.length ∧ i = .int .i64 (k : Int) ∧ Hid (∃ C', PuttingInts w wr base p L k C')) (fun i _ => L.length - (intOf i).toNat)
  case atStart => exact ⟨0, Nat.zero_le _, rfl, Lib.hid ⟨C, HS.out⟩⟩
  case round =>
    obtain ⟨k, hk, rfl, HP⟩ := hrel
    obtain ⟨C1, hP⟩ := HP.out
    obtain ⟨ao, co, c0, o0⟩ := hP.held.ex
    by_cases hlt : k < L.length
    · have hx : L[k]? = some L[k] := List.getElem?_eq_getElem hlt
      obtain ⟨go, co', hv, hrow, _⟩ := own_blk o0 (by omega)
      obtain ⟨rfl, rfl⟩ : ao = some ⟨go, 0, none⟩ ∧ co = co' := by simpa using hv
      have r0 := (owns_cell o0 (k := k) (x := L[k].cell) (by rw [List.getElem?_map, hx]; rfl)).1
      have hsm := hP.held.small _ (List.getElem_mem hlt)
      generalize L[k] = x at *
      have r1 : wr.cell? ⟨go, k, none⟩ = some (.slice x.a x.l.length x.c) := r0
      have hi1 : (k : Int) < (L.length : Int) := by omega
      have hk1 : (k : Int) ≤ 1000 := by omega
      have hgo : go < wr.heap.size := (o0.lt go rfl).2
      have HQ := Lib.hid (And.intro hP (And.intro hx (And.intro hsm (And.intro hgo o0))))
      clear hP hx r0 hv hrow o0 HP
      go_wp2_with (go_at_call 76
                   refine (markInts_is (k : Int) 0 x.l.length _ (by omega) hk1 (by decide) (by have := HQ.out.2.2.1; omega)).mono ?_
                   rintro e w2 ⟨vm, rfl, b2, o2⟩
                   obtain ⟨am, cm, rfl, l2, hform⟩ := own_form o2
                   have H2 := Lib.hid (And.intro b2 (And.intro o2 (And.intro l2 hform)))
                   clear b2 o2 l2 hform)
      have hml : (marksI (k : Int) 0 x.l.length).length = x.l.length := by simp [marksI]
      generalize hme : marksI (k : Int) 0 x.l.length = md at *
      have HME := Lib.hid hme.symm
      clear hme
      have HI0 : Hid (∃ C', PuttingInts w w2 base p L k C' ∧ (C' k).take 0 = md.take 0 ∧ LiesAt w2 am (vals md)) := Lib.hid ⟨C1, ⟨HQ.out.1.below.trans (H2.out.1.mono (Nat.le_trans hp (Nat.le_of_lt HQ.out.1.book.lt))), HQ.out.1.turn.trans (Turn.of_below H2.out.1 HQ.out.1.book.lt), book_of_block (H2.out.1.block p HQ.out.1.book.lt) HQ.out.1.book, HQ.out.1.held.below HQ.out.1.book H2.out.1, HQ.out.1.done⟩, by simp, H2.out.2.2.1⟩
      have hgx : ∀ g, x.cell.ownBlock = some g → ∀ b : Addr, am = some b → b.block ≠ g := fun g hg b hb => by
        have h1 := ((HQ.out.1.held.each k x HQ.out.2.1).lt g hg).2
        rcases H2.out.2.2.2 with e | ⟨g', e, h2, _⟩
        · rw [e] at hb; cases hb
        · rw [hb] at e
          obtain rfl : b = ⟨g', 0, none⟩ := by simpa using e
          show g' ≠ g
          omega
      have HG := Lib.hid hgx
      clear hgx c0 r1
      go_loopw [4] (fun i wx => ∃ j : Nat, j ≤ x.l.length ∧ i = .int .i64 (j : Int) ∧ Hid (∃ C', PuttingInts w wx base p L k C' ∧ (C' k).take j = md.take j ∧ LiesAt wx am (vals md))) (fun i _ => x.l.length - (intOf i).toNat)
      case atStart => exact ⟨0, Nat.zero_le _, rfl, HI0⟩
      case round =>
        obtain ⟨j, hj, rfl, HJ⟩ := hrel
        obtain ⟨C2, hS, hpart, hmd⟩ := HJ.out
        by_cases hjl : j < x.l.length
        · obtain ⟨ao', co2, c0, o0⟩ := hS.held.ex
          obtain ⟨go', co', hv, _⟩ := own_blk o0 (by omega)
          obtain ⟨rfl, rfl⟩ : ao' = some ⟨go', 0, none⟩ ∧ co2 = co' := by simpa using hv
          have r1 : wr.cell? ⟨go', k, none⟩ = some (.slice x.a x.l.length x.c) := (owns_cell o0 (k := k) (x := x.cell) (by rw [List.getElem?_map, HQ.out.2.1]; rfl)).1
          have ok := hS.held.each k x HQ.out.2.1
          have hlen : (C2 k).length = x.l.length := by have := ok.1; rw [vals_len'] at this; omega
          obtain ⟨g, cx, hxc, _⟩ := own_blk ok (by omega)
          have hst := hS.held.store hS.book HQ.out.2.1 hxc j (md[j]'(by omega))
          rw [hxc] at ok
          obtain ⟨t1, t2⟩ := owns_cell ok (vals_at (C2 k) j (by omega))
          obtain ⟨bm, hbm, hbl, hm1⟩ := hmd.at_ (vals_at md j (by omega))
          obtain rfl := hbm
          have hne := HG.out g (by rw [hxc]; rfl) bm rfl
          have hxa : x.a = some ⟨g, 0, none⟩ := by
            have e : x.a = some ⟨g, 0, none⟩ ∧ x.c = cx := by simpa [IL.cell] using hxc
            exact e.1
          rw [hxa] at r1
          have hmj : md[j]? = some (md[j]'(by omega)) := List.getElem?_eq_getElem _
          generalize md[j]'(by omega) = zv at *
          have hi2 : (j : Int) < (x.l.length : Int) := by omega
          have hgt := not_book hS.book (hS.held.each k x HQ.out.2.1) (by decide) (show x.cell.ownBlock = some g by rw [hxc]; rfl)
          have HN : Hid (∃ C', PuttingInts w (wr.setCell ⟨g, j, none⟩ (Value.int .i64 zv)) base p L k C' ∧ (C' k).take (j + 1) = md.take (j + 1) ∧ LiesAt (wr.setCell ⟨g, j, none⟩ (Value.int .i64 zv)) (some bm) (vals md)) := Lib.hid ⟨_, ⟨hS.below.trans hst.2.1, hS.turn.trans (Turn.store _ hS.book hgt (by
            have hg0 : x.cell.ownBlock = some g := by rw [hxc]; rfl
            obtain ⟨cur, hh⟩ := own_type (HB.out.each k x HQ.out.2.1) hg0
            exact ⟨cur, _, hh⟩)), hst.2.2.1, hst.1, fun k' y hk' hy => by
              rw [if_neg (by omega)]
              exact hS.done k' y hk' hy⟩, by
              rw [if_pos rfl]
              exact take_set_next hpart (by omega) hmj, lies_other hmd (fun b hb => by
                obtain rfl : bm = b := by simpa using hb
                exact hne) _⟩
          generalize (C2 k)[j]'(by omega) = old at t1
          clear hS hpart hmd ok hst hmj hne hbl hgt hlen o0 hv HJ HI0
          go_wp2_with fail
          go_region
          all_goals
            go_wp2
            obtain ⟨C', n1, n2, n3⟩ := HN.out
            exact ⟨⟨j + 1, by omega, by go_num, Lib.hid ⟨C', n1.next hp (Below.refl _ _).drew, n2, n3.below (Below.refl _ _).drew⟩⟩, by simp [intOf]; omega⟩
        · obtain rfl : j = x.l.length := by omega
          have hn : ¬ (x.l.length : Int) < (x.l.length : Int) := by omega
          have HN : Hid (∃ C', PuttingInts w wr base p L (k + 1) C') := Lib.hid ⟨C2, ⟨hS.below, hS.turn, hS.book, hS.held, fun k' y hk' hy => by
            rcases Nat.lt_or_ge k' k with e | e
            · exact hS.done k' y e hy
            · obtain rfl : k' = k := by omega
              obtain rfl : x = y := by rw [HQ.out.2.1] at hy; simpa using hy
              have ok := hS.held.each k' x HQ.out.2.1
              have hlen : (C2 k').length = x.l.length := by have := ok.1; rw [vals_len'] at this; omega
              rw [List.take_of_length_le (by omega), List.take_of_length_le (by omega)] at hpart
              rw [hpart]
              exact HME.out⟩⟩
          clear hS hpart hmd HJ HI0 hjl hj
          go_wp2
          exact ⟨⟨k + 1, by omega, by go_num, HN⟩, by simp [intOf]; omega⟩
    · obtain rfl : k = L.length := by omega
      have hn : ¬ (L.length : Int) < (L.length : Int) := by omega
      clear hlt hk hP o0
      go_wp2
      exact bodyPost_end (results_none rfl _ _ _) rfl ⟨rfl, HP.out⟩
end Go.Proofs.Ytgmjphekfhiapaa.Bk
