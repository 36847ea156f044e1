/- The book: Apart, where texts and numbers alone were kept. -/
import Derived.Test.YtgmjphekfhiapaaBookFin
namespace Go.Proofs.Ytgmjphekfhiapaa.Bk
open Go.RowKit

structure Nils (w : World) (p : Nat) : Prop where
  c4 : w.cell? ⟨p, 4, none⟩ = some (.slice none 0 0)
  c6 : w.cell? ⟨p, 6, none⟩ = some (.slice none 0 0)
  c8 : w.cell? ⟨p, 8, none⟩ = some (.slice none 0 0)
  c10 : w.cell? ⟨p, 10, none⟩ = some (.slice none 0 0)
theorem Nils.turn {w w' : World} {p : Nat} {J R : Nat → Prop} (h : Nils w p) (t : Turn w w' p J R) (hJ : ∀ j, 4 ≤ j → ¬ J j) : Nils w' p :=
  ⟨(t.cell 4 (hJ _ (by omega))).trans h.c4, (t.cell 6 (hJ _ (by omega))).trans h.c6, (t.cell 8 (hJ _ (by omega))).trans h.c8, (t.cell 10 (hJ _ (by omega))).trans h.c10⟩
/-- The book, with the lists that were kept. -/
structure Book2 (w0 w : World) (base p : Nat) (LT MT : List TL) (LI MI : List IL) : Prop where
  below : Below base w0 w
  hp : base ≤ p
  book : BookB w p
  kT : KeepTexts w base p LT MT
  kI : KeepInts w base p LI MI
  nils : Nils w p
theorem Book2.next {w0 w w' : World} {base p : Nat} {LT MT : List TL} {LI MI : List IL} (h : Book2 w0 w base p LT MT LI MI) (b : Below w.heap.size w w') : Book2 w0 w' base p LT MT LI MI :=
  ⟨h.below.trans (b.mono (Nat.le_trans h.hp (Nat.le_of_lt h.book.lt))), h.hp, book_of_block (b.block p h.book.lt) h.book, h.kT.below h.book b, h.kI.below h.book b, h.nils.turn (Turn.of_below (J := fun _ => False) (R := fun _ => False) b h.book.lt) (fun _ _ => id)⟩
/-- Behind the marks of the texts; of the numbers. -/
structure Book3 (w0 w : World) (base p : Nat) (LT : List TL) (CT : Nat → List ByteArray) (LI : List IL) (CI : Nat → List Int) : Prop where
  below : Below base w0 w
  hp : base ≤ p
  book : BookB w p
  hT : HeldTexts w base p LT CT
  hI : HeldInts w base p LI CI
  nils : Nils w p
theorem Book2.putT {w0 w w' : World} {base p : Nat} {LT MT : List TL} {LI MI : List IL} {C : Nat → List ByteArray} (h : Book2 w0 w base p LT MT LI MI) (k : PuttingTexts w w' base p LT LT.length C) :
    Book3 w0 w' base p LT C LI (fun i => (LI[i]?.map (·.l)).getD []) :=
  ⟨h.below.trans k.below, h.hp, k.book, k.held, h.kI.held.other h.book k.turn id (by decide) (by decide), h.nils.turn k.turn (fun _ _ => id)⟩
theorem Book3.putI {w0 w w' : World} {base p : Nat} {LT : List TL} {CT : Nat → List ByteArray} {LI : List IL} {CI C : Nat → List Int} (h : Book3 w0 w base p LT CT LI CI) (k : PuttingInts w w' base p LI LI.length C) : Book3 w0 w' base p LT CT LI C :=
  ⟨h.below.trans k.below, h.hp, k.book, h.hT.other h.book k.turn id (by decide) (by decide), k.held, h.nils.turn k.turn (fun _ _ => id)⟩
theorem Book3.growT {w0 w w' : World} {base p N : Nat} {LT Lo : List TL} {CT : Nat → List ByteArray} {LI : List IL} {CI : Nat → List Int} {vo : Value} (h : Book3 w0 w base p LT CT LI CI) (k : GrowTexts w w' base p LT CT N Lo vo) : Book3 w0 w' base p LT CT LI CI :=
  ⟨h.below.trans k.below, h.hp, k.book, k.held, h.hI.other h.book k.turn id (by decide) (by decide), h.nils.turn k.turn (fun _ _ => id)⟩
theorem Book3.growI {w0 w w' : World} {base p N : Nat} {LT : List TL} {CT : Nat → List ByteArray} {LI Lo : List IL} {CI : Nat → List Int} {vo : Value} (h : Book3 w0 w base p LT CT LI CI) (k : GrowInts w w' base p LI CI N Lo vo) : Book3 w0 w' base p LT CT LI CI :=
  ⟨h.below.trans k.below, h.hp, k.book, h.hT.other h.book k.turn id (by decide) (by decide), k.held, h.nils.turn k.turn (fun _ _ => id)⟩
/-- At the end: the book, all lists marked. -/
structure Book4 (w0 w : World) (base p : Nat) (vT vI : Value) : Prop where
  below : Below base w0 w
  hp : base ≤ p
  book : BookB w p
  fT : FinTexts w p vT
  fI : FinInts w p vI
  nils : Nils w p
theorem Book4.next {w0 w w' : World} {base p : Nat} {vT vI : Value} (h : Book4 w0 w base p vT vI) (b : Below w.heap.size w w') : Book4 w0 w' base p vT vI :=
  ⟨h.below.trans (b.mono (Nat.le_trans h.hp (Nat.le_of_lt h.book.lt))), h.hp, book_of_block (b.block p h.book.lt) h.book, h.fT.below h.book.lt b, h.fI.below h.book.lt b, h.nils.turn (Turn.of_below (J := fun _ => False) (R := fun _ => False) b h.book.lt) (fun _ _ => id)⟩

set_option maxRecDepth 100000 in
set_option maxHeartbeats 4000000 in
theorem apart_is (w0 w : World) (base p : Nat) (LT MT : List TL) (LI MI : List IL) (h : Book2 w0 w base p LT MT LI MI) (hT : LT.length ≤ 100) (hI : LI.length ≤ 100) :
    Calls Try.prog 18 #[.pointer (some ⟨p, 0, none⟩)] w fun e w' => e = .returned (.bool true) ∧ Below base w0 w' := by
  have H := Lib.hid h
  have HW := Lib.hid h
  clear h
  go_enter Try.func18, Try.ntmps18
  go_wp2_with (first
    | (go_at_call 36
       obtain ⟨ao, am, co, cm, hbo⟩ := H.out.kT.both
       refine (stillTexts_is p LT MT ao am co cm _ hbo (by omega)).mono ?_
       rintro e w1 ⟨rfl, m1, rfl⟩
       replace H := Lib.hid (H.out.next (bel_drewN (Below.refl _ _) m1))
       clear hbo)
    | (go_at_call 37
       obtain ⟨ao, am, co, cm, hbo⟩ := H.out.kI.both
       refine (stillInts_is p LI MI ao am co cm _ hbo (by omega)).mono ?_
       rintro e w1 ⟨rfl, m2, rfl⟩
       replace H := Lib.hid (HW.out.next (bel_drewN (Below.refl _ _) (m1 + m2)))
       clear hbo)
    | (go_at_call 38; refine (stillChanges_nil p _ H.out.nils.c4).mono ?_; rintro e w1 ⟨rfl, hw⟩; obtain rfl := hw.symm)
    | (go_at_call 39; refine (stillEntries_nil p _ H.out.nils.c6).mono ?_; rintro e w1 ⟨rfl, hw⟩; obtain rfl := hw.symm)
    | (go_at_call 40; refine (stillCodes_nil p _ H.out.nils.c8).mono ?_; rintro e w1 ⟨rfl, hw⟩; obtain rfl := hw.symm)
    | (go_at_call 41; refine (stillNodes_nil p _ H.out.nils.c10).mono ?_; rintro e w1 ⟨rfl, hw⟩; obtain rfl := hw.symm)
    | (go_at_call 42; refine (putNodes_nil p _ H.out.nils.c10).mono ?_; rintro e w1 ⟨rfl, hw⟩; obtain rfl := hw.symm)
    | (go_at_call 43
       refine (putTexts_is base p LT _ _ H.out.book H.out.hp H.out.kT.held hT).mono ?_
       rintro e w1 ⟨rfl, CT, kp⟩
       have H3 := Lib.hid (And.intro (H.out.putT kp) (fun k x (hx : LT[k]? = some x) => kp.done k x (List.getElem?_eq_some_iff.1 hx).1 hx))
       clear kp)
    | (go_at_call 44
       refine (putInts_is base p LI _ _ H3.out.1.book H3.out.1.hp H3.out.1.hI hI).mono ?_
       rintro e w1 ⟨rfl, CI, kp⟩
       have H4 := Lib.hid (And.intro (H3.out.1.putI kp) (And.intro H3.out.2 (fun k x (hx : LI[k]? = some x) => kp.done k x (List.getElem?_eq_some_iff.1 hx).1 hx)))
       clear kp)
    | (go_at_call 45; refine (putChanges_nil p _ H4.out.1.nils.c4).mono ?_; rintro e w1 ⟨rfl, hw⟩; obtain rfl := hw.symm)
    | (go_at_call 46; refine (putEntries_nil p _ H4.out.1.nils.c6).mono ?_; rintro e w1 ⟨rfl, hw⟩; obtain rfl := hw.symm)
    | (go_at_call 47; refine (putCodes_nil p _ H4.out.1.nils.c8).mono ?_; rintro e w1 ⟨rfl, hw⟩; obtain rfl := hw.symm)
    | (go_at_call 48
       refine (growTexts_is base p LT CT _ H4.out.1.book H4.out.1.hp H4.out.1.hT H4.out.2.1 hT).mono ?_
       rintro e w1 ⟨N1, Lo, vT, rfl, hlo, kg⟩
       have H5 := Lib.hid (And.intro (H4.out.1.growT kg) (And.intro H4.out.2 (And.intro hlo (And.intro kg.out (fun i y hy => kg.lo i y hy)))))
       clear kg)
    | (go_at_call 49
       refine (growInts_is base p LI CI _ H5.out.1.book H5.out.1.hp H5.out.1.hI H5.out.2.1.2 hI).mono ?_
       rintro e w1 ⟨N2, Lj, vI, rfl, hlj, kg⟩
       have hb5 := H5.out.1.book
       have H6 : Hid (Book4 w0 w1 base p vT vI) := Lib.hid (by
         have g := H5.out.1.growI kg
         exact ⟨g.below, g.hp, g.book, finTexts g.hT H5.out.2.1.1 hT H5.out.2.2.1 (owns_typed H5.out.2.2.2.1 hb5 kg.turn (by decide) (by decide)) (fun i y hy => ⟨owns_typed (H5.out.2.2.2.2 i y hy).1 hb5 kg.turn (by decide) (by decide), (H5.out.2.2.2.2 i y hy).2.1, (H5.out.2.2.2.2 i y hy).2.2.1⟩),
           finInts g.hI H5.out.2.1.2 hI hlj kg.out (fun i y hy => ⟨(kg.lo i y hy).1, (kg.lo i y hy).2.1, (kg.lo i y hy).2.2.1⟩), g.nils⟩)
       clear kg hb5)
    | (go_at_call 50; refine (growChanges_nil p _ H6.out.nils.c4).mono ?_; rintro e w1 ⟨rfl, hw⟩; obtain rfl := hw.symm)
    | (go_at_call 51; refine (growEntries_nil p _ H6.out.nils.c6).mono ?_; rintro e w1 ⟨rfl, hw⟩; obtain rfl := hw.symm)
    | (go_at_call 52; refine (growCodes_nil p _ H6.out.nils.c8).mono ?_; rintro e w1 ⟨rfl, hw⟩; obtain rfl := hw.symm)
    | (go_at_call 53; refine (growNodes_nil p _ H6.out.nils.c10).mono ?_; rintro e w1 ⟨rfl, hw⟩; obtain rfl := hw.symm))
  obtain ⟨a1, k1, L1, rfl, t2, t3, t4⟩ := H6.out.fT.told
  obtain ⟨a2, k2, L2, u1, u2, u3, u4⟩ := H6.out.fT.field
  obtain ⟨b1, j1, P1, rfl, v2, v3, v4⟩ := H6.out.fI.told
  obtain ⟨b2, j2, P2, x1, x2, x3, x4⟩ := H6.out.fI.field
  have M1 := Lib.hid (fun z (q : Below w1.heap.size w1 z) => markedTexts_is a1 L1 k1 z (t3.below q) t4 t2)
  have M2 := Lib.hid (fun z (q : Below w1.heap.size w1 z) => markedTexts_is a2 L2 k2 z (u3.below q) u4 u2)
  have N1 := Lib.hid (fun z (q : Below w1.heap.size w1 z) => markedInts_is b1 P1 j1 z (v3.below q) v4 v2)
  have N2 := Lib.hid (fun z (q : Below w1.heap.size w1 z) => markedInts_is b2 P2 j2 z (x3.below q) x4 x2)
  have F := Lib.hid (fun z (q : Below w1.heap.size w1 z) => And.intro ((q.cell (p := ⟨p, 0, none⟩) H6.out.book.lt).trans u1) (And.intro ((q.cell (p := ⟨p, 2, none⟩) H6.out.book.lt).trans x1) (H6.out.nils.turn (Turn.of_below (J := fun _ => False) (R := fun _ => False) q H6.out.book.lt) (fun _ _ => id))))
  have HB : Hid (Below w1.heap.size w1 w1) := Lib.hid (Below.refl _ _)
  have HE := Lib.hid (And.intro H6.out.below (Nat.le_trans H6.out.hp (Nat.le_of_lt H6.out.book.lt)))
  clear t2 t3 t4 u1 u2 u3 u4 v2 v3 v4 x1 x2 x3 x4 H H3 H4 H5 H6 HW
  go_wp2_with (first
    | (go_at_call 54
       with_reducible refine (M1.out _ HB.out).mono ?_
       rintro e w2 ⟨rfl, b2⟩
       replace HB := Lib.hid (below_next HB.out b2)
       have c0_0 := (F.out _ HB.out).1
       have c2_0 := (F.out _ HB.out).2.1
       have c4_0 := (F.out _ HB.out).2.2.c4
       have c6_0 := (F.out _ HB.out).2.2.c6
       have c8_0 := (F.out _ HB.out).2.2.c8
       have c10_0 := (F.out _ HB.out).2.2.c10
       clear b2)
    | (go_at_call 54
       with_reducible refine (M2.out _ HB.out).mono ?_
       rintro e w2 ⟨rfl, b2⟩
       replace HB := Lib.hid (below_next HB.out b2)
       have c0_1 := (F.out _ HB.out).1
       have c2_1 := (F.out _ HB.out).2.1
       have c4_1 := (F.out _ HB.out).2.2.c4
       have c6_1 := (F.out _ HB.out).2.2.c6
       have c8_1 := (F.out _ HB.out).2.2.c8
       have c10_1 := (F.out _ HB.out).2.2.c10
       clear b2)
    | (go_at_call 55
       with_reducible refine (N1.out _ HB.out).mono ?_
       rintro e w2 ⟨rfl, b2⟩
       replace HB := Lib.hid (below_next HB.out b2)
       have c0_2 := (F.out _ HB.out).1
       have c2_2 := (F.out _ HB.out).2.1
       have c4_2 := (F.out _ HB.out).2.2.c4
       have c6_2 := (F.out _ HB.out).2.2.c6
       have c8_2 := (F.out _ HB.out).2.2.c8
       have c10_2 := (F.out _ HB.out).2.2.c10
       clear b2)
    | (go_at_call 55
       with_reducible refine (N2.out _ HB.out).mono ?_
       rintro e w2 ⟨rfl, b2⟩
       replace HB := Lib.hid (below_next HB.out b2)
       have c0_3 := (F.out _ HB.out).1
       have c2_3 := (F.out _ HB.out).2.1
       have c4_3 := (F.out _ HB.out).2.2.c4
       have c6_3 := (F.out _ HB.out).2.2.c6
       have c8_3 := (F.out _ HB.out).2.2.c8
       have c10_3 := (F.out _ HB.out).2.2.c10
       clear b2)
    | (go_at_call 56; refine (markedChanges_nil _).mono ?_; rintro e w2 ⟨rfl, hw⟩; obtain rfl := hw.symm)
    | (go_at_call 57; refine (markedEntries_nil _).mono ?_; rintro e w2 ⟨rfl, hw⟩; obtain rfl := hw.symm)
    | (go_at_call 58; refine (markedCodes_nil _).mono ?_; rintro e w2 ⟨rfl, hw⟩; obtain rfl := hw.symm)
    | (go_at_call 59; refine (markedNodes_nil _).mono ?_; rintro e w2 ⟨rfl, hw⟩; obtain rfl := hw.symm))
  all_goals
    go_ret
    exact ⟨rfl, HE.out.1.trans (HB.out.mono HE.out.2)⟩
end Go.Proofs.Ytgmjphekfhiapaa.Bk
