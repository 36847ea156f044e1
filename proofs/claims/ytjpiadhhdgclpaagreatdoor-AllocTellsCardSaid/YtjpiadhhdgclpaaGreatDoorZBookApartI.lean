/- The book: Apart, where Ints alone were kept. -/
import Derived.Test.YtjpiadhhdgclpaaGreatDoorZBookD
set_option linter.unusedVariables false
set_option linter.unusedSimpArgs false
namespace Go.Proofs.YtjpiadhhdgclpaaGreatDoor.Bk
open Go.RowKit

structure NilsI (w : World) (p : Nat) : Prop where
  c0 : w.cell? ⟨p, 0, none⟩ = some (.slice none 0 0)
  c4 : w.cell? ⟨p, 4, none⟩ = some (.slice none 0 0)
  c6 : w.cell? ⟨p, 6, none⟩ = some (.slice none 0 0)
  c8 : w.cell? ⟨p, 8, none⟩ = some (.slice none 0 0)
  c10 : w.cell? ⟨p, 10, none⟩ = some (.slice none 0 0)
theorem NilsI.turn {w w' : World} {p : Nat} {J R : Nat → Prop} (h : NilsI w p) (t : Turn w w' p J R) (hJ : ∀ j, J j → j = 2 ∨ j = 3) : NilsI w' p :=
  ⟨(t.cell 0 (fun q => absurd (hJ _ q) (by decide))).trans h.c0, (t.cell 4 (fun q => absurd (hJ _ q) (by decide))).trans h.c4, (t.cell 6 (fun q => absurd (hJ _ q) (by decide))).trans h.c6, (t.cell 8 (fun q => absurd (hJ _ q) (by decide))).trans h.c8, (t.cell 10 (fun q => absurd (hJ _ q) (by decide))).trans h.c10⟩
/-- The book, with the lists that were kept. -/
structure BookI (w0 w : World) (base p : Nat) (LInts MInts : List IL) : Prop where
  below : Below base w0 w
  hp : base ≤ p
  book : BookB w p
  kInts : KeepInts w base p LInts MInts
  nils : NilsI w p
theorem BookI.next {w0 w w' : World} {base p : Nat} {LInts MInts : List IL} (h : BookI w0 w base p LInts MInts) (b : Below w.heap.size w w') : BookI w0 w' base p LInts MInts :=
  ⟨h.below.trans (b.mono (Nat.le_trans h.hp (Nat.le_of_lt h.book.lt))), h.hp, book_of_block (b.block p h.book.lt) h.book, h.kInts.below h.book b, h.nils.turn (Turn.of_below (J := fun _ => False) (R := fun _ => False) b h.book.lt) (fun _ q => q.elim)⟩
theorem BookI.addInts {w0 w w' : World} {base p : Nat} {LInts MInts : List IL} {L' M' : List IL} (h : BookI w0 w base p LInts MInts) (b : Below base w w') (t : Turn w w' p (fun j => j = 2 ∨ j = 3) (OfType w 47)) (k : KeepInts w' base p L' M') : BookI w0 w' base p L' M' :=
  ⟨h.below.trans b, h.hp, t.book h.book, k, h.nils.turn t (fun _ q => by omega)⟩
/-- A new book. -/
theorem bookI_start (w0 w : World) (h0 : Below w0.heap.size w0 w) : BookI w0 (w.alloc (.cells #[.slice none 0 0, .slice none 0 0, .slice none 0 0, .slice none 0 0, .slice none 0 0, .slice none 0 0, .slice none 0 0, .slice none 0 0, .slice none 0 0, .slice none 0 0, .slice none 0 0, .slice none 0 0] 40)) w0.heap.size w.heap.size [] [] := by
  have hb := heap_alloc_new w (.cells #[.slice none 0 0, .slice none 0 0, .slice none 0 0, .slice none 0 0, .slice none 0 0, .slice none 0 0, .slice none 0 0, .slice none 0 0, .slice none 0 0, .slice none 0 0, .slice none 0 0, .slice none 0 0] 40)
  have hc : ∀ j, j < 12 → (w.alloc (.cells #[.slice none 0 0, .slice none 0 0, .slice none 0 0, .slice none 0 0, .slice none 0 0, .slice none 0 0, .slice none 0 0, .slice none 0 0, .slice none 0 0, .slice none 0 0, .slice none 0 0, .slice none 0 0] 40)).cell? ⟨w.heap.size, j, none⟩ = some (.slice none 0 0) := fun j hj => by
    rw [World.cell?_alloc_new]
    rcases j with _ | _ | _ | _ | _ | _ | _ | _ | _ | _ | _ | _ | _ <;> first | rfl | omega
  exact ⟨h0.alloc h0.size _, h0.size, ⟨_, hb, rfl⟩,
    ⟨⟨_, _, hc 2 (by omega), hc 3 (by omega), World.ownsRow_nil _ _ _ _, World.ownsRow_nil _ _ _ _, fun g q => by cases q⟩, fun x hx => by simp at hx, fun x hx => by simp at hx, rfl, fun i x y hx => by simp at hx, List.Pairwise.nil, fun x hx => by simp at hx⟩,
    ⟨hc 0 (by omega), hc 4 (by omega), hc 6 (by omega), hc 8 (by omega), hc 10 (by omega)⟩⟩
/-- The lists, whatever is in them. -/
structure HeldI (w0 w : World) (base p : Nat) (LInts : List IL) (CInts : Nat → List Int) : Prop where
  below : Below base w0 w
  hp : base ≤ p
  book : BookB w p
  hInts : HeldInts w base p LInts CInts
  nils : NilsI w p
theorem BookI.held {w0 w : World} {base p : Nat} {LInts MInts : List IL} (h : BookI w0 w base p LInts MInts) : HeldI w0 w base p LInts (fun i => (LInts[i]?.map (·.l)).getD []) :=
  ⟨h.below, h.hp, h.book, h.kInts.held, h.nils⟩
theorem HeldI.putInts {w0 w w' : World} {base p n : Nat} {LInts : List IL} {CInts : Nat → List Int} {C : Nat → List Int} (h : HeldI w0 w base p LInts CInts) (k : PuttingInts w w' base p LInts n C) : HeldI w0 w' base p LInts C :=
  ⟨h.below.trans k.below, h.hp, k.book, k.held, h.nils.turn k.turn (fun _ q => q.elim)⟩
theorem HeldI.growInts {w0 w w' : World} {base p N : Nat} {LInts : List IL} {CInts : Nat → List Int} {Lo : List IL} {vo : Value} (h : HeldI w0 w base p LInts CInts) (k : GrowInts w w' base p LInts CInts N Lo vo) : HeldI w0 w' base p LInts CInts :=
  ⟨h.below.trans k.below, h.hp, k.book, k.held, h.nils.turn k.turn (fun _ q => q.elim)⟩
/-- At the end: all lists marked. -/
structure DoneI (w0 w : World) (base p : Nat) (vInts : Value) : Prop where
  below : Below base w0 w
  hp : base ≤ p
  book : BookB w p
  fInts : FinInts w p vInts
  nils : NilsI w p

set_option maxRecDepth 100000 in
set_option maxHeartbeats 4000000 in
theorem apartI_is (w0 w : World) (base p : Nat) (LInts MInts : List IL) (h : BookI w0 w base p LInts MInts) (sInts : LInts.length ≤ 200) :
    Calls Tryz.prog 22 #[.pointer (some ⟨p, 0, none⟩)] w fun e w' => e = .returned (.bool true) ∧ Below base w0 w' := by
  have HW := Lib.hid h
  have H := Lib.hid h
  have HH := Lib.hid (Nat.le_refl 0)
  clear h
  go_enter Tryz.func22, Tryz.ntmps22
  go_wp2_with (first
    | (go_at_call 45; refine (stillTexts_nil p _ H.out.nils.c0).mono ?_; rintro e w1 ⟨rfl, hw⟩; obtain rfl := hw.symm)
    | (go_at_call 46
       obtain ⟨ao, am, co, cm, hbo⟩ := H.out.kInts.both
       refine (stillInts_is p LInts MInts ao am co cm _ hbo (by omega)).mono ?_
       rintro e w1 ⟨rfl, mInts, rfl⟩
       replace H := Lib.hid (HW.out.next (bel_drewN (Below.refl _ _) (mInts)))
       clear hbo)
    | (go_at_call 47; refine (stillChanges_nil p _ H.out.nils.c4).mono ?_; rintro e w1 ⟨rfl, hw⟩; obtain rfl := hw.symm)
    | (go_at_call 48; refine (stillEntries_nil p _ H.out.nils.c6).mono ?_; rintro e w1 ⟨rfl, hw⟩; obtain rfl := hw.symm)
    | (go_at_call 49; refine (stillCodes_nil p _ H.out.nils.c8).mono ?_; rintro e w1 ⟨rfl, hw⟩; obtain rfl := hw.symm)
    | (go_at_call 50; refine (stillNodes_nil p _ H.out.nils.c10).mono ?_; rintro e w1 ⟨rfl, hw⟩; obtain rfl := hw.symm)
    | (go_at_call 51; refine (putNodes_nil p _ H.out.nils.c10).mono ?_; rintro e w1 ⟨rfl, hw⟩; obtain rfl := hw.symm)
    | (go_at_call 52; refine (putTexts_nil p _ H.out.nils.c0).mono ?_; rintro e w1 ⟨rfl, hw⟩; obtain rfl := hw.symm)
    | (go_at_call 53
       have G := Lib.hid H.out.held
       refine (putInts_is base p LInts _ _ G.out.book G.out.hp G.out.hInts sInts).mono ?_
       rintro e w1 ⟨rfl, CInts, kp⟩
       have GInts := Lib.hid (G.out.putInts kp)
       have DInts := Lib.hid (fun k x (hx : LInts[k]? = some x) => kp.done k x (List.getElem?_eq_some_iff.1 hx).1 hx)
       clear kp)
    | (go_at_call 54; refine (putChanges_nil p _ GInts.out.nils.c4).mono ?_; rintro e w1 ⟨rfl, hw⟩; obtain rfl := hw.symm)
    | (go_at_call 55; refine (putEntries_nil p _ GInts.out.nils.c6).mono ?_; rintro e w1 ⟨rfl, hw⟩; obtain rfl := hw.symm)
    | (go_at_call 56; refine (putCodes_nil p _ GInts.out.nils.c8).mono ?_; rintro e w1 ⟨rfl, hw⟩; obtain rfl := hw.symm)
    | (go_at_call 57; refine (growTexts_nil p _ GInts.out.nils.c0).mono ?_; rintro e w1 ⟨rfl, hw⟩; obtain rfl := hw.symm)
    | (go_at_call 58
       refine (growInts_is base p LInts CInts _ GInts.out.book GInts.out.hp GInts.out.hInts DInts.out sInts).mono ?_
       rintro e w1 ⟨NInts, LoInts, vInts, rfl, hlo, kg⟩
       have RInts := Lib.hid (GInts.out.growInts kg)
       have UInts := Lib.hid (And.intro hlo (And.intro kg.out (fun i y hy => And.intro (kg.lo i y hy).1 (And.intro (kg.lo i y hy).2.1 (kg.lo i y hy).2.2.1))))
       have Z : Hid (DoneI w0 w1 base p vInts) := Lib.hid ⟨RInts.out.below, RInts.out.hp, RInts.out.book, finInts RInts.out.hInts DInts.out sInts UInts.out.1 UInts.out.2.1 UInts.out.2.2, RInts.out.nils⟩
       clear kg hlo)
    | (go_at_call 59; refine (growChanges_nil p _ RInts.out.nils.c4).mono ?_; rintro e w1 ⟨rfl, hw⟩; obtain rfl := hw.symm)
    | (go_at_call 60; refine (growEntries_nil p _ RInts.out.nils.c6).mono ?_; rintro e w1 ⟨rfl, hw⟩; obtain rfl := hw.symm)
    | (go_at_call 61; refine (growCodes_nil p _ RInts.out.nils.c8).mono ?_; rintro e w1 ⟨rfl, hw⟩; obtain rfl := hw.symm)
    | (go_at_call 62; refine (growNodes_nil p _ RInts.out.nils.c10).mono ?_; rintro e w1 ⟨rfl, hw⟩; obtain rfl := hw.symm))
  obtain ⟨taInts, tkInts, tLInts, rfl, txInts, tyInts, tzInts⟩ := Z.out.fInts.told
  obtain ⟨faInts, fkInts, fLInts, fcInts, fxInts, fyInts, fzInts⟩ := Z.out.fInts.field
  have MTInts := Lib.hid (fun z (q : Below w1.heap.size w1 z) => markedInts_is taInts tLInts tkInts z (tyInts.below q) tzInts txInts)
  have MFInts := Lib.hid (fun z (q : Below w1.heap.size w1 z) => markedInts_is faInts fLInts fkInts z (fyInts.below q) fzInts fxInts)
  have FF := Lib.hid (fun z (q : Below w1.heap.size w1 z) => And.intro ((q.cell (p := ⟨p, 2, none⟩) Z.out.book.lt).trans fcInts) ((Z.out.nils.turn (Turn.of_below (J := fun _ => False) (R := fun _ => False) q Z.out.book.lt) (fun _ q => q.elim))))
  have HB : Hid (Below w1.heap.size w1 w1) := Lib.hid (Below.refl _ _)
  have HE := Lib.hid (And.intro Z.out.below (Nat.le_trans Z.out.hp (Nat.le_of_lt Z.out.book.lt)))
  have c2_s := (FF.out _ HB.out).1
  have c0_s := (FF.out _ HB.out).2.c0
  have c4_s := (FF.out _ HB.out).2.c4
  have c6_s := (FF.out _ HB.out).2.c6
  have c8_s := (FF.out _ HB.out).2.c8
  have c10_s := (FF.out _ HB.out).2.c10
  clear txInts tyInts tzInts fxInts fyInts fzInts fcInts H HW HH Z G GInts DInts RInts UInts
  go_wp2_with (first
    | (go_at_call 63; refine (markedTexts_nil _).mono ?_; rintro e w2 ⟨rfl, hw⟩; obtain rfl := hw.symm)
    | (go_at_call 64
       with_reducible refine (MTInts.out _ HB.out).mono ?_
       rintro e w2 ⟨rfl, b2⟩
       replace HB := Lib.hid (below_next HB.out b2)
       have c2_0 := (FF.out _ HB.out).1
       have c0_0 := (FF.out _ HB.out).2.c0
       have c4_0 := (FF.out _ HB.out).2.c4
       have c6_0 := (FF.out _ HB.out).2.c6
       have c8_0 := (FF.out _ HB.out).2.c8
       have c10_0 := (FF.out _ HB.out).2.c10
       clear b2)
    | (go_at_call 64
       with_reducible refine (MFInts.out _ HB.out).mono ?_
       rintro e w2 ⟨rfl, b2⟩
       replace HB := Lib.hid (below_next HB.out b2)
       have c2_1 := (FF.out _ HB.out).1
       have c0_1 := (FF.out _ HB.out).2.c0
       have c4_1 := (FF.out _ HB.out).2.c4
       have c6_1 := (FF.out _ HB.out).2.c6
       have c8_1 := (FF.out _ HB.out).2.c8
       have c10_1 := (FF.out _ HB.out).2.c10
       clear b2)
    | (go_at_call 65; refine (markedChanges_nil _).mono ?_; rintro e w2 ⟨rfl, hw⟩; obtain rfl := hw.symm)
    | (go_at_call 66; refine (markedEntries_nil _).mono ?_; rintro e w2 ⟨rfl, hw⟩; obtain rfl := hw.symm)
    | (go_at_call 67; refine (markedCodes_nil _).mono ?_; rintro e w2 ⟨rfl, hw⟩; obtain rfl := hw.symm)
    | (go_at_call 68; refine (markedNodes_nil _).mono ?_; rintro e w2 ⟨rfl, hw⟩; obtain rfl := hw.symm))
  all_goals
    go_ret
    exact ⟨rfl, HE.out.1.trans (HB.out.mono HE.out.2)⟩
end Go.Proofs.YtjpiadhhdgclpaaGreatDoor.Bk
