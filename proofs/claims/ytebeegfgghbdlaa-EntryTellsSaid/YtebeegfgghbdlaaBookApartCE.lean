/- The book: Apart, where Changes, Entries alone were kept. -/
import Derived.Test.YtebeegfgghbdlaaBookWFin
import Derived.Test.YtebeegfgghbdlaaBookNil
namespace Go.Proofs.Ytebeegfgghbdlaa.Bk
open Go.RowKit

structure NilsCE (w : World) (p : Nat) : Prop where
  c0 : w.cell? ⟨p, 0, none⟩ = some (.slice none 0 0)
  c2 : w.cell? ⟨p, 2, none⟩ = some (.slice none 0 0)
  c8 : w.cell? ⟨p, 8, none⟩ = some (.slice none 0 0)
  c10 : w.cell? ⟨p, 10, none⟩ = some (.slice none 0 0)
theorem NilsCE.turn {w w' : World} {p : Nat} {J R : Nat → Prop} (h : NilsCE w p) (t : Turn w w' p J R) (hJ : ∀ j, J j → j = 4 ∨ j = 5 ∨ j = 6 ∨ j = 7) : NilsCE w' p :=
  ⟨(t.cell 0 (fun q => absurd (hJ _ q) (by decide))).trans h.c0, (t.cell 2 (fun q => absurd (hJ _ q) (by decide))).trans h.c2, (t.cell 8 (fun q => absurd (hJ _ q) (by decide))).trans h.c8, (t.cell 10 (fun q => absurd (hJ _ q) (by decide))).trans h.c10⟩
/-- The book, with the lists that were kept. -/
structure BookCE (w0 w : World) (base p : Nat) (LChanges MChanges : List CL) (LEntries MEntries : List EL) : Prop where
  below : Below base w0 w
  hp : base ≤ p
  book : BookB w p
  kChanges : KeepChanges w base p LChanges MChanges
  kEntries : KeepEntries w base p LEntries MEntries
  nils : NilsCE w p
theorem BookCE.next {w0 w w' : World} {base p : Nat} {LChanges MChanges : List CL} {LEntries MEntries : List EL} (h : BookCE w0 w base p LChanges MChanges LEntries MEntries) (b : Below w.heap.size w w') : BookCE w0 w' base p LChanges MChanges LEntries MEntries :=
  ⟨h.below.trans (b.mono (Nat.le_trans h.hp (Nat.le_of_lt h.book.lt))), h.hp, book_of_block (b.block p h.book.lt) h.book, h.kChanges.below h.book b, h.kEntries.below h.book b, h.nils.turn (Turn.of_below (J := fun _ => False) (R := fun _ => False) b h.book.lt) (fun _ q => q.elim)⟩
theorem BookCE.addChanges {w0 w w' : World} {base p : Nat} {LChanges MChanges : List CL} {LEntries MEntries : List EL} {L' M' : List CL} (h : BookCE w0 w base p LChanges MChanges LEntries MEntries) (b : Below base w w') (t : Turn w w' p (fun j => j = 4 ∨ j = 5) (OfType w 24)) (k : KeepChanges w' base p L' M') : BookCE w0 w' base p L' M' LEntries MEntries :=
  ⟨h.below.trans b, h.hp, t.book h.book, k, h.kEntries.other h.book t ⟨by decide, by decide⟩ (by decide) (by decide), h.nils.turn t (fun _ q => by omega)⟩
theorem BookCE.addEntries {w0 w w' : World} {base p : Nat} {LChanges MChanges : List CL} {LEntries MEntries : List EL} {L' M' : List EL} (h : BookCE w0 w base p LChanges MChanges LEntries MEntries) (b : Below base w w') (t : Turn w w' p (fun j => j = 6 ∨ j = 7) (OfType w 25)) (k : KeepEntries w' base p L' M') : BookCE w0 w' base p LChanges MChanges L' M' :=
  ⟨h.below.trans b, h.hp, t.book h.book, h.kChanges.other h.book t ⟨by decide, by decide⟩ (by decide) (by decide), k, h.nils.turn t (fun _ q => by omega)⟩
/-- A new book. -/
theorem bookCE_start (w0 w : World) (h0 : Below w0.heap.size w0 w) : BookCE w0 (w.alloc (.cells #[.slice none 0 0, .slice none 0 0, .slice none 0 0, .slice none 0 0, .slice none 0 0, .slice none 0 0, .slice none 0 0, .slice none 0 0, .slice none 0 0, .slice none 0 0, .slice none 0 0, .slice none 0 0] 43)) w0.heap.size w.heap.size [] [] [] [] := by
  have hb := heap_alloc_new w (.cells #[.slice none 0 0, .slice none 0 0, .slice none 0 0, .slice none 0 0, .slice none 0 0, .slice none 0 0, .slice none 0 0, .slice none 0 0, .slice none 0 0, .slice none 0 0, .slice none 0 0, .slice none 0 0] 43)
  have hc : ∀ j, j < 12 → (w.alloc (.cells #[.slice none 0 0, .slice none 0 0, .slice none 0 0, .slice none 0 0, .slice none 0 0, .slice none 0 0, .slice none 0 0, .slice none 0 0, .slice none 0 0, .slice none 0 0, .slice none 0 0, .slice none 0 0] 43)).cell? ⟨w.heap.size, j, none⟩ = some (.slice none 0 0) := fun j hj => by
    rw [World.cell?_alloc_new]
    rcases j with _ | _ | _ | _ | _ | _ | _ | _ | _ | _ | _ | _ | _ <;> first | rfl | omega
  exact ⟨h0.alloc h0.size _, h0.size, ⟨_, hb, rfl⟩,
    ⟨⟨_, _, hc 4 (by omega), hc 5 (by omega), World.ownsRow_nil _ _ _ _, World.ownsRow_nil _ _ _ _, fun g q => by cases q⟩, fun x hx => by simp at hx, fun x hx => by simp at hx, rfl, fun i x y hx => by simp at hx, List.Pairwise.nil, fun x hx => by simp at hx⟩,
    ⟨⟨_, _, hc 6 (by omega), hc 7 (by omega), World.ownsRow_nil _ _ _ _, World.ownsRow_nil _ _ _ _, fun g q => by cases q⟩, fun x hx => by simp at hx, fun x hx => by simp at hx, rfl, fun i x y hx => by simp at hx, List.Pairwise.nil, fun x hx => by simp at hx⟩,
    ⟨hc 0 (by omega), hc 2 (by omega), hc 8 (by omega), hc 10 (by omega)⟩⟩
/-- The lists, whatever is in them. -/
structure HeldCE (w0 w : World) (base p : Nat) (LChanges : List CL) (CChanges : Nat → List Chg) (LEntries : List EL) (CEntries : Nat → List Ent) : Prop where
  below : Below base w0 w
  hp : base ≤ p
  book : BookB w p
  hChanges : HeldChanges w base p LChanges CChanges
  hEntries : HeldEntries w base p LEntries CEntries
  nils : NilsCE w p
theorem BookCE.held {w0 w : World} {base p : Nat} {LChanges MChanges : List CL} {LEntries MEntries : List EL} (h : BookCE w0 w base p LChanges MChanges LEntries MEntries) : HeldCE w0 w base p LChanges (fun i => (LChanges[i]?.map (·.l)).getD []) LEntries (fun i => (LEntries[i]?.map (·.l)).getD []) :=
  ⟨h.below, h.hp, h.book, h.kChanges.held, h.kEntries.held, h.nils⟩
theorem HeldCE.putChanges {w0 w w' : World} {base p n : Nat} {LChanges : List CL} {CChanges : Nat → List Chg} {LEntries : List EL} {CEntries : Nat → List Ent} {C : Nat → List Chg} (h : HeldCE w0 w base p LChanges CChanges LEntries CEntries) (k : PuttingChanges w w' base p LChanges n C) : HeldCE w0 w' base p LChanges C LEntries CEntries :=
  ⟨h.below.trans k.below, h.hp, k.book, k.held, h.hEntries.other h.book k.turn id (by decide) (by decide), h.nils.turn k.turn (fun _ q => q.elim)⟩
theorem HeldCE.growChanges {w0 w w' : World} {base p N : Nat} {LChanges : List CL} {CChanges : Nat → List Chg} {LEntries : List EL} {CEntries : Nat → List Ent} {Lo : List CL} {vo : Value} (h : HeldCE w0 w base p LChanges CChanges LEntries CEntries) (k : GrowChanges w w' base p LChanges CChanges N Lo vo) : HeldCE w0 w' base p LChanges CChanges LEntries CEntries :=
  ⟨h.below.trans k.below, h.hp, k.book, k.held, h.hEntries.other h.book k.turn id (by decide) (by decide), h.nils.turn k.turn (fun _ q => q.elim)⟩
theorem HeldCE.putEntries {w0 w w' : World} {base p n : Nat} {LChanges : List CL} {CChanges : Nat → List Chg} {LEntries : List EL} {CEntries : Nat → List Ent} {C : Nat → List Ent} (h : HeldCE w0 w base p LChanges CChanges LEntries CEntries) (k : PuttingEntries w w' base p LEntries n C) : HeldCE w0 w' base p LChanges CChanges LEntries C :=
  ⟨h.below.trans k.below, h.hp, k.book, h.hChanges.other h.book k.turn id (by decide) (by decide), k.held, h.nils.turn k.turn (fun _ q => q.elim)⟩
theorem HeldCE.growEntries {w0 w w' : World} {base p N : Nat} {LChanges : List CL} {CChanges : Nat → List Chg} {LEntries : List EL} {CEntries : Nat → List Ent} {Lo : List EL} {vo : Value} (h : HeldCE w0 w base p LChanges CChanges LEntries CEntries) (k : GrowEntries w w' base p LEntries CEntries N Lo vo) : HeldCE w0 w' base p LChanges CChanges LEntries CEntries :=
  ⟨h.below.trans k.below, h.hp, k.book, h.hChanges.other h.book k.turn id (by decide) (by decide), k.held, h.nils.turn k.turn (fun _ q => q.elim)⟩
/-- At the end: all lists marked. -/
structure DoneCE (w0 w : World) (base p : Nat) (vChanges vEntries : Value) : Prop where
  below : Below base w0 w
  hp : base ≤ p
  book : BookB w p
  fChanges : FinChanges w p vChanges
  fEntries : FinEntries w p vEntries
  nils : NilsCE w p

set_option maxRecDepth 100000 in
set_option maxHeartbeats 4000000 in
theorem apartCE_is (w0 w : World) (base p : Nat) (LChanges MChanges : List CL) (LEntries MEntries : List EL) (h : BookCE w0 w base p LChanges MChanges LEntries MEntries) (sChanges : LChanges.length ≤ 100) (sEntries : LEntries.length ≤ 100) :
    Calls Try.prog 23 #[.pointer (some ⟨p, 0, none⟩)] w fun e w' => e = .returned (.bool true) ∧ Below base w0 w' := by
  have HW := Lib.hid h
  have H := Lib.hid h
  have HH := Lib.hid (Nat.le_refl 0)
  clear h
  go_enter Try.func23, Try.ntmps23
  go_wp2_with (first
    | (go_at_call 36; refine (stillTexts_nil p _ H.out.nils.c0).mono ?_; rintro e w1 ⟨rfl, hw⟩; obtain rfl := hw.symm)
    | (go_at_call 37; refine (stillInts_nil p _ H.out.nils.c2).mono ?_; rintro e w1 ⟨rfl, hw⟩; obtain rfl := hw.symm)
    | (go_at_call 38
       obtain ⟨ao, am, co, cm, hbo⟩ := H.out.kChanges.both
       refine (stillChanges_is p LChanges MChanges ao am co cm _ hbo (by omega)).mono ?_
       rintro e w1 ⟨rfl, mChanges, rfl⟩
       replace H := Lib.hid (HW.out.next (bel_drewN (Below.refl _ _) (mChanges)))
       clear hbo)
    | (go_at_call 39
       obtain ⟨ao, am, co, cm, hbo⟩ := H.out.kEntries.both
       refine (stillEntries_is p LEntries MEntries ao am co cm _ hbo (by omega)).mono ?_
       rintro e w1 ⟨rfl, mEntries, rfl⟩
       replace H := Lib.hid (HW.out.next (bel_drewN (Below.refl _ _) (mChanges + mEntries)))
       clear hbo)
    | (go_at_call 40; refine (stillCodes_nil p _ H.out.nils.c8).mono ?_; rintro e w1 ⟨rfl, hw⟩; obtain rfl := hw.symm)
    | (go_at_call 41; refine (stillNodes_nil p _ H.out.nils.c10).mono ?_; rintro e w1 ⟨rfl, hw⟩; obtain rfl := hw.symm)
    | (go_at_call 42; refine (putNodes_nil p _ H.out.nils.c10).mono ?_; rintro e w1 ⟨rfl, hw⟩; obtain rfl := hw.symm)
    | (go_at_call 43; refine (putTexts_nil p _ H.out.nils.c0).mono ?_; rintro e w1 ⟨rfl, hw⟩; obtain rfl := hw.symm)
    | (go_at_call 44; refine (putInts_nil p _ H.out.nils.c2).mono ?_; rintro e w1 ⟨rfl, hw⟩; obtain rfl := hw.symm)
    | (go_at_call 45
       have G := Lib.hid H.out.held
       refine (putChanges_is base p LChanges _ _ G.out.book G.out.hp G.out.hChanges sChanges).mono ?_
       rintro e w1 ⟨rfl, CChanges, kp⟩
       have GChanges := Lib.hid (G.out.putChanges kp)
       have DChanges := Lib.hid (fun k x (hx : LChanges[k]? = some x) => kp.done k x (List.getElem?_eq_some_iff.1 hx).1 hx)
       clear kp)
    | (go_at_call 46
       refine (putEntries_is base p LEntries _ _ GChanges.out.book GChanges.out.hp GChanges.out.hEntries sEntries).mono ?_
       rintro e w1 ⟨rfl, CEntries, kp⟩
       have GEntries := Lib.hid (GChanges.out.putEntries kp)
       have DEntries := Lib.hid (fun k x (hx : LEntries[k]? = some x) => kp.done k x (List.getElem?_eq_some_iff.1 hx).1 hx)
       clear kp)
    | (go_at_call 47; refine (putCodes_nil p _ GEntries.out.nils.c8).mono ?_; rintro e w1 ⟨rfl, hw⟩; obtain rfl := hw.symm)
    | (go_at_call 48; refine (growTexts_nil p _ GEntries.out.nils.c0).mono ?_; rintro e w1 ⟨rfl, hw⟩; obtain rfl := hw.symm)
    | (go_at_call 49; refine (growInts_nil p _ GEntries.out.nils.c2).mono ?_; rintro e w1 ⟨rfl, hw⟩; obtain rfl := hw.symm)
    | (go_at_call 50
       refine (growChanges_is base p LChanges CChanges _ GEntries.out.book GEntries.out.hp GEntries.out.hChanges DChanges.out sChanges).mono ?_
       rintro e w1 ⟨NChanges, LoChanges, vChanges, rfl, hlo, kg⟩
       have RChanges := Lib.hid (GEntries.out.growChanges kg)
       have UChanges := Lib.hid (And.intro hlo (And.intro kg.out (fun i y hy => And.intro (kg.lo i y hy).1 (And.intro (kg.lo i y hy).2.1 (kg.lo i y hy).2.2.1))))
       clear kg hlo)
    | (go_at_call 51
       refine (growEntries_is base p LEntries CEntries _ RChanges.out.book RChanges.out.hp RChanges.out.hEntries DEntries.out sEntries).mono ?_
       rintro e w1 ⟨NEntries, LoEntries, vEntries, rfl, hlo, kg⟩
       have REntries := Lib.hid (RChanges.out.growEntries kg)
       have UEntries := Lib.hid (And.intro hlo (And.intro kg.out (fun i y hy => And.intro (kg.lo i y hy).1 (And.intro (kg.lo i y hy).2.1 (kg.lo i y hy).2.2.1))))
       replace UChanges := Lib.hid (And.intro UChanges.out.1 (And.intro (owns_typed UChanges.out.2.1 RChanges.out.book kg.turn (by decide) (by decide)) (fun i y hy => And.intro (owns_typed (UChanges.out.2.2 i y hy).1 RChanges.out.book kg.turn (by decide) (by decide)) (UChanges.out.2.2 i y hy).2)))
       have Z : Hid (DoneCE w0 w1 base p vChanges vEntries) := Lib.hid ⟨REntries.out.below, REntries.out.hp, REntries.out.book, finChanges REntries.out.hChanges DChanges.out sChanges UChanges.out.1 UChanges.out.2.1 UChanges.out.2.2, finEntries REntries.out.hEntries DEntries.out sEntries UEntries.out.1 UEntries.out.2.1 UEntries.out.2.2, REntries.out.nils⟩
       clear kg hlo)
    | (go_at_call 52; refine (growCodes_nil p _ REntries.out.nils.c8).mono ?_; rintro e w1 ⟨rfl, hw⟩; obtain rfl := hw.symm)
    | (go_at_call 53; refine (growNodes_nil p _ REntries.out.nils.c10).mono ?_; rintro e w1 ⟨rfl, hw⟩; obtain rfl := hw.symm))
  obtain ⟨taChanges, tkChanges, tLChanges, rfl, txChanges, tyChanges, tzChanges⟩ := Z.out.fChanges.told
  obtain ⟨faChanges, fkChanges, fLChanges, fcChanges, fxChanges, fyChanges, fzChanges⟩ := Z.out.fChanges.field
  obtain ⟨taEntries, tkEntries, tLEntries, rfl, txEntries, tyEntries, tzEntries⟩ := Z.out.fEntries.told
  obtain ⟨faEntries, fkEntries, fLEntries, fcEntries, fxEntries, fyEntries, fzEntries⟩ := Z.out.fEntries.field
  have MTChanges := Lib.hid (fun z (q : Below w1.heap.size w1 z) => markedChanges_is taChanges tLChanges tkChanges z (tyChanges.below q) tzChanges txChanges)
  have MFChanges := Lib.hid (fun z (q : Below w1.heap.size w1 z) => markedChanges_is faChanges fLChanges fkChanges z (fyChanges.below q) fzChanges fxChanges)
  have MTEntries := Lib.hid (fun z (q : Below w1.heap.size w1 z) => markedEntries_is taEntries tLEntries tkEntries z (tyEntries.below q) tzEntries txEntries)
  have MFEntries := Lib.hid (fun z (q : Below w1.heap.size w1 z) => markedEntries_is faEntries fLEntries fkEntries z (fyEntries.below q) fzEntries fxEntries)
  have FF := Lib.hid (fun z (q : Below w1.heap.size w1 z) => And.intro ((q.cell (p := ⟨p, 4, none⟩) Z.out.book.lt).trans fcChanges) (And.intro ((q.cell (p := ⟨p, 6, none⟩) Z.out.book.lt).trans fcEntries) ((Z.out.nils.turn (Turn.of_below (J := fun _ => False) (R := fun _ => False) q Z.out.book.lt) (fun _ q => q.elim)))))
  have HB : Hid (Below w1.heap.size w1 w1) := Lib.hid (Below.refl _ _)
  have HE := Lib.hid (And.intro Z.out.below (Nat.le_trans Z.out.hp (Nat.le_of_lt Z.out.book.lt)))
  have c4_s := (FF.out _ HB.out).1
  have c6_s := (FF.out _ HB.out).2.1
  have c0_s := (FF.out _ HB.out).2.2.c0
  have c2_s := (FF.out _ HB.out).2.2.c2
  have c8_s := (FF.out _ HB.out).2.2.c8
  have c10_s := (FF.out _ HB.out).2.2.c10
  clear txChanges tyChanges tzChanges fxChanges fyChanges fzChanges fcChanges txEntries tyEntries tzEntries fxEntries fyEntries fzEntries fcEntries H HW HH Z G GChanges DChanges RChanges UChanges GEntries DEntries REntries UEntries
  go_wp2_with (first
    | (go_at_call 54; refine (markedTexts_nil _).mono ?_; rintro e w2 ⟨rfl, hw⟩; obtain rfl := hw.symm)
    | (go_at_call 55; refine (markedInts_nil _).mono ?_; rintro e w2 ⟨rfl, hw⟩; obtain rfl := hw.symm)
    | (go_at_call 56
       with_reducible refine (MTChanges.out _ HB.out).mono ?_
       rintro e w2 ⟨rfl, b2⟩
       replace HB := Lib.hid (below_next HB.out b2)
       have c4_0 := (FF.out _ HB.out).1
       have c6_0 := (FF.out _ HB.out).2.1
       have c0_0 := (FF.out _ HB.out).2.2.c0
       have c2_0 := (FF.out _ HB.out).2.2.c2
       have c8_0 := (FF.out _ HB.out).2.2.c8
       have c10_0 := (FF.out _ HB.out).2.2.c10
       clear b2)
    | (go_at_call 56
       with_reducible refine (MFChanges.out _ HB.out).mono ?_
       rintro e w2 ⟨rfl, b2⟩
       replace HB := Lib.hid (below_next HB.out b2)
       have c4_1 := (FF.out _ HB.out).1
       have c6_1 := (FF.out _ HB.out).2.1
       have c0_1 := (FF.out _ HB.out).2.2.c0
       have c2_1 := (FF.out _ HB.out).2.2.c2
       have c8_1 := (FF.out _ HB.out).2.2.c8
       have c10_1 := (FF.out _ HB.out).2.2.c10
       clear b2)
    | (go_at_call 57
       with_reducible refine (MTEntries.out _ HB.out).mono ?_
       rintro e w2 ⟨rfl, b2⟩
       replace HB := Lib.hid (below_next HB.out b2)
       have c4_2 := (FF.out _ HB.out).1
       have c6_2 := (FF.out _ HB.out).2.1
       have c0_2 := (FF.out _ HB.out).2.2.c0
       have c2_2 := (FF.out _ HB.out).2.2.c2
       have c8_2 := (FF.out _ HB.out).2.2.c8
       have c10_2 := (FF.out _ HB.out).2.2.c10
       clear b2)
    | (go_at_call 57
       with_reducible refine (MFEntries.out _ HB.out).mono ?_
       rintro e w2 ⟨rfl, b2⟩
       replace HB := Lib.hid (below_next HB.out b2)
       have c4_3 := (FF.out _ HB.out).1
       have c6_3 := (FF.out _ HB.out).2.1
       have c0_3 := (FF.out _ HB.out).2.2.c0
       have c2_3 := (FF.out _ HB.out).2.2.c2
       have c8_3 := (FF.out _ HB.out).2.2.c8
       have c10_3 := (FF.out _ HB.out).2.2.c10
       clear b2)
    | (go_at_call 58; refine (markedCodes_nil _).mono ?_; rintro e w2 ⟨rfl, hw⟩; obtain rfl := hw.symm)
    | (go_at_call 59; refine (markedNodes_nil _).mono ?_; rintro e w2 ⟨rfl, hw⟩; obtain rfl := hw.symm))
  all_goals
    go_ret
    exact ⟨rfl, HE.out.1.trans (HB.out.mono HE.out.2)⟩
end Go.Proofs.Ytebeegfgghbdlaa.Bk
