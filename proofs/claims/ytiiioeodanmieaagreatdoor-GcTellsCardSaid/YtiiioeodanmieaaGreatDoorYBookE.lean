import Derived.Test.YtiiioeodanmieaaGreatDoorYBookD
set_option linter.unusedVariables false
set_option linter.unusedSimpArgs false
-- BookApartI
namespace Go.Proofs.YtiiioeodanmieaaGreatDoor.Bk
open Go.RowKit

structure NilsI (w : World) (p : Nat) : Prop where
  c0 : w.cell? ⟨p, 0, none⟩ = some (.slice none 0 0)
  c4 : w.cell? ⟨p, 4, none⟩ = some (.slice none 0 0)
  c6 : w.cell? ⟨p, 6, none⟩ = some (.slice none 0 0)
  c8 : w.cell? ⟨p, 8, none⟩ = some (.slice none 0 0)
  c10 : w.cell? ⟨p, 10, none⟩ = some (.slice none 0 0)
theorem NilsI.turn {w w' : World} {p : Nat} {J R : Nat → Prop} (h : NilsI w p) (t : Turn w w' p J R) (hJ : ∀ j, J j → j = 2 ∨ j = 3) : NilsI w' p :=
  ⟨(t.cell 0 (fun q => absurd (hJ _ q) (by decide))).trans h.c0, (t.cell 4 (fun q => absurd (hJ _ q) (by decide))).trans h.c4, (t.cell 6 (fun q => absurd (hJ _ q) (by decide))).trans h.c6, (t.cell 8 (fun q => absurd (hJ _ q) (by decide))).trans h.c8, (t.cell 10 (fun q => absurd (hJ _ q) (by decide))).trans h.c10⟩
structure BookI (w0 w : World) (base p : Nat) (LInts MInts : List IL) : Prop where
  below : Below base w0 w
  hp : base ≤ p
  book : BookB w p
  kInts : KeepInts w base p LInts MInts
  nils : NilsI w p
theorem BookI.next {w0 w w' : World} {base p : Nat} {LInts MInts : List IL} (h : BookI w0 w base p LInts MInts) (b : Below w.heap.size w w') : BookI w0 w' base p LInts MInts :=
  ⟨h.below.trans (b.mono (Nat.le_trans h.hp (Nat.le_of_lt h.book.lt))), h.hp, book_of_block (b.block p h.book.lt) h.book, h.kInts.below h.book b, h.nils.turn (Turn.of_below (J := fun _ => False) (R := fun _ => False) b h.book.lt) (fun _ q => q.elim)⟩
theorem BookI.addInts {w0 w w' : World} {base p : Nat} {LInts MInts : List IL} {L' M' : List IL} (h : BookI w0 w base p LInts MInts) (b : Below base w w') (t : Turn w w' p (fun j => j = 2 ∨ j = 3) (OfType w 25)) (k : KeepInts w' base p L' M') : BookI w0 w' base p L' M' :=
  ⟨h.below.trans b, h.hp, t.book h.book, k, h.nils.turn t (fun _ q => by omega)⟩
theorem bookI_start (w0 w : World) (h0 : Below w0.heap.size w0 w) : BookI w0 (w.alloc (.cells #[.slice none 0 0, .slice none 0 0, .slice none 0 0, .slice none 0 0, .slice none 0 0, .slice none 0 0, .slice none 0 0, .slice none 0 0, .slice none 0 0, .slice none 0 0, .slice none 0 0, .slice none 0 0] 41)) w0.heap.size w.heap.size [] [] := by
  have hb := heap_alloc_new w (.cells #[.slice none 0 0, .slice none 0 0, .slice none 0 0, .slice none 0 0, .slice none 0 0, .slice none 0 0, .slice none 0 0, .slice none 0 0, .slice none 0 0, .slice none 0 0, .slice none 0 0, .slice none 0 0] 41)
  have hc : ∀ j, j < 12 → (w.alloc (.cells #[.slice none 0 0, .slice none 0 0, .slice none 0 0, .slice none 0 0, .slice none 0 0, .slice none 0 0, .slice none 0 0, .slice none 0 0, .slice none 0 0, .slice none 0 0, .slice none 0 0, .slice none 0 0] 41)).cell? ⟨w.heap.size, j, none⟩ = some (.slice none 0 0) := fun j hj => by
    rw [World.cell?_alloc_new]
    rcases j with _ | _ | _ | _ | _ | _ | _ | _ | _ | _ | _ | _ | _ <;> first | rfl | omega
  exact ⟨h0.alloc h0.size _, h0.size, ⟨_, hb, rfl⟩,
    ⟨⟨_, _, hc 2 (by omega), hc 3 (by omega), World.ownsRow_nil _ _ _ _, World.ownsRow_nil _ _ _ _, fun g q => by cases q⟩, fun x hx => by simp at hx, fun x hx => by simp at hx, rfl, fun i x y hx => by simp at hx, List.Pairwise.nil, fun x hx => by simp at hx⟩,
    ⟨hc 0 (by omega), hc 4 (by omega), hc 6 (by omega), hc 8 (by omega), hc 10 (by omega)⟩⟩
structure HeldI (w0 w : World) (base p : Nat) (LInts : List IL) (CInts : Nat → List Int) : Prop where
  below : Below base w0 w
  hp : base ≤ p
  book : BookB w p
  hInts : HeldInts w base p LInts CInts
  nils : NilsI w p
theorem BookI.held {w0 w : World} {base p : Nat} {LInts MInts : List IL} (h : BookI w0 w base p LInts MInts) : HeldI w0 w base p LInts (fun i => (LInts[i]?.map (·.l)).getD []) :=
  ⟨h.below, h.hp, h.book, h.kInts.held, h.nils⟩
theorem HeldI.putInts {w0 w w' : World} {base p n : Nat} {LInts : List IL} {CInts : Nat → List Int} {C : Nat → List Int} (h : HeldI w0 w base p LInts CInts) (k : PuttingInts w w' base p LInts n C) : HeldI w0 w' base p LInts C :=
  ⟨h.below.trans k.below, h.hp, k.book, k.held, h.nils.turn k.turn (fun _ q => q.elim)⟩
theorem HeldI.growInts {w0 w w' : World} {base p N : Nat} {LInts : List IL} {CInts : Nat → List Int} {Lo : List IL} {vo : Value} (h : HeldI w0 w base p LInts CInts) (k : GrowInts w w' base p LInts CInts N Lo vo) : HeldI w0 w' base p LInts CInts :=
  ⟨h.below.trans k.below, h.hp, k.book, k.held, h.nils.turn k.turn (fun _ q => q.elim)⟩
structure DoneI (w0 w : World) (base p : Nat) (vInts : Value) : Prop where
  below : Below base w0 w
  hp : base ≤ p
  book : BookB w p
  fInts : FinInts w p vInts
  nils : NilsI w p

set_option maxRecDepth 100000 in
set_option maxHeartbeats 4000000 in
theorem apartI_is (w0 w : World) (base p : Nat) (LInts MInts : List IL) (h : BookI w0 w base p LInts MInts) (sInts : LInts.length ≤ 200) :
    Calls Tryz.prog 33 #[.pointer (some ⟨p, 0, none⟩)] w fun e w' => e = .returned (.bool true) ∧ Below base w0 w' := by
  have HW := Lib.hid h
  have H := Lib.hid h
  have HH := Lib.hid (Nat.le_refl 0)
  clear h
  go_enter Tryz.func33, Tryz.ntmps33
  go_wp2_with (first
    | (go_at_call 75; refine (stillTexts_nil p _ H.out.nils.c0).mono ?_; rintro e w1 ⟨rfl, hw⟩; obtain rfl := hw.symm)
    | (go_at_call 76
       obtain ⟨ao, am, co, cm, hbo⟩ := H.out.kInts.both
       refine (stillInts_is p LInts MInts ao am co cm _ hbo (by omega)).mono ?_
       rintro e w1 ⟨rfl, mInts, rfl⟩
       replace H := Lib.hid (HW.out.next (bel_drewN (Below.refl _ _) (mInts)))
       clear hbo)
    | (go_at_call 77; refine (stillChanges_nil p _ H.out.nils.c4).mono ?_; rintro e w1 ⟨rfl, hw⟩; obtain rfl := hw.symm)
    | (go_at_call 78; refine (stillEntries_nil p _ H.out.nils.c6).mono ?_; rintro e w1 ⟨rfl, hw⟩; obtain rfl := hw.symm)
    | (go_at_call 79; refine (stillCodes_nil p _ H.out.nils.c8).mono ?_; rintro e w1 ⟨rfl, hw⟩; obtain rfl := hw.symm)
    | (go_at_call 80; refine (stillNodes_nil p _ H.out.nils.c10).mono ?_; rintro e w1 ⟨rfl, hw⟩; obtain rfl := hw.symm)
    | (go_at_call 81; refine (putNodes_nil p _ H.out.nils.c10).mono ?_; rintro e w1 ⟨rfl, hw⟩; obtain rfl := hw.symm)
    | (go_at_call 82; refine (putTexts_nil p _ H.out.nils.c0).mono ?_; rintro e w1 ⟨rfl, hw⟩; obtain rfl := hw.symm)
    | (go_at_call 83
       have G := Lib.hid H.out.held
       refine (putInts_is base p LInts _ _ G.out.book G.out.hp G.out.hInts sInts).mono ?_
       rintro e w1 ⟨rfl, CInts, kp⟩
       have GInts := Lib.hid (G.out.putInts kp)
       have DInts := Lib.hid (fun k x (hx : LInts[k]? = some x) => kp.done k x (List.getElem?_eq_some_iff.1 hx).1 hx)
       clear kp)
    | (go_at_call 84; refine (putChanges_nil p _ GInts.out.nils.c4).mono ?_; rintro e w1 ⟨rfl, hw⟩; obtain rfl := hw.symm)
    | (go_at_call 85; refine (putEntries_nil p _ GInts.out.nils.c6).mono ?_; rintro e w1 ⟨rfl, hw⟩; obtain rfl := hw.symm)
    | (go_at_call 86; refine (putCodes_nil p _ GInts.out.nils.c8).mono ?_; rintro e w1 ⟨rfl, hw⟩; obtain rfl := hw.symm)
    | (go_at_call 87; refine (growTexts_nil p _ GInts.out.nils.c0).mono ?_; rintro e w1 ⟨rfl, hw⟩; obtain rfl := hw.symm)
    | (go_at_call 88
       refine (growInts_is base p LInts CInts _ GInts.out.book GInts.out.hp GInts.out.hInts DInts.out sInts).mono ?_
       rintro e w1 ⟨NInts, LoInts, vInts, rfl, hlo, kg⟩
       have RInts := Lib.hid (GInts.out.growInts kg)
       have UInts := Lib.hid (And.intro hlo (And.intro kg.out (fun i y hy => And.intro (kg.lo i y hy).1 (And.intro (kg.lo i y hy).2.1 (kg.lo i y hy).2.2.1))))
       have Z : Hid (DoneI w0 w1 base p vInts) := Lib.hid ⟨RInts.out.below, RInts.out.hp, RInts.out.book, finInts RInts.out.hInts DInts.out sInts UInts.out.1 UInts.out.2.1 UInts.out.2.2, RInts.out.nils⟩
       clear kg hlo)
    | (go_at_call 89; refine (growChanges_nil p _ RInts.out.nils.c4).mono ?_; rintro e w1 ⟨rfl, hw⟩; obtain rfl := hw.symm)
    | (go_at_call 90; refine (growEntries_nil p _ RInts.out.nils.c6).mono ?_; rintro e w1 ⟨rfl, hw⟩; obtain rfl := hw.symm)
    | (go_at_call 91; refine (growCodes_nil p _ RInts.out.nils.c8).mono ?_; rintro e w1 ⟨rfl, hw⟩; obtain rfl := hw.symm)
    | (go_at_call 92; refine (growNodes_nil p _ RInts.out.nils.c10).mono ?_; rintro e w1 ⟨rfl, hw⟩; obtain rfl := hw.symm))
  obtain ⟨taInts, tkInts, tLInts, rfl, txInts, tyInts, tzInts⟩ := Z.out.fInts.told
  obtain ⟨faInts, fkInts, fLInts, fcInts, fxInts, fyInts, fzInts⟩ := Z.out.fInts.field
  have MTInts := Lib.hid (fun z (q : Below w1.heap.size w1 z) => markedInts_is taInts tLInts tkInts z (tyInts.below q) tzInts txInts)
  have MFInts := Lib.hid (fun z (q : Below w1.heap.size w1 z) => markedInts_is faInts fLInts fkInts z (fyInts.below q) fzInts fxInts)
  have FF := Lib.hid (fun z (q : Below w1.heap.size w1 z) => And.intro ((q.cell (p := ⟨p, 2, none⟩) Z.out.book.lt).trans fcInts) ((Z.out.nils.turn (Turn.of_below (J := fun _ => False) (R := fun _ => False) q Z.out.book.lt) (fun _ q => q.elim))))
  have HB : Hid (Below w1.heap.size w1 w1) := Lib.hid (Below.refl _ _)
  have HE := Lib.hid (And.intro Z.out.below (Nat.le_trans Z.out.hp (Nat.le_of_lt Z.out.book.lt)))
  have c2_s := (FF.out _ HB.out).1
  have c0_s := (FF.out _ HB.out).2.c0
  have c4_s := (FF.out _ HB.out).2.c4
  have c6_s := (FF.out _ HB.out).2.c6
  have c8_s := (FF.out _ HB.out).2.c8
  have c10_s := (FF.out _ HB.out).2.c10
  clear txInts tyInts tzInts fxInts fyInts fzInts fcInts H HW HH Z G GInts DInts RInts UInts
  go_wp2_with (first
    | (go_at_call 93; refine (markedTexts_nil _).mono ?_; rintro e w2 ⟨rfl, hw⟩; obtain rfl := hw.symm)
    | (go_at_call 94
       with_reducible refine (MTInts.out _ HB.out).mono ?_
       rintro e w2 ⟨rfl, b2⟩
       replace HB := Lib.hid (below_next HB.out b2)
       have c2_0 := (FF.out _ HB.out).1
       have c0_0 := (FF.out _ HB.out).2.c0
       have c4_0 := (FF.out _ HB.out).2.c4
       have c6_0 := (FF.out _ HB.out).2.c6
       have c8_0 := (FF.out _ HB.out).2.c8
       have c10_0 := (FF.out _ HB.out).2.c10
       clear b2)
    | (go_at_call 94
       with_reducible refine (MFInts.out _ HB.out).mono ?_
       rintro e w2 ⟨rfl, b2⟩
       replace HB := Lib.hid (below_next HB.out b2)
       have c2_1 := (FF.out _ HB.out).1
       have c0_1 := (FF.out _ HB.out).2.c0
       have c4_1 := (FF.out _ HB.out).2.c4
       have c6_1 := (FF.out _ HB.out).2.c6
       have c8_1 := (FF.out _ HB.out).2.c8
       have c10_1 := (FF.out _ HB.out).2.c10
       clear b2)
    | (go_at_call 95; refine (markedChanges_nil _).mono ?_; rintro e w2 ⟨rfl, hw⟩; obtain rfl := hw.symm)
    | (go_at_call 96; refine (markedEntries_nil _).mono ?_; rintro e w2 ⟨rfl, hw⟩; obtain rfl := hw.symm)
    | (go_at_call 97; refine (markedCodes_nil _).mono ?_; rintro e w2 ⟨rfl, hw⟩; obtain rfl := hw.symm)
    | (go_at_call 98; refine (markedNodes_nil _).mono ?_; rintro e w2 ⟨rfl, hw⟩; obtain rfl := hw.symm))
  all_goals
    go_ret
    exact ⟨rfl, HE.out.1.trans (HB.out.mono HE.out.2)⟩
end Go.Proofs.YtiiioeodanmieaaGreatDoor.Bk
-- BookBI
namespace Go.Proofs.YtiiioeodanmieaaGreatDoor.Bk
open Go.RowKit

def BKInts (w : World) (p : Nat) (L M : List IL) (b : Nat) : Prop := b = p ∨ (∃ v, (w.cell? ⟨p, 2, none⟩ = some v ∨ w.cell? ⟨p, 3, none⟩ = some v) ∧ v.ownBlock = some b) ∨ (∃ x ∈ L, x.cell.ownBlock = some b) ∨ ∃ x ∈ M, x.cell.ownBlock = some b
theorem BKInts.same {w w' : World} {p : Nat} {L M : List IL} (h : w'.cell? ⟨p, 2, none⟩ = w.cell? ⟨p, 2, none⟩ ∧ w'.cell? ⟨p, 3, none⟩ = w.cell? ⟨p, 3, none⟩) (b : Nat) : BKInts w' p L M b ↔ BKInts w p L M b := by
  unfold BKInts
  rw [h.1, h.2]
theorem KeepInts.blocks {w w' : World} {base p : Nat} {L M : List IL} (h : KeepInts w base p L M) (hb : BookB w p) (k : ∀ i, BKInts w p L M i → w'.heap[i]? = w.heap[i]?) (hs : w.heap.size ≤ w'.heap.size) : KeepInts w' base p L M := by
  have hp := k p (.inl rfl)
  have t : Turn w w' p (fun _ => False) (fun i => ¬ BKInts w p L M i) := ⟨hs, fun g _ _ hr => k g (Classical.not_not.1 hr), fun j _ => World.cell?_of_block (a := ⟨p, j, none⟩) hp, book_of_block hp⟩
  obtain ⟨vO, vM, c0, c1, o0, o1, ha⟩ := h.ex
  refine ⟨⟨vO, vM, (t.cell 2 id).trans c0, (t.cell 3 id).trans c1, ?_, ?_, ha⟩, fun x hx => ?_, fun x hx => ?_, h.len, h.same, h.apart, h.small⟩
  · exact owns_turn o0 t (fun g hg => ⟨not_book hb o0 (by decide) hg, fun e => e (.inr (.inl ⟨_, .inl c0, hg⟩))⟩)
  · exact owns_turn o1 t (fun g hg => ⟨not_book hb o1 (by decide) hg, fun e => e (.inr (.inl ⟨_, .inr c1, hg⟩))⟩)
  · exact owns_turn (h.each x hx) t (fun g hg => ⟨not_book hb (h.each x hx) (by decide) hg, fun e => e (.inr (.inr (.inl ⟨x, hx, hg⟩)))⟩)
  · exact owns_turn (h.copy x hx) t (fun g hg => ⟨not_book hb (h.copy x hx) (by decide) hg, fun e => e (.inr (.inr (.inr ⟨x, hx, hg⟩)))⟩)
theorem KeepInts.lt {w : World} {base p : Nat} {L M : List IL} (h : KeepInts w base p L M) (hb : BookB w p) (hp : base ≤ p) (b : Nat) (q : BKInts w p L M b) : base ≤ b ∧ b < w.heap.size := by
  obtain ⟨vO, vM, c0, c1, o0, o1, ha⟩ := h.ex
  rcases q with e | ⟨v, e1 | e1, e2⟩ | ⟨z, hz, e⟩ | ⟨z, hz, e⟩
  · subst e; exact ⟨hp, hb.lt⟩
  · rw [c0] at e1
    obtain rfl := Option.some.inj e1
    exact o0.lt b e2
  · rw [c1] at e1
    obtain rfl := Option.some.inj e1
    exact o1.lt b e2
  · exact (h.each z hz).lt b e
  · exact (h.copy z hz).lt b e

set_option maxRecDepth 100000 in
set_option maxHeartbeats 2000000 in
theorem keepInts_isB (base p : Nat) (L M : List IL) (x : IL) (w : World) (hb : BookB w p) (hp : base ≤ p) (h : KeepInts w base p L M) (hx : w.ownsRow base 3 1 x.cell x.l.length (vals x.l))
    (hap : ∀ y ∈ L, ∀ g, y.cell.ownBlock = some g → x.cell.ownBlock ≠ some g) (hs : x.l.length ≤ 1000) (hL : L.length ≤ 200) :
    Calls Tryz.prog 18 #[.pointer (some ⟨p, 0, none⟩), .slice x.a x.l.length x.c] w fun e w' => e = .returned (.tuple #[]) ∧ Below base w w' ∧ Turn w w' p (fun j => j = 2 ∨ j = 3) (OfType w 25) ∧ (∀ b, b < w.heap.size → ¬ BKInts w p L M b → w'.heap[b]? = w.heap[b]?) ∧ ∃ y : IL, KeepInts w' base p (L ++ [x]) (M ++ [y]) ∧ ∀ b, BKInts w' p (L ++ [x]) (M ++ [y]) b → BKInts w p L M b ∨ x.cell.ownBlock = some b ∨ w.heap.size ≤ b := by
  obtain ⟨i0, hi, hz0, hz1, hz2⟩ := info_parts outInfoInts
  have HI := Lib.hid (And.intro hi (And.intro hz0 (And.intro hz1 hz2)))
  clear hi hz0 hz1 hz2
  obtain ⟨vO, vM, c0, c1, o0, o1, hne⟩ := h.ex
  obtain ⟨ao, co, rfl⟩ := owns_slice o0
  obtain ⟨am, cm, rfl⟩ := owns_slice o1
  have hpl := hb.lt
  have f0 := hb.frozen 2
  have f1 := hb.frozen 3
  have hLi : (L.length : Int) < 250 := by omega
  have n0 : ∀ g, Value.ownBlock (.slice ao L.length co) = some g → g ≠ p := fun g hg => not_book hb o0 (by decide) hg
  have n1 : ∀ g, Value.ownBlock (.slice am M.length cm) = some g → g ≠ p := fun g hg => not_book hb o1 (by decide) hg
  have HK := Lib.hid (And.intro hb (And.intro h (And.intro hx (And.intro o0 (And.intro o1 (And.intro hne (And.intro n0 n1)))))))
  have HC := Lib.hid (And.intro c0 c1)
  have hM100 : M.length ≤ 200 := by have := h.len; omega
  clear hb h hx o0 o1 hne n0 n1
  go_enter Tryz.func18, Tryz.ntmps18
  go_wp2_with (refine wpList_append_lies _ rfl (.tmp 14) (.tmp 16) 35 rfl base 25 i0 _ 1 24 Tryz.underlying35 HI.out.1 HI.out.2.1 HI.out.2.2.1 HI.out.2.2.2 rfl (by omega) (.slice ao L.length co) L.length (L.map IL.cell) rfl (HK.out.2.2.2.1.alloc _) _ 1 1 [x.cell] rfl rfl (by exact World.news_of_block (heap_alloc_last _ _)) (by intro u hu; simp at hu; rw [hu]; rfl) (by omega) (by unfold maxLen; omega) (by omega) (by simp; omega) _ rfl ?_
               intro g4 cap4 w4 hown4 hgr4 hat4 hlt4
               have b4 := (grown_block hgr4 (show p < _ by simp; omega) (fun e => (HK.out.2.2.2.2.2.2.1 p e) rfl)).trans (heap_alloc_old w _ hpl)
               have d4 : w4.cell? ⟨p, 2, none⟩ = some (.slice ao L.length co) := (World.cell?_of_block (a := ⟨p, 2, none⟩) b4).trans c0
               have g5 : w4.frozen? ⟨p, 2, none⟩ = false := (World.frozen?_of_block (a := ⟨p, 2, none⟩) b4).trans f0)
  have hpush := pushed (J := fun j => j = 2) HK.out.1 hp ((Below.refl w.heap.size w).alloc (Nat.le_refl _) _) HK.out.2.2.2.1 hown4 hgr4 hat4 (by decide) rfl d4
  clear hown4 hgr4 hat4 hlt4 b4 d4 g5 c0 f0
  generalize w4.setCell ⟨p, 2, none⟩ (.slice (some ⟨g4, 0, none⟩) (L.length + 1) cap4) = w5 at *
  obtain ⟨q1, q2, _, q4, q5, q6, q7⟩ := hpush
  have hb5 := q2.book HK.out.1
  have k5 : w5.ownsRow base 25 1 (.slice am M.length cm) M.length (M.map IL.cell) := owns_turn HK.out.2.2.2.2.1 q2 (fun g hg => ⟨HK.out.2.2.2.2.2.2.2 g hg, fun e => HK.out.2.2.2.2.2.1 g e hg⟩)
  have x5 : w5.ownsRow base 3 1 x.cell x.l.length (vals x.l) := owns_turn HK.out.2.2.1 q2 (fun g hg => ⟨not_book HK.out.1 HK.out.2.2.1 (by decide) hg, fun e => not_type HK.out.2.2.1 (show 3 ≠ 25 by decide) hg (by
    obtain ⟨cur, hh⟩ := own_type HK.out.2.2.2.1 e
    exact ⟨cur, _, hh⟩)⟩)
  have c5 : w5.cell? ⟨p, 3, none⟩ = some (.slice am M.length cm) := (q2.cell 3 (by decide)).trans c1
  have f5 := hb5.frozen 3
  have hp5 := hb5.lt
  have lx : LiesAt w5 x.a (vals x.l) := by
    obtain ⟨a', c', hv, hl, _⟩ := own_form x5
    obtain ⟨rfl, rfl⟩ : x.a = a' ∧ x.c = c' := by simpa [IL.cell] using hv
    exact hl
  have HQ := Lib.hid (And.intro q1 (And.intro q2 (And.intro q4 (And.intro q5 (And.intro q6 (And.intro q7 (And.intro hb5 (And.intro k5 (And.intro x5 lx)))))))))
  clear q1 q2 q4 q5 q6 q7 hb5 k5 x5 lx c1 f1
  go_region_law (first
    | (refine step_append_lies _ rfl (.tmp 24) (.tmp 27) 35 rfl base 25 i0 _ 1 24 Tryz.underlying35 HI.out.1 HI.out.2.1 HI.out.2.2.1 HI.out.2.2.2 (by rfl) (by omega) (.slice am M.length cm) M.length (M.map IL.cell) rfl ((own_below HQ.out.2.2.2.2.2.2.2.1 H6.out.1).alloc _) _ 1 1 [.slice a6 x.l.length c6] rfl rfl (by exact World.news_of_block (heap_alloc_last _ _)) (by intro u hu; simp at hu; rw [hu]; rfl) (by omega) (by unfold maxLen; omega) (by omega) (by have := H6.out.1.size; have := HQ.out.1.size; have := HK.out.1.lt; simp; omega) _ rfl ?_
       intro g7 cap7 w7 hown7 hgr7 hat7 hlt7
       have b7 := (grown_block hgr7 (show p < _ by have := H6.out.1.size; simp; omega) (fun e => (HK.out.2.2.2.2.2.2.2 p e) rfl)).trans (heap_alloc_old w6 _ (show p < w6.heap.size by have := H6.out.1.size; omega))
       have d7 : w7.cell? ⟨p, 3, none⟩ = some (.slice am M.length cm) := (World.cell?_of_block (a := ⟨p, 3, none⟩) b7).trans d6
       have f7 : w7.frozen? ⟨p, 3, none⟩ = false := (World.frozen?_of_block (a := ⟨p, 3, none⟩) b7).trans f6)
    | (go_simp
       go_at_call 53
       refine (copyInts_is x.a x.l x.c _ (HQ.out.2.2.2.2.2.2.2.2.2.below (Below.refl _ _).drew) (by omega)).mono ?_
       rintro e w6 ⟨v6, rfl, b6, o6⟩
       obtain ⟨a6, c6, rfl⟩ := owns_slice o6
       have b6' : Below w5.heap.size w5 w6 := (Below.refl w5.heap.size w5).drew.trans b6
       have d6 : w6.cell? ⟨p, 3, none⟩ = some (.slice am M.length cm) := (b6'.cell (p := ⟨p, 3, none⟩) hp5).trans c5
       have f6 : w6.frozen? ⟨p, 3, none⟩ = false := (b6'.frozen (p := ⟨p, 3, none⟩) hp5).trans f5
       have hp6 : p < w6.heap.size := Nat.lt_of_lt_of_le hp5 b6'.size
       have H6 := Lib.hid (And.intro b6' o6)
       clear b6 b6' o6))
  all_goals
    obtain ⟨q1, q2, q4, q5, q6, q7, hb5, k5, x5, lx⟩ := HQ.out
    obtain ⟨hb, hk, hx, o0, o1, hne, n0, n1⟩ := HK.out
    obtain ⟨r1, r2, r3, r4, r5, r6, r7⟩ := pushed (J := fun j => j = 3) hb5 hp (H6.out.1.alloc H6.out.1.size _) k5 hown7 hgr7 hat7 (by decide) rfl d7
    have tt := (q2.mono (J' := fun j => j = 2 ∨ j = 3) (R' := OfType w 25) (fun j e => Or.inl e) (fun g _ e => by
      obtain ⟨cur, hh⟩ := own_type o0 e
      exact ⟨cur, _, hh⟩)).trans (r2.mono (fun j e => Or.inr e) (fun g _ e => by
      obtain ⟨cur, hh⟩ := own_type o1 e
      exact ⟨cur, _, hh⟩))
    have hvM : ∀ g, Value.ownBlock (.slice am M.length cm) = some g → g < w.heap.size := fun g hg => (o1.lt g hg).2
    have h45 : ∀ g, Value.ownBlock (.slice am M.length cm) = some g → g4 ≠ g := fun g hg => by
      rcases q6 with e | e
      · rintro rfl
        exact hne _ e hg
      · have := hvM g hg
        omega
    have h47 : g4 ≠ g7 := by
      rcases r6 with e | e
      · exact h45 _ e
      · have := (q4.lt g4 rfl).2
        omega
    have bu : Below w6.heap.size w6 (w6.alloc (.cells #[.slice a6 x.l.length c6] 25)) := (Below.refl _ _).alloc (Nat.le_refl _) _
    have bb : base ≤ (w5.drew).heap.size := Nat.le_trans hp (Nat.le_of_lt hb5.lt)
    have y6 := owns_base bb (own_below H6.out.2 bu)
    have m6 := own_below (own_below k5 H6.out.1) bu
    have hb6 : BookB (w6.alloc (.cells #[.slice a6 x.l.length c6] 25)) p := book_of_block (bu.block p (Nat.lt_of_lt_of_le hb5.lt H6.out.1.size)) (book_of_block (H6.out.1.block p hb5.lt) hb5)
    have y7 := owns_turn y6 r3 (fun g hg => ⟨not_book hb6 y6 (by decide) hg, fun e => not_type y6 (show 3 ≠ 25 by decide) hg (by
      obtain ⟨cur, hh⟩ := own_type m6 e
      exact ⟨cur, _, hh⟩)⟩)
    have fin : KeepInts _ base p (L ++ [x]) (M ++ [⟨a6, x.l, c6⟩]) := {
      ex := ⟨_, _, (r2.cell 2 (by decide)).trans q5, r5, by simpa using owns_turn q4 r2 (fun g hg => by
          obtain rfl : g4 = g := by simpa [Value.ownBlock] using hg
          exact ⟨q7, fun e => h45 _ e rfl⟩), by simpa [IL.cell] using r4, fun g hg e => by
          obtain rfl : g4 = g := by simpa [Value.ownBlock] using hg
          obtain rfl : g7 = g4 := by simpa [Value.ownBlock] using e
          exact h47 rfl⟩
      each := fun z hz => by
        rcases List.mem_append.1 hz with e | e
        · exact owns_typed (hk.each z e) hb tt (by decide) (by decide)
        · obtain rfl : z = x := by simpa using e
          exact owns_typed hx hb tt (by decide) (by decide)
      copy := fun z hz => by
        rcases List.mem_append.1 hz with e | e
        · exact owns_typed (hk.copy z e) hb tt (by decide) (by decide)
        · obtain rfl : z = ⟨a6, x.l, c6⟩ := by simpa using e
          exact y7
      len := by simp [hk.len]
      same := fun i z y hz hy => by
        rcases Nat.lt_or_ge i L.length with e | e
        · rw [List.getElem?_append_left e] at hz
          rw [List.getElem?_append_left (by rw [← hk.len]; exact e)] at hy
          exact hk.same i z y hz hy
        · rw [List.getElem?_append_right e] at hz
          rw [List.getElem?_append_right (by rw [← hk.len]; exact e), ← hk.len] at hy
          have : i - L.length = 0 := by have := (List.getElem?_eq_some_iff.1 hz).1; simp at this; omega
          rw [this] at hz hy
          obtain rfl : x = z := by simpa using hz
          obtain rfl : (⟨a6, x.l, c6⟩ : IL) = y := by simpa using hy
          rfl
      apart := List.pairwise_append.2 ⟨hk.apart, List.pairwise_singleton _ _, fun y hy z hz => by
        obtain rfl : z = x := by simpa using hz
        exact hap y hy⟩
      small := fun z hz => by
        rcases List.mem_append.1 hz with e | e
        · exact hk.small z e
        · obtain rfl : z = x := by simpa using e
          exact hs }
    have hw5 := q1.size
    have hblk : ∀ b, b < w.heap.size → ¬ BKInts w p L M b → _ := fun b hb' hn => (r2.block b (Nat.lt_of_lt_of_le hb' hw5) (fun e => hn (.inl e)) (fun e => hn (.inr (.inl ⟨_, .inr HC.out.2, e⟩)))).trans (q2.block b hb' (fun e => hn (.inl e)) (fun e => hn (.inr (.inl ⟨_, .inl HC.out.1, e⟩))))
    have hBG : ∀ b, BKInts _ p (L ++ [x]) (M ++ [⟨a6, x.l, c6⟩]) b → BKInts w p L M b ∨ x.cell.ownBlock = some b ∨ w.heap.size ≤ b := fun b hb' => by
      rcases hb' with e | ⟨v, e1 | e1, e2⟩ | ⟨z, hz, e⟩ | ⟨z, hz, e⟩
      · exact .inl (.inl e)
      · rw [(r2.cell 2 (by decide)).trans q5] at e1
        obtain rfl := Option.some.inj e1
        obtain rfl : g4 = b := by simpa [Value.ownBlock] using e2
        rcases q6 with r | r
        · exact .inl (.inr (.inl ⟨_, .inl HC.out.1, r⟩))
        · exact .inr (.inr r)
      · rw [r5] at e1
        obtain rfl := Option.some.inj e1
        obtain rfl : g7 = b := by simpa [Value.ownBlock] using e2
        rcases r6 with r | r
        · exact .inl (.inr (.inl ⟨_, .inr HC.out.2, r⟩))
        · exact .inr (.inr (Nat.le_trans hw5 r))
      · rcases List.mem_append.1 hz with r | r
        · exact .inl (.inr (.inr (.inl ⟨z, r, e⟩)))
        · obtain rfl : z = x := by simpa using r
          exact .inr (.inl e)
      · rcases List.mem_append.1 hz with r | r
        · exact .inl (.inr (.inr (.inr ⟨z, r, e⟩)))
        · obtain rfl : z = ⟨a6, x.l, c6⟩ := by simpa using r
          exact .inr (.inr (Nat.le_trans hw5 (H6.out.2.lt b e).1))
    exact bodyPost_end (results_none rfl _ _ _) rfl ⟨rfl, q1.trans r1, tt, hblk, _, fin, hBG⟩

def BGI (w : World) (p : Nat) (LInts MInts : List IL) (b : Nat) : Prop := BKInts w p LInts MInts b
theorem BGI.same {w w' : World} {p : Nat} {LInts MInts : List IL} (h : w'.heap[p]? = w.heap[p]?) (b : Nat) : BGI w' p LInts MInts b ↔ BGI w p LInts MInts b := by
  unfold BGI
  rw [BKInts.same ⟨World.cell?_of_block (w := w) (a := ⟨p, 2, none⟩) h, World.cell?_of_block (w := w) (a := ⟨p, 3, none⟩) h⟩ b]
theorem BookI.lt {w0 w : World} {base p : Nat} {LInts MInts : List IL} (h : BookI w0 w base p LInts MInts) (b : Nat) (q : BGI w p LInts MInts b) : base ≤ b ∧ b < w.heap.size := by
  rcases q with q
  · exact h.kInts.lt h.book h.hp b q
end Go.Proofs.YtiiioeodanmieaaGreatDoor.Bk
