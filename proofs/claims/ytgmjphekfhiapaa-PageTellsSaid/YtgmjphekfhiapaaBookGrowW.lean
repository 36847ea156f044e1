/- The book: growTexts, growInts. -/
import Derived.Test.YtgmjphekfhiapaaBookGrows
namespace Go.Proofs.Ytgmjphekfhiapaa.Bk
open Go.RowKit

theorem marks_addTexts (k n m : Nat) : marksT k 0 (n + m) = marksT k 0 n ++ marksT k n m := by
  induction m with
  | zero => rw [Nat.add_zero, show marksT k n 0 = [] from rfl, List.append_nil]
  | succ m ih => 
    first
      | rw [← Nat.add_assoc, marksT_snoc, ih, marksT_snoc, List.append_assoc, Nat.zero_add]
      | rw [← Nat.add_assoc, marksI_snoc, ih, marksI_snoc, List.append_assoc, Nat.zero_add]
theorem marks_takeTexts (k n m : Nat) : (marksT k 0 (n + m)).take n = marksT k 0 n := by
  rw [marks_addTexts, List.take_left' (by first | rw [marksT_len] | rw [marksI_len])]
theorem enc_addTexts (a b : List ByteArray) : txts (a ++ b) = txts a ++ txts b := by simp [txts]
theorem grow_startTexts {w : World} {base p : Nat} {L : List TL} {C : Nat → List ByteArray} (hb : BookB w p) (h : HeldTexts w base p L C) : GrowTexts w w base p L C w.heap.size [] (.slice none 0 0) :=
  ⟨Below.refl _ _, Turn.refl _ _ _ _, hb, h, World.ownsRow_nil _ _ _ _, fun i y hy => by simp at hy, ⟨Nat.le_refl _, Nat.le_refl _⟩⟩

set_option maxRecDepth 100000 in
set_option maxHeartbeats 4000000 in
theorem growTexts_is (base p : Nat) (L : List TL) (C : Nat → List ByteArray) (w : World) (hb : BookB w p) (hp : base ≤ p) (h : HeldTexts w base p L C) (hC : ∀ (k : Nat) (x : TL), L[k]? = some x → C k = marksT k 0 x.l.length) (hL : L.length ≤ 100) :
    Calls Try.prog 48 #[.pointer (some ⟨p, 0, none⟩)] w fun e w' => ∃ N Lo vo, e = .returned vo ∧ Lo.length = L.length ∧ GrowTexts w w' base p L C N Lo vo := by
  obtain ⟨i0, hi, hz0, hz1, hz2⟩ := info_parts outInfoTexts
  have HI := Lib.hid (And.intro hi (And.intro hz0 (And.intro hz1 hz2)))
  clear hi hz0 hz1 hz2
  obtain ⟨i1, hi, hz0, hz1, hz2⟩ := info_parts strInfo
  have HJ := Lib.hid (And.intro hi (And.intro hz0 (And.intro hz1 hz2)))
  clear hi hz0 hz1 hz2
  have HS := Lib.hid (grow_startTexts hb h)
  have HB := Lib.hid (And.intro hb (And.intro h hC))
  have hLi : (L.length : Int) ≤ 100 := by omega
  clear h hb hC
  go_enter Try.func48, Try.ntmps48
  go_wp2
  go_loopw [3, 4] (fun ov i wr => ∃ (k N : Nat) (Lo : List TL), k ≤ L.length ∧ i = .int .i64 (k : Int) ∧ Hid (Lo.length = k ∧ GrowTexts w wr base p L C N Lo ov)) (fun _ i _ => L.length - (intOf i).toNat)
  case atStart => exact ⟨0, _, [], Nat.zero_le _, rfl, Lib.hid ⟨rfl, HS.out⟩⟩
  case round =>
    obtain ⟨k, N, Lo, hk, rfl, HP⟩ := hrel
    obtain ⟨ao, co, c0, o0⟩ := HP.out.2.held.ex
    by_cases hlt : k < L.length
    · have hx : L[k]? = some L[k] := List.getElem?_eq_getElem hlt
      obtain ⟨go, co', hv, _, _, hgo⟩ := own_blk o0 (by omega)
      obtain ⟨rfl, rfl⟩ : ao = some ⟨go, 0, none⟩ ∧ co = co' := by simpa using hv
      have r0 := (owns_cell o0 (k := k) (x := L[k].cell) (by rw [List.getElem?_map, hx]; rfl)).1
      have hsm := HP.out.2.held.small _ (List.getElem_mem hlt)
      have hCk := HB.out.2.2 k _ hx
      generalize L[k] = x at *
      have r1 : wr.cell? ⟨go, k, none⟩ = some (.slice x.a x.l.length x.c) := r0
      have hi1 : (k : Int) < (L.length : Int) := by omega
      have hk1 : (k : Int) ≤ 1000 := by omega
      have HQ := Lib.hid (And.intro hx hCk)
      have HR : Hid (GrowTexts w wr base p L C N Lo u3 ∧ wr.ownsRow base 9 1 (.slice x.a (x.l.length + 0) x.c) (x.l.length + 0) (txts (marksT k 0 (x.l.length + 0))) ∧ ((x.a = x.a ∧ x.c = x.c) ∨ ∀ g', Value.ownBlock (.slice x.a (x.l.length + 0) x.c) = some g' → N ≤ g')) := Lib.hid ⟨HP.out.2, by
        have := HP.out.2.held.each k x hx
        rw [hCk] at this
        exact this, .inl ⟨rfl, rfl⟩⟩
      have HK := Lib.hid HP.out.1
      clear hx r0 hv o0 HP hCk
      go_wp2
      go_loopw [5, 6] (fun lv i wx => ∃ (q s cl : Nat) (al : Option Addr), q ≤ 12 ∧ s ≤ 1012 ∧ Hid (s = x.l.length + q) ∧ i = .int .i64 (q : Int) ∧ lv = .slice al s cl ∧ Hid (GrowTexts w wx base p L C N Lo u3 ∧ wx.ownsRow base 9 1 (.slice al s cl) s (txts (marksT k 0 s)) ∧ ((al = x.a ∧ cl = x.c) ∨ ∀ g', Value.ownBlock (.slice al s cl) = some g' → N ≤ g'))) (fun _ i _ => 12 - (intOf i).toNat)
      case atStart => exact ⟨0, x.l.length, x.c, x.a, Nat.zero_le _, by omega, Lib.hid rfl, rfl, rfl, Lib.hid ⟨HR.out.1, HR.out.2.1, .inl ⟨rfl, rfl⟩⟩⟩
      case round =>
        obtain ⟨q, s, cl, al, hq, hs1, hs2, rfl, rfl, HT⟩ := hrel
        have hsi : (s : Int) ≤ 1012 := by omega
        by_cases hq12 : q < 12
        · have hi2 : (q : Int) < 12 := by omega
          have hbs := HT.out.1.book.lt
          go_wp2_with (first
            | (go_at_call 75
               refine (markTexts_is k s 1 _ hk1 (by omega) (by decide)).mono ?_
               rintro e w2 ⟨vm, rfl, b2, o2⟩
               obtain ⟨gm, cm, rfl, _⟩ := own_blk o2 (by omega)
               have H2 := Lib.hid (And.intro b2 o2)
               clear b2 o2)
            | (refine wpList_append_two rfl (.tmp 27) (.tmp 31) 34 rfl base 9 i1 _ 16 Try.underlying34 HJ.out.1 HJ.out.2.1 HJ.out.2.2.1 HJ.out.2.2.2 rfl (.slice al s cl) s (txts (marksT k 0 s)) rfl (own_below HT.out.2.1 H2.out.1) _ 1 cm (txts (marksT k s 1)) rfl (by first | rw [txts_len', marksT_len] | rw [txts_len', marksI_len]) (H2.out.2.cells (g := gm) rfl) txts_one (by omega) (by unfold maxLen; omega) (by omega) (by have := H2.out.1.size; omega) ?_
               intro g cap w4 hown4 hgr4 hb4 hlt4
               have H4 := Lib.hid (And.intro hown4 hgr4)
               clear hown4 hgr4 hb4 hlt4))
          have HN : Hid (GrowTexts w w4 base p L C N Lo u3 ∧ w4.ownsRow base 9 1 (.slice (some ⟨g, 0, none⟩) (s + 1) cap) (s + 1) (txts (marksT k 0 (s + 1))) ∧ ((some ⟨g, 0, none⟩ = x.a ∧ cap = x.c) ∨ ∀ g', Value.ownBlock (.slice (some ⟨g, 0, none⟩) (s + 1) cap) = some g' → N ≤ g')) := Lib.hid (by
            have ho := H4.out.1
            rw [← enc_addTexts, ← marks_addTexts] at ho
            obtain ⟨n1, n2⟩ := (HT.out.1.next hp H2.out.1).step hp HB.out.2.1 HQ.out.1 HK.out.symm (own_below HT.out.2.1 H2.out.1) (by have := hs2.out; omega) HT.out.2.2 H4.out.2 ho (by
              rw [hs2.out, Nat.add_assoc, marks_takeTexts]
              exact HQ.out.2.symm)
            exact ⟨n1, ho, n2⟩)
          exact ⟨⟨q + 1, s + 1, cap, some ⟨g, 0, none⟩, by omega, by have := hs2.out; omega, Lib.hid (by have := hs2.out; omega), by go_num, rfl, HN⟩, by simp [intOf]; omega⟩
        · obtain rfl : q = 12 := by omega
          have hn2 : ¬ (12 : Int) < 12 := by omega
          have hbs := HT.out.1.book.lt
          have hLo := HK.out
          go_wp2_with (first
            | (go_at_call 75
               refine (markTexts_is k s 60 _ hk1 (by omega) (by decide)).mono ?_
               rintro e w2 ⟨vm, rfl, b2, o2⟩
               obtain ⟨gm, cm, rfl, _⟩ := own_blk o2 (by omega)
               have H2 := Lib.hid (And.intro b2 o2)
               clear b2 o2)
            | (refine wpList_append_two rfl (.tmp 34) (.tmp 38) 34 rfl base 9 i1 _ 16 Try.underlying34 HJ.out.1 HJ.out.2.1 HJ.out.2.2.1 HJ.out.2.2.2 rfl (.slice al s cl) s (txts (marksT k 0 s)) rfl (own_below HT.out.2.1 H2.out.1) _ 60 cm (txts (marksT k s 60)) rfl (by first | rw [txts_len', marksT_len] | rw [txts_len', marksI_len]) (H2.out.2.cells (g := gm) rfl) txts_one (by omega) (by unfold maxLen; omega) (by omega) (by have := H2.out.1.size; omega) ?_
               intro g cap w4 hown4 hgr4 hb4 hlt4
               have hsz4 : w.heap.size ≤ w4.heap.size := by
                 have h1 := HT.out.1.N
                 have h2 := H2.out.1.size
                 rcases hgr4 with ⟨_, e⟩ | ⟨_, e⟩
                 · have := e.size; omega
                 · have := e.size; omega
               have HG : Hid (GrowTexts w w4 base p L C N Lo u3 ∧ w4.ownsRow base 9 1 (.slice (some ⟨g, 0, none⟩) (s + 60) cap) (s + 60) (txts (marksT k 0 (s + 60))) ∧ ((some ⟨g, 0, none⟩ = x.a ∧ cap = x.c) ∨ ∀ g', Value.ownBlock (.slice (some ⟨g, 0, none⟩) (s + 60) cap) = some g' → N ≤ g')) := Lib.hid (by
                 have ho := hown4
                 rw [← enc_addTexts, ← marks_addTexts] at ho
                 obtain ⟨n1, n2⟩ := (HT.out.1.next hp H2.out.1).step hp HB.out.2.1 HQ.out.1 HK.out.symm (own_below HT.out.2.1 H2.out.1) (by have := hs2.out; omega) HT.out.2.2 hgr4 ho (by
                   rw [hs2.out, Nat.add_assoc, marks_takeTexts]
                   exact HQ.out.2.symm)
                 exact ⟨n1, ho, n2⟩)
               clear hown4 hgr4 hb4 hlt4)
            | (refine wpList_append_two rfl (.tmp 33) (.tmp 40) 26 rfl w.heap.size 34 i0 _ 24 Try.underlying26 HI.out.1 HI.out.2.1 HI.out.2.2.1 HI.out.2.2.2 rfl u3 Lo.length (Lo.map TL.cell) rfl (HG.out.1.out.alloc _) _ 1 1 [.slice (some ⟨g, 0, none⟩) (s + 60) cap] rfl rfl (by exact World.news_of_block (heap_alloc_last _ _)) (by intro u hu; simp at hu; rw [hu]; rfl) (by omega) (by unfold maxLen; omega) (by omega) (by simp; omega) ?_
               intro g6 cap6 w6 hown6 hgr6 hb6 hlt6
               have H6 := Lib.hid (And.intro hown6 hgr6)
               clear hown6 hgr6 hb6 hlt6))
          have HN : Hid (GrowTexts w w6 base p L C w6.heap.size (Lo ++ [⟨some ⟨g, 0, none⟩, marksT k 0 (s + 60), cap⟩]) (.slice (some ⟨g6, 0, none⟩) (Lo.length + 1) cap6)) := Lib.hid (by
            obtain ⟨n1, n2, n3⟩ := HG.out
            have ec : TL.cell ⟨some ⟨g, 0, none⟩, marksT k 0 (s + 60), cap⟩ = .slice (some ⟨g, 0, none⟩) (s + 60) cap := by
              first
                | rw [TL.cell, marksT_len]
                | rw [TL.cell, marksI_len]
            have el : (TL.l ⟨some ⟨g, 0, none⟩, marksT k 0 (s + 60), cap⟩).length = s + 60 := by
              first
                | exact marksT_len _ _ _
                | exact marksI_len _ _ _
            have ba := (Below.refl w4.heap.size w4).alloc (Nat.le_refl _) (.cells #[.slice (some ⟨g, 0, none⟩) (s + 60) cap] 34)
            refine (n1.next hp ba).push hp HB.out.2.1 HB.out.1 (by rw [HK.out]; exact HQ.out.1) (y := ⟨some ⟨g, 0, none⟩, marksT k 0 (s + 60), cap⟩) ?_ ?_ ?_ ?_ H6.out.2 ?_
            · rw [ec, el]
              exact own_below n2 ba
            · intro i hi
              rw [el, hi, HK.out]
            · rw [el]; omega
            · rw [ec]; exact n3
            · rw [ec]; exact H6.out.1)
          exact ⟨⟨k + 1, w6.heap.size, Lo ++ [⟨some ⟨g, 0, none⟩, marksT k 0 (s + 60), cap⟩], by omega, by go_num, Lib.hid ⟨by rw [List.length_append, HK.out]; rfl, by have h := HN.out; rw [HK.out] at h; exact h⟩⟩, by simp [intOf]; omega⟩
    · obtain rfl : k = L.length := by omega
      have hn : ¬ (L.length : Int) < (L.length : Int) := by omega
      clear hlt hk o0
      go_wp2
      go_ret
      exact ⟨N, Lo, _, rfl, HP.out.1, HP.out.2⟩
theorem marks_addInts (k n m : Nat) : marksI (k : Int) 0 (n + m) = marksI (k : Int) 0 n ++ marksI (k : Int) n m := by
  induction m with
  | zero => rw [Nat.add_zero, show marksI (k : Int) n 0 = [] from rfl, List.append_nil]
  | succ m ih => 
    first
      | rw [← Nat.add_assoc, marksT_snoc, ih, marksT_snoc, List.append_assoc, Nat.zero_add]
      | rw [← Nat.add_assoc, marksI_snoc, ih, marksI_snoc, List.append_assoc, Nat.zero_add]
theorem marks_takeInts (k n m : Nat) : (marksI (k : Int) 0 (n + m)).take n = marksI (k : Int) 0 n := by
  rw [marks_addInts, List.take_left' (by first | rw [marksT_len] | rw [marksI_len])]
theorem enc_addInts (a b : List Int) : vals (a ++ b) = vals a ++ vals b := by simp [vals]
theorem grow_startInts {w : World} {base p : Nat} {L : List IL} {C : Nat → List Int} (hb : BookB w p) (h : HeldInts w base p L C) : GrowInts w w base p L C w.heap.size [] (.slice none 0 0) :=
  ⟨Below.refl _ _, Turn.refl _ _ _ _, hb, h, World.ownsRow_nil _ _ _ _, fun i y hy => by simp at hy, ⟨Nat.le_refl _, Nat.le_refl _⟩⟩

set_option maxRecDepth 100000 in
set_option maxHeartbeats 4000000 in
theorem growInts_is (base p : Nat) (L : List IL) (C : Nat → List Int) (w : World) (hb : BookB w p) (hp : base ≤ p) (h : HeldInts w base p L C) (hC : ∀ (k : Nat) (x : IL), L[k]? = some x → C k = marksI (k : Int) 0 x.l.length) (hL : L.length ≤ 100) :
    Calls Try.prog 49 #[.pointer (some ⟨p, 0, none⟩)] w fun e w' => ∃ N Lo vo, e = .returned vo ∧ Lo.length = L.length ∧ GrowInts w w' base p L C N Lo vo := by
  obtain ⟨i0, hi, hz0, hz1, hz2⟩ := info_parts outInfoInts
  have HI := Lib.hid (And.intro hi (And.intro hz0 (And.intro hz1 hz2)))
  clear hi hz0 hz1 hz2
  obtain ⟨i1, hi, hz0, hz1, hz2⟩ := info_parts intInfo
  have HJ := Lib.hid (And.intro hi (And.intro hz0 (And.intro hz1 hz2)))
  clear hi hz0 hz1 hz2
  have HS := Lib.hid (grow_startInts hb h)
  have HB := Lib.hid (And.intro hb (And.intro h hC))
  have hLi : (L.length : Int) ≤ 100 := by omega
  clear h hb hC
  go_enter Try.func49, Try.ntmps49
  go_wp2
  go_loopw [3, 4] (fun ov i wr => ∃ (k N : Nat) (Lo : List IL), k ≤ L.length ∧ i = .int .i64 (k : Int) ∧ Hid (Lo.length = k ∧ GrowInts w wr base p L C N Lo ov)) (fun _ i _ => L.length - (intOf i).toNat)
  case atStart => exact ⟨0, _, [], Nat.zero_le _, rfl, Lib.hid ⟨rfl, HS.out⟩⟩
  case round =>
    obtain ⟨k, N, Lo, hk, rfl, HP⟩ := hrel
    obtain ⟨ao, co, c0, o0⟩ := HP.out.2.held.ex
    by_cases hlt : k < L.length
    · have hx : L[k]? = some L[k] := List.getElem?_eq_getElem hlt
      obtain ⟨go, co', hv, _, _, hgo⟩ := own_blk o0 (by omega)
      obtain ⟨rfl, rfl⟩ : ao = some ⟨go, 0, none⟩ ∧ co = co' := by simpa using hv
      have r0 := (owns_cell o0 (k := k) (x := L[k].cell) (by rw [List.getElem?_map, hx]; rfl)).1
      have hsm := HP.out.2.held.small _ (List.getElem_mem hlt)
      have hCk := HB.out.2.2 k _ hx
      generalize L[k] = x at *
      have r1 : wr.cell? ⟨go, k, none⟩ = some (.slice x.a x.l.length x.c) := r0
      have hi1 : (k : Int) < (L.length : Int) := by omega
      have hk1 : (k : Int) ≤ 1000 := by omega
      have HQ := Lib.hid (And.intro hx hCk)
      have HR : Hid (GrowInts w wr base p L C N Lo u3 ∧ wr.ownsRow base 3 1 (.slice x.a (x.l.length + 0) x.c) (x.l.length + 0) (vals (marksI (k : Int) 0 (x.l.length + 0))) ∧ ((x.a = x.a ∧ x.c = x.c) ∨ ∀ g', Value.ownBlock (.slice x.a (x.l.length + 0) x.c) = some g' → N ≤ g')) := Lib.hid ⟨HP.out.2, by
        have := HP.out.2.held.each k x hx
        rw [hCk] at this
        exact this, .inl ⟨rfl, rfl⟩⟩
      have HK := Lib.hid HP.out.1
      clear hx r0 hv o0 HP hCk
      go_wp2
      go_loopw [5, 6] (fun lv i wx => ∃ (q s cl : Nat) (al : Option Addr), q ≤ 12 ∧ s ≤ 1012 ∧ Hid (s = x.l.length + q) ∧ i = .int .i64 (q : Int) ∧ lv = .slice al s cl ∧ Hid (GrowInts w wx base p L C N Lo u3 ∧ wx.ownsRow base 3 1 (.slice al s cl) s (vals (marksI (k : Int) 0 s)) ∧ ((al = x.a ∧ cl = x.c) ∨ ∀ g', Value.ownBlock (.slice al s cl) = some g' → N ≤ g'))) (fun _ i _ => 12 - (intOf i).toNat)
      case atStart => exact ⟨0, x.l.length, x.c, x.a, Nat.zero_le _, by omega, Lib.hid rfl, rfl, rfl, Lib.hid ⟨HR.out.1, HR.out.2.1, .inl ⟨rfl, rfl⟩⟩⟩
      case round =>
        obtain ⟨q, s, cl, al, hq, hs1, hs2, rfl, rfl, HT⟩ := hrel
        have hsi : (s : Int) ≤ 1012 := by omega
        by_cases hq12 : q < 12
        · have hi2 : (q : Int) < 12 := by omega
          have hbs := HT.out.1.book.lt
          go_wp2_with (first
            | (go_at_call 76
               refine (markInts_is (k : Int) s 1 _ (by omega) hk1 (by omega) (by decide)).mono ?_
               rintro e w2 ⟨vm, rfl, b2, o2⟩
               obtain ⟨gm, cm, rfl, _⟩ := own_blk o2 (by omega)
               have H2 := Lib.hid (And.intro b2 o2)
               clear b2 o2)
            | (refine wpList_append_two rfl (.tmp 27) (.tmp 31) 22 rfl base 3 i1 _ 8 Try.underlying22 HJ.out.1 HJ.out.2.1 HJ.out.2.2.1 HJ.out.2.2.2 rfl (.slice al s cl) s (vals (marksI (k : Int) 0 s)) rfl (own_below HT.out.2.1 H2.out.1) _ 1 cm (vals (marksI (k : Int) s 1)) rfl (by first | rw [vals_len', marksT_len] | rw [vals_len', marksI_len]) (H2.out.2.cells (g := gm) rfl) vals_one (by omega) (by unfold maxLen; omega) (by omega) (by have := H2.out.1.size; omega) ?_
               intro g cap w4 hown4 hgr4 hb4 hlt4
               have H4 := Lib.hid (And.intro hown4 hgr4)
               clear hown4 hgr4 hb4 hlt4))
          have HN : Hid (GrowInts w w4 base p L C N Lo u3 ∧ w4.ownsRow base 3 1 (.slice (some ⟨g, 0, none⟩) (s + 1) cap) (s + 1) (vals (marksI (k : Int) 0 (s + 1))) ∧ ((some ⟨g, 0, none⟩ = x.a ∧ cap = x.c) ∨ ∀ g', Value.ownBlock (.slice (some ⟨g, 0, none⟩) (s + 1) cap) = some g' → N ≤ g')) := Lib.hid (by
            have ho := H4.out.1
            rw [← enc_addInts, ← marks_addInts] at ho
            obtain ⟨n1, n2⟩ := (HT.out.1.next hp H2.out.1).step hp HB.out.2.1 HQ.out.1 HK.out.symm (own_below HT.out.2.1 H2.out.1) (by have := hs2.out; omega) HT.out.2.2 H4.out.2 ho (by
              rw [hs2.out, Nat.add_assoc, marks_takeInts]
              exact HQ.out.2.symm)
            exact ⟨n1, ho, n2⟩)
          exact ⟨⟨q + 1, s + 1, cap, some ⟨g, 0, none⟩, by omega, by have := hs2.out; omega, Lib.hid (by have := hs2.out; omega), by go_num, rfl, HN⟩, by simp [intOf]; omega⟩
        · obtain rfl : q = 12 := by omega
          have hn2 : ¬ (12 : Int) < 12 := by omega
          have hbs := HT.out.1.book.lt
          have hLo := HK.out
          go_wp2_with (first
            | (go_at_call 76
               refine (markInts_is (k : Int) s 60 _ (by omega) hk1 (by omega) (by decide)).mono ?_
               rintro e w2 ⟨vm, rfl, b2, o2⟩
               obtain ⟨gm, cm, rfl, _⟩ := own_blk o2 (by omega)
               have H2 := Lib.hid (And.intro b2 o2)
               clear b2 o2)
            | (refine wpList_append_two rfl (.tmp 34) (.tmp 38) 22 rfl base 3 i1 _ 8 Try.underlying22 HJ.out.1 HJ.out.2.1 HJ.out.2.2.1 HJ.out.2.2.2 rfl (.slice al s cl) s (vals (marksI (k : Int) 0 s)) rfl (own_below HT.out.2.1 H2.out.1) _ 60 cm (vals (marksI (k : Int) s 60)) rfl (by first | rw [vals_len', marksT_len] | rw [vals_len', marksI_len]) (H2.out.2.cells (g := gm) rfl) vals_one (by omega) (by unfold maxLen; omega) (by omega) (by have := H2.out.1.size; omega) ?_
               intro g cap w4 hown4 hgr4 hb4 hlt4
               have hsz4 : w.heap.size ≤ w4.heap.size := by
                 have h1 := HT.out.1.N
                 have h2 := H2.out.1.size
                 rcases hgr4 with ⟨_, e⟩ | ⟨_, e⟩
                 · have := e.size; omega
                 · have := e.size; omega
               have HG : Hid (GrowInts w w4 base p L C N Lo u3 ∧ w4.ownsRow base 3 1 (.slice (some ⟨g, 0, none⟩) (s + 60) cap) (s + 60) (vals (marksI (k : Int) 0 (s + 60))) ∧ ((some ⟨g, 0, none⟩ = x.a ∧ cap = x.c) ∨ ∀ g', Value.ownBlock (.slice (some ⟨g, 0, none⟩) (s + 60) cap) = some g' → N ≤ g')) := Lib.hid (by
                 have ho := hown4
                 rw [← enc_addInts, ← marks_addInts] at ho
                 obtain ⟨n1, n2⟩ := (HT.out.1.next hp H2.out.1).step hp HB.out.2.1 HQ.out.1 HK.out.symm (own_below HT.out.2.1 H2.out.1) (by have := hs2.out; omega) HT.out.2.2 hgr4 ho (by
                   rw [hs2.out, Nat.add_assoc, marks_takeInts]
                   exact HQ.out.2.symm)
                 exact ⟨n1, ho, n2⟩)
               clear hown4 hgr4 hb4 hlt4)
            | (refine wpList_append_two rfl (.tmp 33) (.tmp 40) 27 rfl w.heap.size 22 i0 _ 24 Try.underlying27 HI.out.1 HI.out.2.1 HI.out.2.2.1 HI.out.2.2.2 rfl u3 Lo.length (Lo.map IL.cell) rfl (HG.out.1.out.alloc _) _ 1 1 [.slice (some ⟨g, 0, none⟩) (s + 60) cap] rfl rfl (by exact World.news_of_block (heap_alloc_last _ _)) (by intro u hu; simp at hu; rw [hu]; rfl) (by omega) (by unfold maxLen; omega) (by omega) (by simp; omega) ?_
               intro g6 cap6 w6 hown6 hgr6 hb6 hlt6
               have H6 := Lib.hid (And.intro hown6 hgr6)
               clear hown6 hgr6 hb6 hlt6))
          have HN : Hid (GrowInts w w6 base p L C w6.heap.size (Lo ++ [⟨some ⟨g, 0, none⟩, marksI (k : Int) 0 (s + 60), cap⟩]) (.slice (some ⟨g6, 0, none⟩) (Lo.length + 1) cap6)) := Lib.hid (by
            obtain ⟨n1, n2, n3⟩ := HG.out
            have ec : IL.cell ⟨some ⟨g, 0, none⟩, marksI (k : Int) 0 (s + 60), cap⟩ = .slice (some ⟨g, 0, none⟩) (s + 60) cap := by
              first
                | rw [IL.cell, marksT_len]
                | rw [IL.cell, marksI_len]
            have el : (IL.l ⟨some ⟨g, 0, none⟩, marksI (k : Int) 0 (s + 60), cap⟩).length = s + 60 := by
              first
                | exact marksT_len _ _ _
                | exact marksI_len _ _ _
            have ba := (Below.refl w4.heap.size w4).alloc (Nat.le_refl _) (.cells #[.slice (some ⟨g, 0, none⟩) (s + 60) cap] 22)
            refine (n1.next hp ba).push hp HB.out.2.1 HB.out.1 (by rw [HK.out]; exact HQ.out.1) (y := ⟨some ⟨g, 0, none⟩, marksI (k : Int) 0 (s + 60), cap⟩) ?_ ?_ ?_ ?_ H6.out.2 ?_
            · rw [ec, el]
              exact own_below n2 ba
            · intro i hi
              rw [el, hi, HK.out]
            · rw [el]; omega
            · rw [ec]; exact n3
            · rw [ec]; exact H6.out.1)
          exact ⟨⟨k + 1, w6.heap.size, Lo ++ [⟨some ⟨g, 0, none⟩, marksI (k : Int) 0 (s + 60), cap⟩], by omega, by go_num, Lib.hid ⟨by rw [List.length_append, HK.out]; rfl, by have h := HN.out; rw [HK.out] at h; exact h⟩⟩, by simp [intOf]; omega⟩
    · obtain rfl : k = L.length := by omega
      have hn : ¬ (L.length : Int) < (L.length : Int) := by omega
      clear hlt hk o0
      go_wp2
      go_ret
      exact ⟨N, Lo, _, rfl, HP.out.1, HP.out.2⟩
end Go.Proofs.Ytgmjphekfhiapaa.Bk
