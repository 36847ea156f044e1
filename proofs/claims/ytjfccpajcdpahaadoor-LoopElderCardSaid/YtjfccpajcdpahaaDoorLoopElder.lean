/- LoopElder: entries of an elder epoch are never told, wherever they lie. -/
import Derived.Test.YtjfccpajcdpahaaDoorLoopLgMore
import Derived.Test.YtjfccpajcdpahaaDoorEntryOpenL
namespace Go.Proofs.YtjfccpajcdpahaaDoor
open Go.RowKit Sec
open Go.Proofs.YtjfccpajcdpahaaDoor.Bk

/-- The log, and the list of all changes since its head. -/
structure El (W u : World) (q p n : Nat) (V : Value) (hd nx : Nat) (ep : Int) (T : List Chg) (K : Nat) : Prop where
  b : Below W.heap.size W u
  o : u.ownsRow W.heap.size 39 2 V T.length (flat Chg.cells T)
  g : Lg W.heap.size (fun b => V.ownBlock = some b) u q p 0 n hd nx ep T K
section
variable {W u u' : World} {q p n : Nat} {V : Value} {hd nx : Nat} {ep : Int} {T : List Chg} {K : Nat}
theorem El.next (h : El W u q p n V hd nx ep T K) (b : Below u.heap.size u u') : El W u' q p n V hd nx ep T K :=
  ⟨h.b.trans (b.mono h.b.size), own_belowK h.o b, h.g.below b⟩
/-- Behind a cut: a list of none. -/
theorem El.cut (h : El W u q p n V hd nx ep T K) {ep' : Int} (b : Below W.heap.size u u') (g : Lg W.heap.size (fun b => V.ownBlock = some b) u' q p 0 n nx nx ep' [] K) : El W u' q p n (.slice none 0 0) nx nx ep' [] K :=
  ⟨h.b.trans b, World.ownsRow_nil _ _ _ _, g.mono (fun b q => by simp [Value.ownBlock] at q)⟩
/-- Behind Append. -/
theorem El.app (h : El W u q p n V hd nx ep T K) {nx' K' : Nat} {T' : List Chg} (b : Below W.heap.size u u') (k : KeptG (fun b => V.ownBlock = some b) u u') (g : Lg W.heap.size (fun b => V.ownBlock = some b) u' q p 0 n hd nx' ep T' K') :
    Below W.heap.size W u' ∧ u'.ownsRow W.heap.size 39 2 V T.length (flat Chg.cells T) ∧ Lg W.heap.size (fun b => V.ownBlock = some b) u' q p 0 n hd nx' ep T' K' :=
  ⟨h.b.trans b, owns_keptG h.o k, g⟩
theorem el_push {nx' K' : Nat} {T' : List Chg} {x : List Chg} {V' : Value} (h : Below W.heap.size W u ∧ u.ownsRow W.heap.size 39 2 V T.length (flat Chg.cells T) ∧ Lg W.heap.size (fun b => V.ownBlock = some b) u q p 0 n hd nx' ep T' K') (hT : T' = T ++ x)
    (ho : u'.ownsRow W.heap.size 39 2 V' (T.length + x.length) (flat Chg.cells T ++ flat Chg.cells x)) (hg : u.grownBy u' V.ownBlock) (hf : ∀ b, V'.ownBlock = some b → V.ownBlock = some b ∨ (u.heap.size ≤ b ∧ b < u'.heap.size)) : El W u' q p n V' hd nx' ep T' K' := by
  have hr : ∀ k, V.ownBlock = some k → W.heap.size ≤ k := fun k hk => (h.2.1.lt k hk).1
  refine ⟨h.1.grown hg h.1.size hr, ?_, (h.2.2.grow hg (fun k hk => ⟨hk, hr k hk⟩)).mono hf⟩
  rw [hT, List.length_append, flat_app]
  exact ho
theorem el_lim (hn : n ≤ 30) (hh : hd ≤ 1000) (e0 : 1 ≤ ep) (e1 : ep ≤ 100) (hK : K ≤ 5000) : Lim 0 n hd ep K := ⟨by omega, by omega, by omega, by omega, by omega, by omega⟩
theorem El.form (h : El W u q p n V hd nx ep T K) : ∃ a c, V = .slice a T.length c := by
  obtain ⟨a, c, hv, _⟩ := own_formK h.o
  exact ⟨a, c, hv⟩
theorem El.scan (h : El W u q p n V hd nx ep T K) (L : Lim 0 n hd ep K) :
    Calls Tryd.prog 10 #[.pointer (some ⟨p, 0, none⟩), .int .i64 0, .int .i64 n, .int .i64 (hd : Int), .int .i64 ep] u fun e w' => ∃ a c, e = .returned (.tuple #[.slice a T.length c, .int .i64 (nx : Int), .int .i64 0]) ∧ El W w' q p n V hd nx ep T K ∧ LiesAt w' a (flat Chg.cells T) := by
  refine (lg_scan h.g L).mono fun e w' ⟨v, he, hb, ho⟩ => ?_
  obtain ⟨a, c, rfl, hl, _⟩ := own_formK ho
  exact ⟨a, c, he, h.next hb, hl⟩
theorem El.same {a1 a2 : Option Addr} {c1 c2 : Nat} (h : El W u q p n (.slice a2 T.length c2) hd nx ep T K) (h1 : LiesAt u a1 (flat Chg.cells T)) (hT : T.length ≤ 1000) :
    Calls Tryd.prog 15 #[.slice a1 T.length c1, .slice a2 T.length c2] u fun e w' => e = .returned (.bool true) ∧ El W w' q p n (.slice a2 T.length c2) hd nx ep T K := by
  refine (SameChanges_is T T a1 a2 c1 c2 u h1 (row_liesK h.o) (by unfold maxLen; omega) (by unfold maxLen; omega) true ⟨fun _ => rfl, fun _ => rfl⟩).mono fun e w' ⟨he, m, hm⟩ => ⟨he, ?_⟩
  rw [hm]
  exact h.next ⟨rfl, rfl, rfl, Nat.le_refl _, fun _ _ => rfl⟩
end

set_option maxRecDepth 100000 in
set_option maxHeartbeats 8000000 in
theorem Elder_walk (x : Int) (a0 : Option Addr) (L : List ArgL) (c0 : Nat) (y : Int) (W : World) (ht : TyOk W.heap.size W) (h : ArgIs W a0 L) :
    Calls Tryd.prog 4 #[.int .i64 x, .slice a0 L.length c0, .int .i64 y] W fun e w' => e = .returned (.bool true) ∧ Below W.heap.size W w' := by
  have HT := Lib.hid ht
  clear ht
  by_cases hin : x < 4 ∨ 30 < x ∨ 20 < L.length ∨ y < 0 ∨ 20 < y
  · have HA := Lib.hid (lalive_is W HT.out)
    clear h
    rcases hin with h | h | h | h | h
    all_goals
      go_enter Tryd.func4, Tryd.ntmps4
      go_wp2_with (go_at_call 7; refine HA.out.mono ?_; rintro e w1 ⟨rfl, hb1⟩)
    all_goals
      go_ret
      exact ⟨rfl, hb1⟩
  · obtain ⟨n, rfl⟩ := Int.eq_ofNat_of_zero_le (show 0 ≤ x by omega)
    have h1 : 4 ≤ (n : Int) := by omega
    have h2 : (n : Int) ≤ 30 := by omega
    have h3 : (L.length : Int) ≤ 20 := by omega
    have h4 : 0 ≤ y := by omega
    have h5 : y ≤ 20 := by omega
    have hn30 : n ≤ 30 := by omega
    obtain ⟨i0, hi, hz0, hz1, hz2⟩ := info_parts chgInfo
    have HI := Lib.hid (And.intro hi (And.intro hz0 (And.intro hz1 hz2)))
    have HMN := Lib.hid (show (min (max (n : Int) 0) 3000).toNat = n by omega)
    have H := Lib.hid h
    clear hin hi hz0 hz1 hz2 h
    go_enter Tryd.func4, Tryd.ntmps4
    go_wp2_with (first
      | (go_at_call 7; refine (lalive_is _ HT.out).mono ?_; rintro e w1 ⟨rfl, hb1⟩)
      | (go_at_call 8; refine (New_k n _ (HT.out.below hb1) hb1.size).mono ?_; rintro e w2 ⟨p, rfl, hA, hb2, _⟩; rw [HMN.out] at hA; have H2 : Hid (AtK W.heap.size (fun _ => False) w2 p (newD n) ∧ Below W.heap.size W w2) := Lib.hid ⟨hA.mono (fun _ q => q.elim), hb1.trans (hb2.mono hb1.size)⟩; clear hA hb2)
      | (go_at_call 9
         refine (lg_new H2.out.1 0 n 0 1 (by omega) (by omega) (by omega) (by omega) (by omega)).mono ?_
         rintro e w3 ⟨q, rfl, A3, b3⟩
         have H3 := Lib.hid (And.intro A3 (H2.out.2.trans (b3.mono H2.out.2.size)))
         clear A3 b3))
    go_loopw [9, 10, 11] (fun ev v i wr => ∃ (j : Nat) (ep : Int) (T : List Chg) (hd nx K : Nat), j ≤ L.length ∧ i = .int .i64 (j : Int) ∧ ev = .int .i64 ep ∧ Hid (El W wr q p n v hd nx ep T K) ∧ Hid (1 ≤ ep ∧ ep ≤ 1 + (j : Int) ∧ nx ≤ j * 21 ∧ K ≤ j * 24 ∧ T.length ≤ j * 20)) (fun _ _ i _ => L.length - (intOf i).toNat)
    case atStart => exact ⟨0, 1, [], 0, 0, 0, Nat.zero_le _, rfl, rfl, Lib.hid ⟨H3.out.2, World.ownsRow_nil _ _ _ _, H3.out.1.mono (fun b q => by simp [Value.ownBlock] at q)⟩, Lib.hid ⟨by omega, by omega, by omega, by omega, by simp⟩⟩
    case round =>
      obtain ⟨j, ep, T, hd, nx, K, hj, rfl, rfl, HE, HB⟩ := hrel
      by_cases hlt : j < L.length
      · obtain ⟨⟨bb, rfl, hbl, hc⟩, hx⟩ := H.out j _ (List.getElem?_eq_getElem hlt)
        generalize hxe : L[j] = x at *
        have HC : Hid (∀ u, Below W.heap.size W u → u.cell? (bb.add j) = some (.slice x.a x.l.length x.c)) := Lib.hid (fun u hu => by
          rw [hu.cell (by rw [show (bb.add j).block = bb.block by unfold Addr.add; split <;> rfl]; exact hbl)]
          exact hc)
        have hc0 := HC.out _ HE.out.b
        have hi1 : (j : Int) < (L.length : Int) := by omega
        have HX := Lib.hid hx
        clear hx hc hbl hxe
        by_cases hbig : 20 < x.l.length
        · have hb1 : (20 : Int) < (x.l.length : Int) := by omega
          go_wp2
          go_ret
          exact ⟨rfl, HE.out.b⟩
        · have hb1 : ¬ (20 : Int) < (x.l.length : Int) := by omega
          obtain ⟨a9, c9, rfl⟩ := HE.out.form
          have hord := HE.out.g.ord
          have ⟨e0, e1, e2, e3, e4⟩ := HB.out
          by_cases hcut : (j : Int) % 5 = y % 5
          · go_wp2_with (go_at_call 11
                         refine (lg_cut HE.out.g (ep + 1) (by omega) (by omega)).mono ?_
                         rintro e w4 ⟨rfl, A4, b4, _⟩
                         have H5 : Hid (El W w4 q p n (.slice none ([] : List Chg).length 0) nx nx (ep + 1) [] K) := Lib.hid (HE.out.cut b4 A4)
                         have hc1 := HC.out _ H5.out.b
                         have HB5 : Hid (1 ≤ ep + 1 ∧ ep + 1 ≤ 2 + (j : Int) ∧ nx ≤ 1000 ∧ ([] : List Chg).length ≤ j * 20) := Lib.hid ⟨by omega, by omega, by omega, by simp⟩
                         clear A4 b4)
            refine (lg_append H5.out.g (el_lim hn30 (by have := HB5.out; omega) (by have := HB5.out; omega) (by have := HB5.out; omega) (by omega)) x.a x.l x.c (HX.out.below H5.out.b) (by omega)).mono ?_
            rintro e w5 ⟨z, nx', T', rfl, A5, b5, g5, hx⟩
            have H6 := Lib.hid (H5.out.app b5 g5 A5)
            clear A5 b5 g5
            rcases hx with ⟨rfl, hnx, hT, _, hroom⟩ | ⟨hz, hnx, hT, _⟩
            · have hc2 := HC.out _ H6.out.1
              have HTT := Lib.hid hT
              have HTl : Hid (T'.length ≤ (j + 1) * 20) := Lib.hid (by rw [hT, List.length_append]; have := HB5.out.2.2.2; omega)
              have hTb := HB5.out.2.2.2
              clear hT
              go_wp2_with (first
                | (refine wpList_append_rowF rfl (.tmp 76) (.tmp 80) 27 rfl W.heap.size 39 i0 _ 2 16 Tryd.underlying27 HI.out.1 HI.out.2.1 HI.out.2.2.1 HI.out.2.2.2 ?ba1 ?ba2 _ _ _ ?ba3 H6.out.2.1 x.a x.l.length x.c (flat Chg.cells x.l) ?ba5 ?ba6 ?ba7 ?ba8 ?bb1 ?bb2 ?bb3 ?bb5
                   case ba1 => rfl
                   case ba2 => omega
                   case ba3 => rfl
                   case ba5 => rfl
                   case ba6 => rw [flat_len Chg.len]
                   case ba7 => exact HX.out.below H6.out.1
                   case ba8 => exact flat_all Chg.one _
                   case bb1 => unfold maxLen; omega
                   case bb2 => omega
                   case bb3 => exact H6.out.1.size
                   intro v6 w6 hown6 hgr6 hf6
                   have H7 := Lib.hid (el_push H6.out HTT.out hown6 hgr6 hf6)
                   clear hown6 hgr6 hf6
                   obtain ⟨a6, c6, rfl⟩ := H7.out.form)
                | (go_at_call 13; refine (lg_head H7.out.g).mono ?_; rintro e w8 ⟨rfl, rfl⟩)
                | (go_at_call 10
                   refine (H7.out.scan (el_lim hn30 (by have := HB5.out; omega) (by have := HB5.out; omega) (by have := HB5.out; omega) (by omega))).mono ?_
                   rintro e w9 ⟨ax, cx, rfl, E9, l9⟩
                   have H8 := Lib.hid (And.intro E9 l9)
                   clear E9 l9)
                | (go_at_call 14; refine (lg_next H8.out.1.g).mono ?_; rintro e w10 ⟨rfl, rfl⟩)
                | (go_at_call 15
                   refine (H8.out.1.same H8.out.2 (by have := HTl.out; omega)).mono ?_
                   rintro e w11 ⟨rfl, E11⟩
                   have H9 := Lib.hid E11
                   clear E11))
              exact ⟨⟨j + 1, _, _, _, _, _, by omega, by go_num, rfl, H9, Lib.hid ⟨HB5.out.1, by have := HB5.out.2.1; omega, by omega, by omega, HTl.out⟩⟩, by simp [intOf]; omega⟩
            · subst hnx hT
              have H7 := Lib.hid (show El W w5 q p n _ _ _ _ _ _ from ⟨H6.out.1, H6.out.2.1, H6.out.2.2⟩)
              have HTl := Lib.hid (show _ ≤ (j + 1) * 20 from (Nat.le_trans HB5.out.2.2.2 (by omega)))
              have hzb : (z == 0) = false := by simpa using hz
              go_wp2_with (first
                | (go_at_call 13; refine (lg_head H7.out.g).mono ?_; rintro e w8 ⟨rfl, rfl⟩)
                | (go_at_call 10
                   refine (H7.out.scan (el_lim hn30 (by have := HB5.out; omega) (by have := HB5.out; omega) (by have := HB5.out; omega) (by omega))).mono ?_
                   rintro e w9 ⟨ax, cx, rfl, E9, l9⟩
                   have H8 := Lib.hid (And.intro E9 l9)
                   clear E9 l9)
                | (go_at_call 14; refine (lg_next H8.out.1.g).mono ?_; rintro e w10 ⟨rfl, rfl⟩)
                | (go_at_call 15
                   refine (H8.out.1.same H8.out.2 (by have := HTl.out; omega)).mono ?_
                   rintro e w11 ⟨rfl, E11⟩
                   have H9 := Lib.hid E11
                   clear E11))
              exact ⟨⟨j + 1, _, _, _, _, _, by omega, by go_num, rfl, H9, Lib.hid ⟨HB5.out.1, by have := HB5.out.2.1; omega, by omega, by omega, HTl.out⟩⟩, by simp [intOf]; omega⟩
          · have hcutb : ((j : Int) % 5 == y % 5) = false := by simpa using hcut
            go_wp2_with fail
            have H5 := HE
            have HB5 : Hid (1 ≤ ep ∧ ep ≤ 2 + (j : Int) ∧ hd ≤ 1000 ∧ T.length ≤ j * 20) := Lib.hid ⟨by omega, by omega, by omega, by omega⟩
            refine (lg_append H5.out.g (el_lim hn30 (by have := HB5.out; omega) (by have := HB5.out; omega) (by have := HB5.out; omega) (by omega)) x.a x.l x.c (HX.out.below H5.out.b) (by omega)).mono ?_
            rintro e w5 ⟨z, nx', T', rfl, A5, b5, g5, hx⟩
            have H6 := Lib.hid (H5.out.app b5 g5 A5)
            clear A5 b5 g5
            rcases hx with ⟨rfl, hnx, hT, _, hroom⟩ | ⟨hz, hnx, hT, _⟩
            · have hc2 := HC.out _ H6.out.1
              have HTT := Lib.hid hT
              have HTl : Hid (T'.length ≤ (j + 1) * 20) := Lib.hid (by rw [hT, List.length_append]; have := HB5.out.2.2.2; omega)
              have hTb := HB5.out.2.2.2
              clear hT
              go_wp2_with (first
                | (refine wpList_append_rowF rfl (.tmp 76) (.tmp 80) 27 rfl W.heap.size 39 i0 _ 2 16 Tryd.underlying27 HI.out.1 HI.out.2.1 HI.out.2.2.1 HI.out.2.2.2 ?bax1 ?bax2 _ _ _ ?bax3 H6.out.2.1 x.a x.l.length x.c (flat Chg.cells x.l) ?bax5 ?bax6 ?bax7 ?bax8 ?bbx1 ?bbx2 ?bbx3 ?bbx5
                   case bax1 => rfl
                   case bax2 => omega
                   case bax3 => rfl
                   case bax5 => rfl
                   case bax6 => rw [flat_len Chg.len]
                   case bax7 => exact HX.out.below H6.out.1
                   case bax8 => exact flat_all Chg.one _
                   case bbx1 => unfold maxLen; omega
                   case bbx2 => omega
                   case bbx3 => exact H6.out.1.size
                   intro v6 w6 hown6 hgr6 hf6
                   have H7 := Lib.hid (el_push H6.out HTT.out hown6 hgr6 hf6)
                   clear hown6 hgr6 hf6
                   obtain ⟨a6, c6, rfl⟩ := H7.out.form)
                | (go_at_call 13; refine (lg_head H7.out.g).mono ?_; rintro e w8 ⟨rfl, rfl⟩)
                | (go_at_call 10
                   refine (H7.out.scan (el_lim hn30 (by have := HB5.out; omega) (by have := HB5.out; omega) (by have := HB5.out; omega) (by omega))).mono ?_
                   rintro e w9 ⟨ax, cx, rfl, E9, l9⟩
                   have H8 := Lib.hid (And.intro E9 l9)
                   clear E9 l9)
                | (go_at_call 14; refine (lg_next H8.out.1.g).mono ?_; rintro e w10 ⟨rfl, rfl⟩)
                | (go_at_call 15
                   refine (H8.out.1.same H8.out.2 (by have := HTl.out; omega)).mono ?_
                   rintro e w11 ⟨rfl, E11⟩
                   have H9 := Lib.hid E11
                   clear E11))
              exact ⟨⟨j + 1, _, _, _, _, _, by omega, by go_num, rfl, H9, Lib.hid ⟨HB5.out.1, by have := HB5.out.2.1; omega, by omega, by omega, HTl.out⟩⟩, by simp [intOf]; omega⟩
            · subst hnx hT
              have H7 := Lib.hid (show El W w5 q p n _ _ _ _ _ _ from ⟨H6.out.1, H6.out.2.1, H6.out.2.2⟩)
              have HTl := Lib.hid (show _ ≤ (j + 1) * 20 from (Nat.le_trans HB5.out.2.2.2 (by omega)))
              have hzb : (z == 0) = false := by simpa using hz
              go_wp2_with (first
                | (go_at_call 13; refine (lg_head H7.out.g).mono ?_; rintro e w8 ⟨rfl, rfl⟩)
                | (go_at_call 10
                   refine (H7.out.scan (el_lim hn30 (by have := HB5.out; omega) (by have := HB5.out; omega) (by have := HB5.out; omega) (by omega))).mono ?_
                   rintro e w9 ⟨ax, cx, rfl, E9, l9⟩
                   have H8 := Lib.hid (And.intro E9 l9)
                   clear E9 l9)
                | (go_at_call 14; refine (lg_next H8.out.1.g).mono ?_; rintro e w10 ⟨rfl, rfl⟩)
                | (go_at_call 15
                   refine (H8.out.1.same H8.out.2 (by have := HTl.out; omega)).mono ?_
                   rintro e w11 ⟨rfl, E11⟩
                   have H9 := Lib.hid E11
                   clear E11))
              exact ⟨⟨j + 1, _, _, _, _, _, by omega, by go_num, rfl, H9, Lib.hid ⟨HB5.out.1, by have := HB5.out.2.1; omega, by omega, by omega, HTl.out⟩⟩, by simp [intOf]; omega⟩
      · obtain rfl : j = L.length := by omega
        have hn1 : ¬ (L.length : Int) < (L.length : Int) := by omega
        go_wp2
        go_ret
        exact ⟨rfl, HE.out.b⟩
end Go.Proofs.YtjfccpajcdpahaaDoor
