/- EntryGroups' walk. -/
import Derived.Test.YthhcchpjjppmjaaEntryAlive
import Derived.Test.YthhcchpjjppmjaaEntryRun
import Derived.Test.YthhcchpjjppmjaaEntryOpenL
import Derived.Test.YthhcchpjjppmjaaBookBase
import Derived.Test.YthhcchpjjppmjaaTurnB
import Derived.OwnWalk
namespace Go.Proofs.Ythhcchpjjppmjaa
open Go.RowKit
open Go.Proofs.Ythhcchpjjppmjaa.Bk

def endsL (ls : List (List Chg)) (j : Nat) : List Int := (List.range j).map fun t => ((gAcc (ls.take (t + 1))).length : Int)
theorem endsL_next (ls : List (List Chg)) (j : Nat) : endsL ls (j + 1) = endsL ls j ++ [((gAcc (ls.take (j + 1))).length : Int)] := by simp [endsL, List.range_succ]
theorem gAcc_take (ls : List (List Chg)) (j : Nat) (h : j < ls.length) : gAcc (ls.take (j + 1)) = gAcc (ls.take j) ++ groupL ((gAcc (ls.take j)).length : Int) 1 ls[j] := by
  rw [List.take_succ_eq_append_getElem h, gAcc_next]
theorem intInfoG : (Try.prog.info? 3).map (fun i => (i.zero, i.size, i.bytes)) = some (some (.int .i64 0), 1, 8) := by kernel_rfl
/-- All entries so far, and where each group ends. -/
structure Gr (w wr : World) (va ve : Value) (pos j : Nat) (ls : List (List Chg)) : Prop where
  below : Below w.heap.size w wr
  all : wr.ownsRow w.heap.size 23 5 va pos (flat Ent.cells (gAcc (ls.take j)))
  ends : wr.ownsRow w.heap.size 3 1 ve j (vals (endsL ls j))
theorem Gr.next {w wr u : World} {va ve : Value} {pos j : Nat} {ls : List (List Chg)} (h : Gr w wr va ve pos j ls) (b : Below wr.heap.size wr u) : Gr w u va ve pos j ls :=
  ⟨h.below.trans (b.mono h.below.size), own_belowK h.all b, own_belowK h.ends b⟩
/-- The two rows behind the two appends. -/
theorem Gr.push {w wr u w4 u4 w5 : World} {va ve v4 v5 : Value} {pos pos2 j : Nat} {ls : List (List Chg)} {y : List Chg} (h : Gr w wr va ve pos j ls) (hy : ls[j]? = some y) (hp : pos = (gAcc (ls.take j)).length) (hp2 : pos2 = pos + (y.length + 1)) (b : Below wr.heap.size wr u)
    (hown : w4.ownsRow w.heap.size 23 5 v4 pos2 (flat Ent.cells (gAcc (ls.take j)) ++ flat Ent.cells (groupL (pos : Int) 1 y))) (hgr : u.grownBy w4 va.ownBlock) (b4 : Below w4.heap.size w4 u4)
    (hown5 : w5.ownsRow w.heap.size 3 1 v5 (j + 1) (vals (endsL ls j) ++ [.int .i64 (pos2 : Int)])) (hgr5 : u4.grownBy w5 ve.ownBlock) : Gr w w5 v4 v5 pos2 (j + 1) ls := by
  obtain ⟨hj, rfl⟩ := List.getElem?_eq_some_iff.1 hy
  have h1 := h.next b
  have e4 : w4.ownsRow w.heap.size 3 1 ve j (vals (endsL ls j)) := owns_grown h1.ends hgr (fun g e q => not_type h1.ends (show 3 ≠ 23 by decide) e (by
    obtain ⟨cur, hh⟩ := own_type h1.all q
    exact ⟨cur, _, hh⟩))
  have b1 : Below w.heap.size w w4 := h1.below.grown hgr h1.below.size (fun k hk => (h1.all.lt k hk).1)
  have e5 := own_belowK e4 b4
  have a5 := own_belowK hown b4
  have b5 : Below w.heap.size w u4 := b1.trans (b4.mono b1.size)
  refine ⟨b5.grown hgr5 b5.size (fun k hk => (e5.lt k hk).1), owns_grown (w := u4) ?_ hgr5 (fun g e q => not_type a5 (show 23 ≠ 3 by decide) e (by
    obtain ⟨cur, hh⟩ := own_type e5 q
    exact ⟨cur, _, hh⟩)), ?_⟩
  · rw [gAcc_take ls j hj, flat_app, ← hp]
    exact a5
  · rw [endsL_next, gAcc_take ls j hj, List.length_append, groupL_len, ← hp, ← hp2]
    simpa [vals] using hown5

theorem Gr.ends4 {w wr u w4 : World} {va ve : Value} {pos j : Nat} {ls : List (List Chg)} (h : Gr w wr va ve pos j ls) (b : Below wr.heap.size wr u) (hgr : u.grownBy w4 va.ownBlock) : w4.ownsRow w.heap.size 3 1 ve j (vals (endsL ls j)) :=
  owns_grown (h.next b).ends hgr (fun g e q => not_type (h.next b).ends (show 3 ≠ 23 by decide) e (by
    obtain ⟨cur, hh⟩ := own_type (h.next b).all q
    exact ⟨cur, _, hh⟩))
theorem gAcc_len_take (ls : List (List Chg)) (j : Nat) (y : List Chg) (hy : ls[j]? = some y) : (gAcc (ls.take (j + 1))).length = (gAcc (ls.take j)).length + (y.length + 1) := by
  obtain ⟨hj, rfl⟩ := List.getElem?_eq_some_iff.1 hy
  rw [gAcc_take ls j hj, List.length_append, groupL_len]
theorem cut_at (cut : Int) (pos : Nat) : (-((pos : Int) + 1) < cut.tmod ((pos : Int) + 1) ∧ cut.tmod ((pos : Int) + 1) < (pos : Int) + 1) ∧ ∃ K : Nat, K ≤ pos ∧ (cut.tmod ((pos : Int) + 1) + (pos : Int) + 1) % ((pos : Int) + 1) = (K : Int) ∧ (cut.tmod ((pos : Int) + 1) + (pos : Int) + 1).tmod ((pos : Int) + 1) = (K : Int) := by
  have h := turn_at cut (pos + 1) (by omega)
  rw [show ((pos + 1 : Nat) : Int) = (pos : Int) + 1 by omega, ← Int.add_assoc] at h
  obtain ⟨h1, K, h2, h3, h4⟩ := h
  exact ⟨h1, K, by omega, h3, h4⟩
theorem chLen (L : List Ent) : (changesL L).1.length ≤ L.length := by
  have go : ∀ (r : List Ent) (i wh : Nat) (op told : List Chg), (chR r i wh op told).1.length ≤ told.length + op.length + r.length := by
    intro r
    induction r with
    | nil => intro i wh op told; rw [chR]; simp
    | cons e r ih =>
      intro i wh op told
      rw [chR]
      split
      · have := ih (i + 1) (i + 1) [] (told ++ op)
        simp at this ⊢
        omega
      · split
        · have := ih (i + 1) wh (op ++ [toChg e]) told
          simp at this ⊢
          omega
        · simp; omega
  rw [changesL_R]
  have := go L 0 0 [] []
  simpa using this
theorem want_at (K : Nat) (ls : List (List Chg)) (j : Nat) (y : List Chg) (hy : ls[j]? = some y) : wantP K (ls.take (j + 1)) = if (gAcc (ls.take (j + 1))).length ≤ K then ((gAcc (ls.take (j + 1))).length, (wantP K (ls.take j)).2.1 ++ y, (gAcc (ls.take (j + 1))).length) else ((gAcc (ls.take (j + 1))).length, (wantP K (ls.take j)).2.1, (wantP K (ls.take j)).2.2) := by
  rw [gAcc_len_take ls j y hy]
  obtain ⟨hj, rfl⟩ := List.getElem?_eq_some_iff.1 hy
  rw [List.take_succ_eq_append_getElem hj, wantP_next, wantP_pos]

set_option maxRecDepth 100000 in
set_option maxHeartbeats 4000000 in
theorem Groups_in (a0 : Option Addr) (L : List ArgL) (c0 : Nat) (cut : Int) (W : World) (h : ArgIs W a0 L) (hL : L.length ≤ 20) :
    Calls Try.prog 4 #[.slice a0 L.length c0, .int .i64 cut] W fun e w' => e = .returned (.bool true) ∧ Below W.heap.size W w' := by
  obtain ⟨i0, hi, hz0, hz1, hz2⟩ := info_parts entInfo
  have HI := Lib.hid (And.intro hi (And.intro hz0 (And.intro hz1 hz2)))
  clear hi hz0 hz1 hz2
  obtain ⟨i1, hi, hz0, hz1, hz2⟩ := info_parts chgInfo
  have HJ := Lib.hid (And.intro hi (And.intro hz0 (And.intro hz1 hz2)))
  clear hi hz0 hz1 hz2
  obtain ⟨i2, hi, hz0, hz1, hz2⟩ := info_parts intInfoG
  have HN := Lib.hid (And.intro hi (And.intro hz0 (And.intro hz1 hz2)))
  clear hi hz0 hz1 hz2
  have HA := Lib.hid alive_is
  have H := Lib.hid h
  have hLi : ¬ (20 : Int) < (L.length : Int) := by omega
  obtain ⟨ls, hl1, hl2⟩ : ∃ ls : List (List Chg), ls.length = L.length ∧ ∀ (j : Nat) (x : ArgL), L[j]? = some x → ls[j]? = some x.l := ⟨L.map (·.l), by simp, fun j x hx => by rw [List.getElem?_map, hx]; rfl⟩
  have HLS := Lib.hid (And.intro hl1 hl2)
  clear h hl1 hl2
  go_enter Try.func4, Try.ntmps4
  go_wp2_with (go_at_call 6; refine (HA.out _).mono ?_; rintro e w1 ⟨rfl, b1⟩; have HB1 := Lib.hid b1; clear b1)
  go_loopw [5, 6, 7] (fun va ve i wr => ∃ (j pos cA cE : Nat) (aA aE : Option Addr), j ≤ L.length ∧ pos ≤ 420 ∧ i = .int .i64 (j : Int) ∧ va = .slice aA pos cA ∧ ve = .slice aE j cE ∧ Hid (pos = (gAcc (ls.take j)).length ∧ pos ≤ 21 * j ∧ Gr W wr (.slice aA pos cA) (.slice aE j cE) pos j ls)) (fun _ _ i _ => L.length - (intOf i).toNat)
  case atStart => exact ⟨0, 0, 0, 0, none, none, Nat.zero_le _, by omega, rfl, rfl, rfl, Lib.hid ⟨rfl, by omega, HB1.out, World.ownsRow_nil _ _ _ _, World.ownsRow_nil _ _ _ _⟩⟩
  case round =>
    obtain ⟨j, pos, cA, cE, aA, aE, hj, hpos, rfl, rfl, rfl, HG⟩ := hrel
    by_cases hlt : j < L.length
    · obtain ⟨⟨bb, rfl, hbl, hc⟩, hx⟩ := H.out j _ (List.getElem?_eq_getElem hlt)
      have hxl := HLS.out.2 j _ (List.getElem?_eq_getElem hlt)
      generalize hxe : L[j] = x at *
      have hc0 : wr.cell? (bb.add j) = some (.slice x.a x.l.length x.c) := by
        rw [HG.out.2.2.below.cell (by rw [add_block]; exact hbl)]
        exact hc
      have hi1 : (j : Int) < (L.length : Int) := by omega
      have HX := Lib.hid (And.intro hx hxl)
      clear hx hxl hc hbl hxe
      by_cases hbig : 20 < x.l.length
      · have hb1 : (20 : Int) < (x.l.length : Int) := by omega
        go_wp2
        go_ret
        exact ⟨rfl, HG.out.2.2.below⟩
      · have hb1 : ¬ (20 : Int) < (x.l.length : Int) := by omega
        have HGR := Lib.hid (fun z (q : Below W.heap.size W z) => group_is (pos : Int) 1 x.a x.l x.c z (HX.out.1.below q) (by omega))
        cases hok : grOk (pos : Int) 1 x.l
        · rw [hok] at HGR
          clear hok
          go_wp2_with (first
            | (go_at_call 8
               refine (HGR.out _ HG.out.2.2.below).mono ?_
               rintro e w2 ⟨vg, rfl, b2, o2⟩
               have H2 := Lib.hid (below_next HG.out.2.2.below b2)
               clear b2 o2))
          go_ret
          exact ⟨rfl, H2.out⟩
        · rw [show grL (pos : Int) 1 x.l = groupL (pos : Int) 1 x.l from if_pos hok, hok, groupL_len] at HGR
          clear hok
          obtain ⟨pos2, hp2⟩ : ∃ p, p = pos + (x.l.length + 1) := ⟨_, rfl⟩
          have HP2 := Lib.hid hp2
          have hpos2 : pos2 ≤ 441 := by omega
          have hjl : j ≤ 20 := by omega
          clear hp2
          go_wp2_with (first
            | (go_at_call 8
               refine (HGR.out _ HG.out.2.2.below).mono ?_
               rintro e w2 ⟨vg, rfl, b2, o2⟩
               obtain ⟨ag, cg, rfl, l2, _⟩ := own_formK o2
               have H2 := Lib.hid (And.intro b2 l2)
               clear b2 o2 l2)
            | (at_builtin
               (refine wpList_append_row rfl (.tmp 48) (.tmp 49) 32 rfl W.heap.size 23 i0 _ 5 40 Try.underlying32 HI.out.1 HI.out.2.1 HI.out.2.2.1 HI.out.2.2.2 ?fa2 ?fa3 (.slice aA pos cA) pos (flat Ent.cells (gAcc (ls.take j))) ?fah ?fa0 ag (x.l.length + 1) cg (flat Ent.cells (groupL (pos : Int) 1 x.l)) ?fa1 ?fa6 ?fa7 ?fa8 ?fb1 ?fb2 ?fb3 ?fb5)
               case fa2 => rfl
               case fa3 => omega
               case fah => rfl
               case fa0 => exact (HG.out.2.2.next H2.out.1).all
               case fa1 => rfl
               case fa6 => rw [flat_len Ent.len, groupL_len]
               case fa7 => exact H2.out.2
               case fa8 => exact flat_all Ent.one _
               case fb1 => unfold maxLen; omega
               case fb2 => omega
               case fb3 => have := HG.out.2.2.below.size; have := H2.out.1.size; omega
               intro v6 w6 hown6 hgr6
               rw [← HP2.out] at hown6
               obtain ⟨a6, c6, rfl, _, _⟩ := own_formK hown6
               have H6 := Lib.hid (And.intro hown6 hgr6)
               have E6 := Lib.hid (HG.out.2.2.ends4 H2.out.1 hgr6)
               have hs6 := hgr6.size
               clear hown6 hgr6)
            | (at_builtin
               (refine wpList_append_lies _ rfl (.tmp 51) (.tmp 54) 33 rfl W.heap.size 3 i2 _ 1 8 Try.underlying33 HN.out.1 HN.out.2.1 HN.out.2.2.1 HN.out.2.2.2 ?ga1 ?ga2 (.slice aE j cE) j (vals (endsL ls j)) ?ga3 ?ga4 ⟨w6.heap.size, 0, none⟩ 1 1 [.int .i64 (pos2 : Int)] ?ga5 ?ga6 ?ga7 ?ga8 ?ga9 ?gb1 ?gb2 ?gb3 (w6.heap.size + 1) ?gb4 ?gb5)
               case ga1 => rfl
               case ga2 => omega
               case ga3 => rfl
               case ga4 => exact E6.out.alloc _
               case ga5 => rfl
               case ga6 => rfl
               case ga7 => exact World.news_of_block (heap_alloc_last _ _)
               case ga8 => intro u hu; simp at hu; rw [hu]; rfl
               case ga9 => omega
               case gb1 => unfold maxLen; omega
               case gb2 => omega
               case gb3 => have := HG.out.2.2.below.size; have := H2.out.1.size; simp; omega
               case gb4 => simp
               intro g7 c7 w7 hown7 hgr7 _ _
               have H7 := Lib.hid (And.intro hown7 hgr7)
               clear hown7 hgr7))
          refine ⟨⟨j + 1, pos2, c6, c7, a6, some ⟨g7, 0, none⟩, by omega, by have := HG.out.2.1; have := HP2.out; omega, by go_num, rfl, rfl, Lib.hid ⟨?_, ?_, ?_⟩⟩, by simp [intOf]; omega⟩
          · rw [gAcc_len_take ls j x.l HX.out.2, ← HG.out.1]
            exact HP2.out
          · have := HG.out.2.1; have := HP2.out; omega
          · exact HG.out.2.2.push HX.out.2 HG.out.1 HP2.out H2.out.1 H6.out.1 H6.out.2 ((Below.refl w6.heap.size w6).alloc (Nat.le_refl _) _) H7.out.1 H7.out.2
    · obtain rfl : j = L.length := by omega
      have hn : ¬ (L.length : Int) < (L.length : Int) := by omega
      obtain ⟨⟨ht0, ht1⟩, K, hK, hK1, hK2⟩ := cut_at cut pos
      have hz : ((pos : Int) + 1 == 0) = false := by simp; omega
      have hpi : (pos : Int) ≤ 420 := by omega
      have hKi : (K : Int) ≤ (pos : Int) := by omega
      have HT := Lib.hid (List.take_of_length_le (l := ls) (i := L.length) (by rw [HLS.out.1]; exact Nat.le_refl _))
      have HCU := Lib.hid (groups_cut ls K)
      have hcap : pos ≤ cA := by
        rcases HG.out.2.2.all.2 with ⟨q, q2⟩ | ⟨g, cap, cur, hv, _, _, hc, _⟩
        · omega
        · have := (Value.slice.inj hv).2.2
          omega
      have hci : (K : Int) ≤ (cA : Int) := by omega
      have HCH : Hid (∀ z, Below wr.heap.size wr z → Calls Try.prog 9 #[.slice aA K cA] z fun e w' => ∃ v, e = .returned (.tuple #[v, .int .i64 ((wantP K ls).2.2 : Int)]) ∧ Below z.heap.size z w' ∧ w'.ownsRow z.heap.size 45 2 v (wantP K ls).2.1.length (flat Chg.cells (wantP K ls).2.1)) := Lib.hid (fun z q => by
        have hp := HG.out.1
        have hall := HG.out.2.2.all
        rw [HT.out] at hp hall
        have hlen : ((gAcc ls).take K).length = K := by simp; omega
        obtain ⟨a', c', hv, hla, _⟩ := own_formK hall
        have ha := (Value.slice.inj hv).1
        have h := changes_is aA ((gAcc ls).take K) cA z (LiesAt.below (fun n u hu => by
          rw [← flat_take Ent.len, List.getElem?_take] at hu
          split at hu
          · rw [ha]; exact hla n u hu
          · cases hu) q) (by omega) (by omega) (wantP K ls).2.1 (wantP K ls).2.2 (by rw [HCU.out])
        rw [hlen] at h
        exact h)
      have HWL := Lib.hid (show (wantP K ls).2.1.length ≤ 1000 by
        have h1 := HCU.out
        have h2 := chLen ((gAcc ls).take K)
        rw [h1] at h2
        have h3 : ((gAcc ls).take K).length ≤ K := by simp; omega
        omega)
      have HW0 : Hid (wantP K (ls.take L.length) = wantP K ls) := Lib.hid (by rw [HT.out])
      clear hlt hj HCU
      go_wp2_with (first
        | (go_at_call 9
           refine (HCH.out _ (Below.refl _ _)).mono ?_
           rintro e w2 ⟨vc, rfl, b2, o2⟩
           obtain ⟨ac, cc, rfl, lc, _⟩ := own_formK o2
           have HB2 := Lib.hid (below_next HG.out.2.2.below b2)
           have HE2 := Lib.hid (own_belowK HG.out.2.2.ends b2)
           have HC2 := Lib.hid lc
           clear b2 o2 lc))
      go_loopw [13, 14, 15] (fun v x i wx => ∃ (j : Nat) (T : List Chg) (E : Nat) (av : Option Addr) (cv : Nat), j ≤ L.length ∧ i = .int .i64 (j : Int) ∧ x = .int .i64 (E : Int) ∧ v = .slice av T.length cv ∧ Below w2.heap.size w2 wx ∧ Hid (wx.ownsRow w2.heap.size 45 2 (.slice av T.length cv) T.length (flat Chg.cells T) ∧ (wantP K (ls.take j)).2 = (T, E) ∧ T.length ≤ 421 * j)) (fun _ _ i _ => L.length - (intOf i).toNat)
      case atStart => exact ⟨0, [], 0, none, 0, Nat.zero_le _, rfl, rfl, rfl, Below.refl _ _, Lib.hid ⟨World.ownsRow_nil _ _ _ _, rfl, by simp⟩⟩
      case round =>
        obtain ⟨j, T, E, av, cv, hj, rfl, rfl, rfl, hb, HV⟩ := hrel
        by_cases hlt : j < L.length
        · obtain ⟨⟨bb, rfl, hbl, hc⟩, hx⟩ := H.out j _ (List.getElem?_eq_getElem hlt)
          have hxl := HLS.out.2 j _ (List.getElem?_eq_getElem hlt)
          generalize hxe : L[j] = x at *
          have hW2 := HB2.out.trans (hb.mono HB2.out.size)
          have hc0 : wr.cell? (bb.add j) = some (.slice x.a x.l.length x.c) := by
            rw [hW2.cell (by rw [add_block]; exact hbl)]
            exact hc
          obtain ⟨ge, ce', hve, _, _, hgl⟩ := own_blk HE2.out (by omega)
          obtain ⟨rfl, rfl⟩ : aE = some ⟨ge, 0, none⟩ ∧ cE = ce' := ⟨(Value.slice.inj hve).1, (Value.slice.inj hve).2.2⟩
          have he0 : wr.cell? ⟨ge, j, none⟩ = some (.int .i64 ((gAcc (ls.take (j + 1))).length : Int)) := by
            rw [hb.cell (p := ⟨ge, j, none⟩) hgl]
            exact (owns_cell HE2.out (k := j) (by simp [vals, endsL, hlt])).1
          have hwn := want_at K ls j x.l hxl
          have HX := Lib.hid (And.intro (hx.below hW2) (And.intro hxl hwn))
          have hi1 : (j : Int) < (L.length : Int) := by omega
          have HB := Lib.hid hb
          have hPl := Lib.hid (gAcc_len_take ls j x.l HX.out.2.1)
          generalize (gAcc (ls.take (j + 1))).length = P at *
          clear hx hxl hc hbl hxe hwn hW2 hb hve
          by_cases hP : P ≤ K
          · have hPi : (P : Int) ≤ (K : Int) := by omega
            have HTn := Lib.hid (show (wantP K (ls.take (j + 1))).2 = (T ++ x.l, P) by
              rw [HX.out.2.2, if_pos hP, HV.out.2.1])
            have hx20 : x.l.length ≤ 420 := by have := hPl.out; omega
            have hTl := HV.out.2.2
            clear hP
            go_wp2_with (first
              | (at_builtin
                 (refine wpList_append_row rfl (.tmp 88) (.tmp 92) 34 rfl w2.heap.size 45 i1 _ 2 16 Try.underlying34 HJ.out.1 HJ.out.2.1 HJ.out.2.2.1 HJ.out.2.2.2 ?ha2 ?ha3 (.slice av T.length cv) T.length (flat Chg.cells T) ?hah ?ha0 x.a x.l.length x.c (flat Chg.cells x.l) ?ha1 ?ha6 ?ha7 ?ha8 ?hb1 ?hb2 ?hb3 ?hb5)
                 case ha2 => rfl
                 case ha3 => omega
                 case hah => rfl
                 case ha0 => exact HV.out.1
                 case ha1 => rfl
                 case ha6 => rw [flat_len Chg.len]
                 case ha7 => exact HX.out.1
                 case ha8 => exact flat_all Chg.one _
                 case hb1 => unfold maxLen; omega
                 case hb2 => omega
                 case hb3 => exact HB.out.size
                 intro v6 w6 hown6 hgr6
                 rw [← flat_app, ← List.length_append] at hown6
                 obtain ⟨a6, c6, rfl, _, _⟩ := own_formK hown6
                 have H6 := Lib.hid (And.intro hown6 (And.intro (HB.out.grown hgr6 HB.out.size (fun k hk => (HV.out.1.lt k hk).1)) ((HB.out.cell (p := ⟨ge, j, none⟩) hgl))))
                 have he6 : w6.cell? ⟨ge, j, none⟩ = some (.int .i64 (P : Int)) := by
                   rw [H6.out.2.1.cell (p := ⟨ge, j, none⟩) hgl, ← H6.out.2.2]
                   exact he0
                 clear hown6 hgr6))
            exact ⟨⟨j + 1, T ++ x.l, P, a6, c6, by omega, by go_num, rfl, by rw [List.length_append], H6.out.2.1, Lib.hid ⟨H6.out.1, HTn.out, by rw [List.length_append]; omega⟩⟩, by simp [intOf]; omega⟩
          · have hPi : ¬ (P : Int) ≤ (K : Int) := by omega
            have HTn := Lib.hid (show (wantP K (ls.take (j + 1))).2 = (T, E) by
              rw [HX.out.2.2, if_neg hP, HV.out.2.1])
            clear hP
            go_wp2_with fail
            exact ⟨⟨j + 1, T, E, av, cv, by omega, by go_num, rfl, rfl, HB.out, Lib.hid ⟨HV.out.1, HTn.out, by have := HV.out.2.2; omega⟩⟩, by simp [intOf]; omega⟩
        · obtain rfl : j = L.length := by omega
          have hn2 : ¬ (L.length : Int) < (L.length : Int) := by omega
          have hfin := HV.out.2.1
          rw [HW0.out] at hfin
          have hf1 : (wantP K ls).2.1 = T := by rw [hfin]
          have hf2 : (wantP K ls).2.2 = E := by rw [hfin]
          have HS := Lib.hid (fun z (q : Below w2.heap.size w2 z) (r : Below wr.heap.size wr z) => SameChanges_is T T ac av cc cv z (by have := HC2.out.below q; rw [hf1] at this; exact this) (by
            obtain ⟨a', c', hv, hla, _⟩ := own_formK HV.out.1
            have ha := (Value.slice.inj hv).1
            rw [ha]
            exact hla.below r) (by have := HWL.out; rw [hf1] at this; unfold maxLen; omega) (by have := HWL.out; rw [hf1] at this; unfold maxLen; omega) true ⟨fun _ => rfl, fun _ => rfl⟩)
          have HB := Lib.hid hb
          rw [hf1, hf2]
          clear hlt hj hfin hb
          go_wp2_with (first
            | (go_at_call 10
               refine (HS.out _ HB.out (Below.refl _ _)).mono ?_
               rintro e w9 ⟨rfl, m9, rfl⟩))
          all_goals
            go_ret
            exact ⟨rfl, bel_drewN (HB2.out.trans (HB.out.mono HB2.out.size)) _⟩
theorem Groups_walk (a0 : Option Addr) (L : List ArgL) (c0 : Nat) (cut : Int) (W : World) (h : ArgIs W a0 L) :
    Calls Try.prog 4 #[.slice a0 L.length c0, .int .i64 cut] W fun e w' => e = .returned (.bool true) ∧ Below W.heap.size W w' := by
  by_cases hL : L.length ≤ 20
  · exact Groups_in a0 L c0 cut W h hL
  · have HA := Lib.hid alive_is
    have hLi : (20 : Int) < (L.length : Int) := by omega
    clear h hL
    go_enter Try.func4, Try.ntmps4
    go_wp2_with (go_at_call 6; refine (HA.out _).mono ?_; rintro e w1 ⟨rfl, b1⟩; have HB1 := Lib.hid b1; clear b1)
    all_goals
      go_ret
      exact ⟨rfl, HB1.out⟩
end Go.Proofs.Ythhcchpjjppmjaa
