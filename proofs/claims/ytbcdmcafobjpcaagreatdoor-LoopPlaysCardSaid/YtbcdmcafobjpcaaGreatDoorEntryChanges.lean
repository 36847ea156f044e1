/- Package entry: changesOf, Changes. -/
import Derived.Test.YtbcdmcafobjpcaaGreatDoorEntryGroup
namespace Go.Proofs.YtbcdmcafobjpcaaGreatDoor
open Go.RowKit
open Go.Proofs.YtbcdmcafobjpcaaGreatDoor.Bk

def toChg (e : Ent) : Chg := ⟨e.c, e.v⟩
/-- The first k of these, then zeros. -/
def fillK (l : List Ent) (k : Nat) : List Chg := (l.take k).map toChg ++ List.replicate (l.length - k) ⟨0, 0⟩
theorem fillK_len (l : List Ent) (k : Nat) (h : k ≤ l.length) : (fillK l k).length = l.length := by simp [fillK]; omega
theorem fillK_next (l : List Ent) (k : Nat) (h : k < l.length) : fillK l (k + 1) = (fillK l k).set k (toChg l[k]) := by
  have e1 : l.length - k = (l.length - (k + 1)) + 1 := by omega
  have e2 : ((l.take k).map toChg).length = k := by simp; omega
  rw [fillK, fillK, e1, List.replicate_succ, List.take_succ_eq_append_getElem h, List.map_append, List.set_append_right _ _ (by omega), e2, Nat.sub_self, List.set_cons_zero, List.append_assoc]
  rfl
theorem fillK_end (l : List Ent) : fillK l l.length = l.map toChg := by simp [fillK]
theorem flat_zero (n : Nat) : flat Chg.cells (List.replicate n ⟨0, 0⟩) = List.replicate (n * 2) (.int .i64 0) := by
  induction n with
  | zero => rfl
  | succ n ih => rw [List.replicate_succ, flat_cons, ih, Nat.add_mul, Nat.one_mul, show n * 2 + 2 = n * 2 + 1 + 1 from rfl, List.replicate_succ, List.replicate_succ]; rfl
/-- Changes that are made, all zero. -/
theorem make_chgs (u : World) (n : Nat) (hn : n ≤ 2 ^ 40) :
    ∃ w', (Instr.makeSlice 28 (.int .i64 (n : Int)) (.int .i64 (n : Int))).run Tryz.prog u = .ok (.slice (some ⟨u.heap.size, 0, none⟩) n n) w' ∧ Below u.heap.size u w' ∧ w'.ownsRow u.heap.size 55 2 (.slice (some ⟨u.heap.size, 0, none⟩) n n) n (flat Chg.cells (List.replicate n ⟨0, 0⟩)) := by
  obtain ⟨i1, hi, hz0, hz1, hz2⟩ := info_parts chgInfo
  have h := run_make (P := Tryz.prog) u 28 55 i1 _ Tryz.underlying28 hi hz0 .i64 .i64 (n : Int) (n : Int) (by omega) (Int.le_refl _) (by rw [hz2]; omega) (by omega)
  refine ⟨_, by simpa using h, (Below.refl _ _).alloc (Nat.le_refl _) _, by rw [flat_zero]; simp, .inr ⟨u.heap.size, n, _, rfl, Nat.le_refl _, heap_alloc_new u _, Nat.le_refl _, by unfold maxLen; omega, ?_, ?_⟩⟩
  · rw [size_madeCells, hz1]
  · rw [flat_zero, hz1]
    apply List.ext_getElem
    · simp [madeCells]
    · intro j h1 h2
      have : j % 2 = 0 ∨ j % 2 = 1 := by omega
      rcases this with q | q <;> simp [madeCells, Value.cells, q]

set_option maxRecDepth 100000 in
set_option maxHeartbeats 1000000 in
theorem changesOf_is (a : Option Addr) (l : List Ent) (c : Nat) (w : World) (h : LiesAt w a (flat Ent.cells l)) (hl : l.length ≤ 1000) :
    Calls Tryz.prog 64 #[.slice a l.length c] w fun e w' => ∃ v, e = .returned v ∧ Below w.heap.size w w' ∧ w'.ownsRow w.heap.size 55 2 v l.length (flat Chg.cells (l.map toChg)) := by
  obtain ⟨wm, hmk, bm, om⟩ := make_chgs w l.length (by omega)
  have H := Lib.hid h
  have HM := Lib.hid (And.intro bm om)
  clear h bm om
  go_enter Tryz.func64, Tryz.ntmps64
  go_wp2
  clear hmk
  go_loopw [11] (fun i wr => ∃ k : Nat, k ≤ l.length ∧ i = .int .i64 (k : Int) ∧ Below w.heap.size w wr ∧ wr.ownsRow w.heap.size 55 2 (.slice (some ⟨w.heap.size, 0, none⟩) l.length l.length) l.length (flat Chg.cells (fillK l k))) (fun i _ => l.length - (intOf i).toNat)
  case atStart => exact ⟨0, Nat.zero_le _, rfl, HM.out.1, by have := HM.out.2; simpa [fillK] using this⟩
  case round =>
    obtain ⟨k, hk, rfl, hb, ho⟩ := hrel
    by_cases hlt : k < l.length
    · obtain ⟨g1, o1, rfl, hg1, e1⟩ := (H.out.below hb).elem Ent.len (by omega) (List.getElem?_eq_getElem hlt)
      have e1_0 := e1 0 _ rfl
      have e1_1 := e1 1 _ rfl
      have e1_2 := e1 2 _ rfl
      have e1_3 := e1 3 _ rfl
      have e1_4 := e1 4 _ rfl
      rw [Nat.add_zero] at e1_0
      clear e1
      have HN : Hid (flat Chg.cells (fillK l (k + 1)) = ((flat Chg.cells (fillK l k)).set (k * 2) (.int .i64 l[k].c)).set (k * 2 + 1) (.int .i64 l[k].v)) := Lib.hid (by
        rw [fillK_next l k hlt, flat_set Chg.len _ _ (by rw [fillK_len l k hk]; exact hlt)]
        rfl)
      generalize l[k] = x at *
      obtain ⟨x0, hx0, c0, f0⟩ := owns_thereK ho (k := k * 2) (by omega)
      obtain ⟨x1, hx1, c1, f1⟩ := owns_thereK ho (k := k * 2 + 1) (by omega)
      have hwl := (ho.lt w.heap.size rfl).2
      have hne : w.heap.size ≠ wr.heap.size := by omega
      have hi1 : (k : Int) < (l.length : Int) := by omega
      have HR := Lib.hid (And.intro hb ho)
      clear hb ho hx0 hx1
      go_wp2
      refine ⟨⟨k + 1, by omega, by go_num, ((HR.out.1.setCell (p := ⟨w.heap.size, k * 2, none⟩) (Nat.le_refl _) _).setCell (p := ⟨w.heap.size, k * 2 + 1, none⟩) (Nat.le_refl _) _).alloc (by have := HR.out.1.size; simp; omega) _, ?_⟩, by simp [intOf]; omega⟩
      rw [HN.out]
      exact (owns_setK (owns_setK HR.out.2 _ _) _ _).alloc _
    · obtain rfl : k = l.length := by omega
      have HR := Lib.hid (And.intro hb ho)
      have hn : ¬ (l.length : Int) < (l.length : Int) := by omega
      clear hlt hk hb ho
      go_wp2
      go_ret
      refine ⟨_, rfl, HR.out.1, ?_⟩
      rw [← fillK_end]
      exact HR.out.2

/-- Changes from the i-th entry on. -/
def chGo (L : List Ent) : List Ent → Nat → Nat → List Chg → List Chg × Nat
  | [], _, wh, told => (told, wh)
  | e :: r, i, wh, told =>
    if e.k = 2 ∧ e.c = (i : Int) - (wh : Int) then chGo L r (i + 1) (i + 1) (told ++ ((L.take i).drop wh).map toChg)
    else if e.k = 1 then chGo L r (i + 1) wh told
    else (told, wh)
def changesL (L : List Ent) : List Chg × Nat := chGo L L 0 0 []
theorem chGo_at (L : List Ent) (i wh : Nat) (told : List Chg) (h : i < L.length) : chGo L (L.drop i) i wh told =
    if L[i].k = 2 ∧ L[i].c = (i : Int) - (wh : Int) then chGo L (L.drop (i + 1)) (i + 1) (i + 1) (told ++ ((L.take i).drop wh).map toChg)
    else if L[i].k = 1 then chGo L (L.drop (i + 1)) (i + 1) wh told
    else (told, wh) := by
  rw [List.drop_eq_getElem_cons h, chGo]

set_option maxRecDepth 100000 in
set_option maxHeartbeats 2000000 in
theorem changes_is (a : Option Addr) (l : List Ent) (c : Nat) (w : World) (h : LiesAt w a (flat Ent.cells l)) (hl : l.length ≤ 1000) (hc : l.length ≤ c) (R : List Chg) (n : Nat) (hR : changesL l = (R, n)) :
    Calls Tryz.prog 31 #[.slice a l.length c] w fun e w' => ∃ v, e = .returned (.tuple #[v, .int .i64 (n : Int)]) ∧ Below w.heap.size w w' ∧ w'.ownsRow w.heap.size 55 2 v R.length (flat Chg.cells R) := by
  obtain ⟨i0, hi, hz0, hz1, hz2⟩ := info_parts chgInfo
  have HI := Lib.hid (And.intro hi (And.intro hz0 (And.intro hz1 hz2)))
  clear hi hz0 hz1 hz2
  have H := Lib.hid h
  have HS := Lib.hid (show chGo l (l.drop 0) 0 0 [] = (R, n) from hR)
  clear h hR
  go_enter Tryz.func31, Tryz.ntmps31
  go_wp2
  go_loopw [4, 5, 10] (fun v x i wr => ∃ (k wh : Nat) (T : List Chg), k ≤ l.length ∧ wh ≤ k ∧ i = .int .i64 (k : Int) ∧ x = .int .i64 (wh : Int) ∧ Below w.heap.size w wr ∧ Hid (wr.ownsRow w.heap.size 55 2 v T.length (flat Chg.cells T) ∧ T.length ≤ wh) ∧ Hid (chGo l (l.drop k) k wh T = (R, n))) (fun _ _ i _ => l.length - (intOf i).toNat)
  case atStart => exact ⟨0, 0, [], Nat.zero_le _, Nat.le_refl _, rfl, rfl, Below.refl _ _, Lib.hid ⟨World.ownsRow_nil _ _ _ _, Nat.le_refl _⟩, HS⟩
  case round =>
    obtain ⟨k, wh, T, hk, hwh, rfl, rfl, hb, HT, HG⟩ := hrel
    have hki : (k : Int) ≤ 1000 := by omega
    have hwi : (wh : Int) ≤ (k : Int) := by omega
    by_cases hlt : k < l.length
    · obtain ⟨g1, o1, rfl, hg1, e1⟩ := (H.out.below hb).elem Ent.len (by omega) (List.getElem?_eq_getElem hlt)
      have e1_0 := e1 0 _ rfl
      have e1_1 := e1 1 _ rfl
      have e1_2 := e1 2 _ rfl
      have e1_3 := e1 3 _ rfl
      have e1_4 := e1 4 _ rfl
      rw [Nat.add_zero] at e1_0
      clear e1
      have HN := Lib.hid (chGo_at l k wh T hlt)
      generalize l[k] = x at *
      obtain ⟨xk, xl, xe, xc, xv⟩ := x
      simp only at e1_0 e1_1 e1_2 e1_3 e1_4
      have hi1 : (k : Int) < (l.length : Int) := by omega
      have HB := Lib.hid hb
      clear hb
      by_cases hk2 : xk = 2
      · subst hk2
        by_cases hq : xc = (k : Int) - (wh : Int)
        · subst hq
          have HE : Hid (chGo l (l.drop (k + 1)) (k + 1) (k + 1) (T ++ ((l.take k).drop wh).map toChg) = (R, n)) := Lib.hid (by
            have := HN.out
            rw [if_pos ⟨rfl, rfl⟩] at this
            rw [← this]; exact HG.out)
          have hkc : (k : Int) ≤ (c : Int) := by omega
          have hlenS : ((l.take k).drop wh).length = k - wh := by simp; omega
          have HC := Lib.hid (fun z (q : Below wr.heap.size wr z) => changesOf_is (some ⟨g1, o1 + wh * 5, none⟩) ((l.take k).drop wh) (c - wh) z (((H.out.below HB.out).sub Ent.len wh k).below q) (by omega))
          rw [hlenS] at HC
          generalize (l.take k).drop wh = S at *
          have HL := Lib.hid hlenS
          have hTl := HT.out.2
          have hsz := HB.out.size
          clear HN HG hlenS
          go_wp2_with (first
            | (go_at_call 64
               refine (HC.out _ ((Below.refl wr.heap.size wr).alloc (Nat.le_refl _) _)).mono ?_
               rintro e' w5 ⟨v5, rfl, b5, o5⟩
               obtain ⟨a5, c5, rfl, l5, _⟩ := own_formK o5
               have b5' : Below wr.heap.size wr w5 := ((Below.refl _ _).alloc (Nat.le_refl _) _).trans (b5.mono (by simp))
               have hs5 := b5'.size
               have H5 := Lib.hid (And.intro b5' l5)
               clear b5 o5 l5 b5')
            | (refine wpList_append_row rfl (.tmp 31) (.tmp 36) 28 rfl w.heap.size 55 i0 _ 2 16 Tryz.underlying28 HI.out.1 HI.out.2.1 HI.out.2.2.1 HI.out.2.2.2 ?ba1 ?ba2 u4 T.length (flat Chg.cells T) rfl ?ba4 a5 (k - wh) c5 (flat Chg.cells (S.map toChg)) rfl ?ba6 ?ba7 ?ba8 ?bb1 ?bb2 ?bb3 ?bb5
               case ba1 => rfl
               case ba2 => omega
               case ba4 => exact own_belowK HT.out.1 H5.out.1
               case ba6 => rw [flat_len Chg.len, List.length_map, HL.out]
               case ba7 => exact H5.out.2
               case ba8 => exact flat_all Chg.one _
               case bb1 => unfold maxLen; omega
               case bb2 => omega
               case bb3 => omega
               intro v6 w6 hown6 hgr6
               have H6 := Lib.hid (And.intro hown6 hgr6)
               clear hown6 hgr6))
          refine ⟨⟨k + 1, k + 1, T ++ S.map toChg, by omega, by omega, by go_num, by go_num, (HB.out.trans (H5.out.1.mono hsz)).grown H6.out.2 (by omega) (fun b hb => (HT.out.1.lt b hb).1), Lib.hid ⟨?_, ?_⟩, HE⟩, by simp [intOf]; omega⟩
          · rw [List.length_append, List.length_map, HL.out, flat_app]
            exact H6.out.1
          · rw [List.length_append, List.length_map, HL.out]; omega
        · have hqf : (xc == (k : Int) - (wh : Int)) = false := by simpa using hq
          have HE : Hid ((T, wh) = (R, n)) := Lib.hid (by
            have := HN.out
            rw [if_neg (fun h => hq h.2), if_neg (by show ¬ (2 : Int) = 1; omega)] at this
            rw [← this]; exact HG.out)
          clear HN HG
          go_wp2
          go_ret2
          obtain ⟨rfl, rfl⟩ : T = R ∧ wh = n := by simpa using HE.out
          have ba := (Below.refl wr.heap.size wr).alloc (Nat.le_refl _) (.cells #[.int .i64 2, .int .i64 xl, .int .i64 xe, .int .i64 xc, .int .i64 xv] 101)
          exact ⟨_, rfl, below_next HB.out ba, own_belowK HT.out.1 ba⟩
      · have hk2f : (xk == 2) = false := by simpa using hk2
        by_cases hk1 : xk = 1
        · subst hk1
          have HE : Hid (chGo l (l.drop (k + 1)) (k + 1) wh T = (R, n)) := Lib.hid (by
            have := HN.out
            rw [if_neg (fun h => hk2 h.1), if_pos rfl] at this
            rw [← this]; exact HG.out)
          clear HN HG
          go_wp2
          have ba := (Below.refl wr.heap.size wr).alloc (Nat.le_refl _) (.cells #[.int .i64 1, .int .i64 xl, .int .i64 xe, .int .i64 xc, .int .i64 xv] 101)
          exact ⟨⟨k + 1, wh, T, by omega, by omega, by go_num, by go_num, below_next HB.out ba, Lib.hid ⟨own_belowK HT.out.1 ba, HT.out.2⟩, HE⟩, by simp [intOf]; omega⟩
        · have hk1f : (xk == 1) = false := by simpa using hk1
          have HE : Hid ((T, wh) = (R, n)) := Lib.hid (by
            have := HN.out
            rw [if_neg (fun h => hk2 h.1), if_neg hk1] at this
            rw [← this]; exact HG.out)
          clear HN HG
          go_wp2
          go_ret2
          obtain ⟨rfl, rfl⟩ : T = R ∧ wh = n := by simpa using HE.out
          have ba := (Below.refl wr.heap.size wr).alloc (Nat.le_refl _) (.cells #[.int .i64 xk, .int .i64 xl, .int .i64 xe, .int .i64 xc, .int .i64 xv] 101)
          exact ⟨_, rfl, below_next HB.out ba, own_belowK HT.out.1 ba⟩
    · obtain rfl : k = l.length := by omega
      have HE : Hid ((T, wh) = (R, n)) := Lib.hid (by
        have := HG.out
        rwa [List.drop_length, chGo] at this)
      have HB := Lib.hid hb
      have hn : ¬ (l.length : Int) < (l.length : Int) := by omega
      clear hlt hk hb
      go_wp2
      go_ret2
      obtain ⟨rfl, rfl⟩ : T = R ∧ wh = n := by simpa using HE.out
      exact ⟨_, rfl, HB.out, HT.out.1⟩
end Go.Proofs.YtbcdmcafobjpcaaGreatDoor
