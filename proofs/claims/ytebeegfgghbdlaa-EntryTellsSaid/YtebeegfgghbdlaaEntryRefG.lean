/- The document's own entries: Group, Changes. -/
import Derived.Test.YtebeegfgghbdlaaEntryRead
import Derived.Test.YtebeegfgghbdlaaEntryRun
import Derived.Deep.RegionHeld3
import Derived.OwnWalk
namespace Go.Proofs.Ytebeegfgghbdlaa
open Go.RowKit
open Go.Proofs.Ytebeegfgghbdlaa.Bk

theorem groupL_at (n e : Int) (l : List Chg) (k : Nat) (h : k < l.length) : (groupL n e l)[k]? = some (gEnt n e k l[k]) := by
  rw [groupL, List.getElem?_append_left (by rw [gHead_len]; exact h), gHead]
  simp [h]
theorem groupL_end (n e : Int) (l : List Chg) : (groupL n e l)[l.length]? = some (gEnd n e l.length) := by
  rw [groupL, List.getElem?_append_right (by rw [gHead_len]; exact Nat.le_refl _), gHead_len, Nat.sub_self]
  rfl
theorem grOk_out (n e : Int) (l : List Chg) (h0 : n < 0 ∨ 4294967296 ≤ n) (hw : -9223372036854775808 ≤ n ∧ n ≤ 9223372036854775807) : grOk n e l = false := by
  have hn : numI (wrap64 (n + ((0 : Nat) : Int))) = false := by
    have : wrap64 (n + ((0 : Nat) : Int)) = n := by unfold wrap64; omega
    rw [this]
    exact decide_eq_false (by omega)
  have hl : 0 < (groupL n e l).length := by rw [groupL_len]; omega
  refine all_not hl ?_
  have : (groupL n e l)[0]? = some (groupL n e l)[0] := List.getElem?_eq_getElem hl
  cases l with
  | nil =>
    have h2 := groupL_end n e []
    rw [List.length_nil] at h2
    rw [h2] at this
    rw [← Option.some.inj this]
    simp only [gEnd, entOk, hn, Bool.and_false, Bool.false_and]
  | cons x r =>
    rw [groupL_at n e (x :: r) 0 (by simp)] at this
    rw [← Option.some.inj this]
    simp only [gEnt, entOk, hn, Bool.and_false, Bool.false_and]
theorem wrap_in (n : Int) (k : Nat) (h0 : 0 ≤ n) (h1 : n < 4294967296) (hk : k ≤ 1000) : wrap64 (n + (k : Int)) = n + (k : Int) := by unfold wrap64; omega

set_option maxRecDepth 100000 in
set_option maxHeartbeats 2000000 in
theorem rgroup_in (n e : Int) (a : Option Addr) (l : List Chg) (c : Nat) (w : World) (h : LiesAt w a (flat Chg.cells l)) (hl : l.length ≤ 1000) (h0 : 0 ≤ n) (h1 : n < 4294967296) :
    Calls Try.prog 14 #[.int .i64 n, .int .i64 e, .slice a l.length c] w fun r w' => ∃ v, r = .returned (.tuple #[v, .bool (grOk n e l)]) ∧ Below w.heap.size w w' ∧ w'.ownsRow w.heap.size 23 5 v (grL n e l).length (flat Ent.cells (grL n e l)) := by
  obtain ⟨i0, hi, hz0, hz1, hz2⟩ := info_parts entInfo
  have HI := Lib.hid (And.intro hi (And.intro hz0 (And.intro hz1 hz2)))
  clear hi hz0 hz1 hz2
  have H := Lib.hid h
  have HG := Lib.hid (And.intro (show grOk n e l = (groupL n e l).all entOk from rfl) (show grL n e l = if grOk n e l = true then groupL n e l else [] from rfl))
  have HL := Lib.hid (groupL_len n e l)
  have HAt := Lib.hid (fun (k : Nat) (h : k < l.length) => groupL_at n e l k h)
  have HEnd := Lib.hid (groupL_end n e l)
  clear h
  generalize grOk n e l = ok at *
  generalize grL n e l = res at *
  generalize groupL n e l = G at *
  have hli : (l.length : Int) ≤ 1000 := by omega
  go_enter Try.func14, Try.ntmps14
  go_wp2
  go_loopw [8, 9] (fun v i wr => ∃ k : Nat, k ≤ l.length + 1 ∧ i = .int .i64 (k : Int) ∧ Below w.heap.size w wr ∧ Hid (wr.ownsRow w.heap.size 23 5 v k (flat Ent.cells (G.take k))) ∧ Hid ((G.take k).all entOk = true)) (fun _ i _ => l.length + 1 - (intOf i).toNat)
  case atStart => exact ⟨0, Nat.zero_le _, rfl, Below.refl _ _, Lib.hid (World.ownsRow_nil _ _ _ _), Lib.hid (by simp)⟩
  case round =>
    obtain ⟨k, hk, rfl, hb, ho, ha⟩ := hrel
    by_cases hlt : k < l.length
    · obtain ⟨g1, o1, rfl, hg1, e1⟩ := (H.out.below hb).elem Chg.len (by omega) (List.getElem?_eq_getElem hlt)
      have e1_0 := e1 0 _ rfl
      have e1_1 := e1 1 _ rfl
      rw [Nat.add_zero] at e1_0
      clear e1
      have hltG : k < G.length := by rw [HL.out]; omega
      have HX := Lib.hid (show G[k] = ⟨1, n + (k : Int), e, l[k].c, l[k].v⟩ by
        have h2 := HAt.out k hlt
        rw [List.getElem?_eq_getElem hltG] at h2
        rw [Option.some.inj h2, gEnt, wrap_in n k h0 h1 (by omega)])
      have HN := Lib.hid (fun h => all_take hltG ha.out h)
      have HZ := Lib.hid (fun h => all_not hltG h)
      have HT := Lib.hid (List.take_succ_eq_append_getElem hltG)
      have HRI := Lib.hid (rentry_is G[k])
      generalize G[k] = z at *
      generalize l[k] = x at *
      obtain rfl := HX.out
      generalize entOk ⟨1, n + (k : Int), e, x.c, x.v⟩ = q at *
      simp only [Ent.val] at HRI
      have hi1 : (k : Int) < (l.length : Int) := by omega
      have hi2 : (k : Int) ≤ (l.length : Int) := by omega
      have HB := Lib.hid hb
      clear hb
      go_wp2_with fail
      go_region
      all_goals
        cases q
        · have hok : ok = false := by rw [HG.out.1]; exact HZ.out (by trivial)
          have hres : res = [] := by rw [HG.out.2, hok]; rfl
          subst hok hres
          go_wp2_with (first
            | (go_at_call 6
               refine (HRI.out _).mono ?_
               rintro e' w5 ⟨rfl, b5⟩
               have B5 : Below wr.heap.size wr w5 := ((Below.refl wr.heap.size wr).alloc (Nat.le_refl _) (.cells #[.int .i64 1, .int .i64 (n + (k : Int)), .int .i64 e, .int .i64 x.c, .int .i64 x.v] 23)).drew.trans (b5.mono (by simp))
               have hs5 := B5.size
               have R5 := Lib.hid (And.intro ((Row5.made wr (.int .i64 1) (.int .i64 (n + (k : Int))) (.int .i64 e) (.int .i64 x.c) (.int .i64 x.v) 23).drewE.below b5) B5)
               obtain ⟨_, d0, d1, d2, d3, d4, _, _, _, _, _⟩ := R5.out.1
               clear b5 B5))
          go_ret2
          exact ⟨_, rfl, below_next HB.out R5.out.2, World.ownsRow_nil _ _ _ _⟩
        · go_wp2_with (first
            | (go_at_call 6
               refine (HRI.out _).mono ?_
               rintro e' w5 ⟨rfl, b5⟩
               have B5 : Below wr.heap.size wr w5 := ((Below.refl wr.heap.size wr).alloc (Nat.le_refl _) (.cells #[.int .i64 1, .int .i64 (n + (k : Int)), .int .i64 e, .int .i64 x.c, .int .i64 x.v] 23)).drew.trans (b5.mono (by simp))
               have hs5 := B5.size
               have R5 := Lib.hid (And.intro ((Row5.made wr (.int .i64 1) (.int .i64 (n + (k : Int))) (.int .i64 e) (.int .i64 x.c) (.int .i64 x.v) 23).drewE.below b5) B5)
               obtain ⟨_, d0, d1, d2, d3, d4, _, _, _, _, _⟩ := R5.out.1
               clear b5 B5)
            | (at_builtin
               go_loud (refine wpList_append_lies _ rfl (.tmp 52) (.tmp 54) 25 rfl w.heap.size 23 i0 _ 5 40 Try.underlying25 HI.out.1 HI.out.2.1 HI.out.2.2.1 HI.out.2.2.2 rfl (by omega) u8 k (flat Ent.cells (G.take k)) rfl ?da4 _ 1 1 [.int .i64 1, .int .i64 (n + (k : Int)), .int .i64 e, .int .i64 x.c, .int .i64 x.v] rfl rfl ?da7 ?da8 ?da9 ?daa ?dab ?dac _ rfl ?dad)
               case da4 => exact (own_belowK ho.out R5.out.2).alloc _
               case da7 => exact World.news_of_block (heap_alloc_last _ _)
               case da8 => exact Ent.one ⟨1, n + (k : Int), e, x.c, x.v⟩
               case da9 => omega
               case daa => unfold maxLen; omega
               case dab => omega
               case dac => have := HB.out.size; simp; omega
               intro g cap w6 hown6 hgr6 hat6 hlt6
               have H6 := Lib.hid (And.intro hown6 hgr6)
               clear hown6 hgr6 hat6 hlt6))
          refine ⟨⟨k + 1, by omega, by go_num, ((below_next HB.out R5.out.2).alloc (by have := HB.out.size; omega) _).grown H6.out.2 (by have := HB.out.size; simp <;> omega) (fun b hb => (ho.out.lt b hb).1), Lib.hid (by rw [HT.out, flat_app, flat_one]; exact H6.out.1), Lib.hid (HN.out (by trivial))⟩, by simp [intOf]; omega⟩
    · by_cases hk2 : k = l.length
      · subst hk2
        have hltG : l.length < G.length := by rw [HL.out]; omega
        have HX := Lib.hid (show G[l.length] = ⟨2, n + (l.length : Int), e, (l.length : Int), 0⟩ by
          have h2 := HEnd.out
          rw [List.getElem?_eq_getElem hltG] at h2
          rw [Option.some.inj h2, gEnd, wrap_in n l.length h0 h1 (by omega)])
        have HN := Lib.hid (fun h => all_take hltG ha.out h)
        have HZ := Lib.hid (fun h => all_not hltG h)
        have HT := Lib.hid (List.take_succ_eq_append_getElem hltG)
        have HRI := Lib.hid (rentry_is G[l.length])
        generalize G[l.length] = z at *
        obtain rfl := HX.out
        generalize entOk ⟨2, n + (l.length : Int), e, (l.length : Int), 0⟩ = q at *
        simp only [Ent.val] at HRI
        have hi1 : ¬ (l.length : Int) < (l.length : Int) := by omega
        have hi2 : (l.length : Int) ≤ (l.length : Int) := by omega
        have HB := Lib.hid hb
        clear hb hlt
        cases q
        · have hok : ok = false := by rw [HG.out.1]; exact HZ.out (by trivial)
          have hres : res = [] := by rw [HG.out.2, hok]; rfl
          subst hok hres
          go_wp2_with (first
            | (go_at_call 6
               refine (HRI.out _).mono ?_
               rintro e' w5 ⟨rfl, b5⟩
               have B5 : Below wr.heap.size wr w5 := ((Below.refl wr.heap.size wr).alloc (Nat.le_refl _) (.cells #[.int .i64 2, .int .i64 (n + (l.length : Int)), .int .i64 e, .int .i64 (l.length : Int), .int .i64 0] 23)).trans (b5.mono (by simp))
               have hs5 := B5.size
               have R5 := Lib.hid (And.intro ((Row5.made wr (.int .i64 2) (.int .i64 (n + (l.length : Int))) (.int .i64 e) (.int .i64 (l.length : Int)) (.int .i64 0) 23).below b5) B5)
               obtain ⟨_, d0, d1, d2, d3, d4, _, _, _, _, _⟩ := R5.out.1
               clear b5 B5))
          go_ret2
          exact ⟨_, rfl, below_next HB.out R5.out.2, World.ownsRow_nil _ _ _ _⟩
        · go_wp2_with (first
            | (go_at_call 6
               refine (HRI.out _).mono ?_
               rintro e' w5 ⟨rfl, b5⟩
               have B5 : Below wr.heap.size wr w5 := ((Below.refl wr.heap.size wr).alloc (Nat.le_refl _) (.cells #[.int .i64 2, .int .i64 (n + (l.length : Int)), .int .i64 e, .int .i64 (l.length : Int), .int .i64 0] 23)).trans (b5.mono (by simp))
               have hs5 := B5.size
               have R5 := Lib.hid (And.intro ((Row5.made wr (.int .i64 2) (.int .i64 (n + (l.length : Int))) (.int .i64 e) (.int .i64 (l.length : Int)) (.int .i64 0) 23).below b5) B5)
               obtain ⟨_, d0, d1, d2, d3, d4, _, _, _, _, _⟩ := R5.out.1
               clear b5 B5)
            | (at_builtin
               go_loud (refine wpList_append_lies _ rfl (.tmp 52) (.tmp 54) 25 rfl w.heap.size 23 i0 _ 5 40 Try.underlying25 HI.out.1 HI.out.2.1 HI.out.2.2.1 HI.out.2.2.2 rfl (by omega) u8 l.length (flat Ent.cells (G.take l.length)) rfl ?db4 _ 1 1 [.int .i64 2, .int .i64 (n + (l.length : Int)), .int .i64 e, .int .i64 (l.length : Int), .int .i64 0] rfl rfl ?db7 ?db8 ?db9 ?dba ?dbb ?dbc _ rfl ?dbd)
               case db4 => exact (own_belowK ho.out R5.out.2).alloc _
               case db7 => exact World.news_of_block (heap_alloc_last _ _)
               case db8 => exact Ent.one ⟨2, n + (l.length : Int), e, (l.length : Int), 0⟩
               case db9 => omega
               case dba => unfold maxLen; omega
               case dbb => omega
               case dbc => have := HB.out.size; simp; omega
               intro g cap w6 hown6 hgr6 hat6 hlt6
               have H6 := Lib.hid (And.intro hown6 hgr6)
               clear hown6 hgr6 hat6 hlt6))
          refine ⟨⟨l.length + 1, by omega, by go_num, ((below_next HB.out R5.out.2).alloc (by have := HB.out.size; omega) _).grown H6.out.2 (by have := HB.out.size; simp <;> omega) (fun b hb => (ho.out.lt b hb).1), Lib.hid (by rw [HT.out, flat_app, flat_one]; exact H6.out.1), Lib.hid (HN.out (by trivial))⟩, by simp [intOf]⟩
      · obtain rfl : k = l.length + 1 := by omega
        have hn2 : ¬ ((l.length + 1 : Nat) : Int) ≤ (l.length : Int) := by omega
        have hok : ok = true := by
          rw [HG.out.1]
          have := ha.out
          rwa [List.take_of_length_le (by rw [HL.out]; exact Nat.le_refl _)] at this
        have hres : res = G := by rw [HG.out.2, hok]; rfl
        have HB := Lib.hid hb
        have HO := Lib.hid (show wr.ownsRow w.heap.size 23 5 u8 G.length (flat Ent.cells G) by
          have := ho.out
          rw [List.take_of_length_le (by rw [HL.out]; exact Nat.le_refl _)] at this
          rw [HL.out]; exact this)
        subst hok hres
        clear hb hlt hk
        go_wp2
        go_ret2
        exact ⟨_, rfl, HB.out, HO.out⟩
theorem rgroup_is (n e : Int) (a : Option Addr) (l : List Chg) (c : Nat) (w : World) (h : LiesAt w a (flat Chg.cells l)) (hl : l.length ≤ 1000) (hw : -9223372036854775808 ≤ n ∧ n ≤ 9223372036854775807) :
    Calls Try.prog 14 #[.int .i64 n, .int .i64 e, .slice a l.length c] w fun r w' => ∃ v, r = .returned (.tuple #[v, .bool (grOk n e l)]) ∧ Below w.heap.size w w' ∧ w'.ownsRow w.heap.size 23 5 v (grL n e l).length (flat Ent.cells (grL n e l)) := by
  by_cases h2 : 0 ≤ n ∧ n < 4294967296
  · exact rgroup_in n e a l c w h hl h2.1 h2.2
  · have hok := grOk_out n e l (by omega) hw
    have hres : grL n e l = [] := by rw [grL, hok]; rfl
    rw [hok, hres]
    have hli : (l.length : Int) ≤ 1000 := by omega
    by_cases hn : n < 0
    · go_enter Try.func14, Try.ntmps14
      go_wp2
      go_loopw [8, 9] (fun v i wr => v = .slice none 0 0 ∧ i = .int .i64 0 ∧ wr = w) (fun _ i _ => 0)
      case atStart => exact ⟨rfl, rfl, rfl⟩
      case round =>
        obtain ⟨rfl, rfl, rfl⟩ := hrel
        have hz : (0 : Int) ≤ (l.length : Int) := by omega
        go_wp2
        go_ret2
        exact ⟨_, rfl, Below.refl _ _, World.ownsRow_nil _ _ _ _⟩
    · have hn2 : 4294967296 ≤ n := by omega
      go_enter Try.func14, Try.ntmps14
      go_wp2
      go_loopw [8, 9] (fun v i wr => v = .slice none 0 0 ∧ i = .int .i64 0 ∧ wr = w) (fun _ i _ => 0)
      case atStart => exact ⟨rfl, rfl, rfl⟩
      case round =>
        obtain ⟨rfl, rfl, rfl⟩ := hrel
        have hz : (0 : Int) ≤ (l.length : Int) := by omega
        go_wp2
        go_ret2
        exact ⟨_, rfl, Below.refl _ _, World.ownsRow_nil _ _ _ _⟩
end Go.Proofs.Ytebeegfgghbdlaa
