/- Package entry: Group. -/
import Derived.Test.YtbcdmcafobjpcaaGreatDoorEntryPut
import Derived.Test.YtbcdmcafobjpcaaGreatDoorWideSame
namespace Go.Proofs.YtbcdmcafobjpcaaGreatDoor
open Go.RowKit
open Go.Proofs.YtbcdmcafobjpcaaGreatDoor.Bk

/-- A slice made with room, and nothing in it. -/
theorem make_room (u : World) (t e : TypeId) (i : TypeInfo) (z : Value) (ht : Tryz.prog.underlying t = some (.slice e)) (hi : Tryz.prog.info? e = some i) (hz : i.zero = some z) (k b : Nat) (hk : i.size = k) (hb : i.bytes = b) (n : Nat) (hn : n ≤ 2 ^ 40) (hb2 : b ≤ 40) :
    ∃ w', (Instr.makeSlice t (.int .i64 0) (.int .i64 ((n : Int) + 1))).run Tryz.prog u = .ok (.slice (some ⟨u.heap.size, 0, none⟩) 0 (n + 1)) w' ∧ Below u.heap.size u w' ∧ w'.ownsRow u.heap.size e k (.slice (some ⟨u.heap.size, 0, none⟩) 0 (n + 1)) 0 [] := by
  have hby : (i.bytes : Int) * ((n : Int) + 1) ≤ 281474976710656 := by
    have : (i.bytes : Int) ≤ 40 := by omega
    have h2 := Int.mul_le_mul_of_nonneg_right this (show (0 : Int) ≤ (n : Int) + 1 by omega)
    omega
  have h := run_make (P := Tryz.prog) u t e i z ht hi hz .i64 .i64 0 ((n : Int) + 1) (by omega) (by omega) hby (by omega)
  refine ⟨_, by simpa using h, (Below.refl _ _).alloc (Nat.le_refl _) _, by simp, .inr ⟨u.heap.size, n + 1, _, rfl, Nat.le_refl _, heap_alloc_new u _, by omega, by unfold maxLen; omega, ?_, by simp⟩⟩
  rw [size_madeCells, hk]

/-- The entries that are made of changes. -/
def gEnt (n e : Int) (k : Nat) (x : Chg) : Ent := ⟨1, wrap64 (n + (k : Int)), e, x.c, x.v⟩
def gEnd (n e : Int) (m : Nat) : Ent := ⟨2, wrap64 (n + (m : Int)), e, (m : Int), 0⟩
def gHead (n e : Int) (l : List Chg) : List Ent := l.mapIdx (gEnt n e)
def groupL (n e : Int) (l : List Chg) : List Ent := gHead n e l ++ [gEnd n e l.length]
theorem gHead_next (n e : Int) (l : List Chg) (k : Nat) (h : k < l.length) : gHead n e (l.take (k + 1)) = gHead n e (l.take k) ++ [gEnt n e k l[k]] := by
  rw [gHead, gHead, List.take_succ_eq_append_getElem h, List.mapIdx_concat, List.length_take, Nat.min_eq_left (Nat.le_of_lt h)]
theorem gHead_len (n e : Int) (l : List Chg) : (gHead n e l).length = l.length := by simp [gHead]
theorem groupL_len (n e : Int) (l : List Chg) : (groupL n e l).length = l.length + 1 := by simp [groupL, gHead_len]
def grOk (n e : Int) (l : List Chg) : Bool := (groupL n e l).all entOk
/-- What Group tells. -/
def grL (n e : Int) (l : List Chg) : List Ent := if grOk n e l = true then groupL n e l else []
theorem all_take {G : List Ent} {k : Nat} (h : k < G.length) (h1 : (G.take k).all entOk = true) (h2 : entOk G[k] = true) : (G.take (k + 1)).all entOk = true := by
  rw [List.take_succ_eq_append_getElem h, List.all_append, h1]
  simp [h2]
theorem all_not {G : List Ent} {k : Nat} (h : k < G.length) (h2 : entOk G[k] = false) : G.all entOk = false := by
  rw [List.all_eq_false]
  exact ⟨G[k], List.getElem_mem h, by rw [h2]; decide⟩

set_option maxRecDepth 100000 in
set_option maxHeartbeats 2000000 in
theorem group_is (n e : Int) (a : Option Addr) (l : List Chg) (c : Nat) (w : World) (h : LiesAt w a (flat Chg.cells l)) (hl : l.length ≤ 1000) :
    Calls Tryz.prog 58 #[.int .i64 n, .int .i64 e, .slice a l.length c] w fun r w' => ∃ v, r = .returned (.tuple #[v, .bool (grOk n e l)]) ∧ Below w.heap.size w w' ∧ w'.ownsRow w.heap.size 101 5 v (grL n e l).length (flat Ent.cells (grL n e l)) := by
  obtain ⟨i0, hi, hz0, hz1, hz2⟩ := info_parts entInfo
  have HI := Lib.hid (And.intro hi (And.intro hz0 (And.intro hz1 hz2)))
  obtain ⟨wm, hmk, bm, om⟩ := make_room w 69 101 i0 _ Tryz.underlying69 hi hz0 5 40 hz1 hz2 l.length (by omega) (by omega)
  clear hi hz0 hz1 hz2
  have H := Lib.hid h
  have HM := Lib.hid (And.intro bm om)
  have HG := Lib.hid (And.intro (show grOk n e l = (groupL n e l).all entOk from rfl) (show grL n e l = if grOk n e l = true then groupL n e l else [] from rfl))
  clear h bm om
  generalize grOk n e l = ok at *
  generalize grL n e l = res at *
  go_enter Tryz.func58, Tryz.ntmps58
  go_wp2
  clear hmk
  go_loopw [8, 19] (fun g i wr => ∃ k : Nat, k ≤ l.length ∧ i = .int .i64 (k : Int) ∧ Below w.heap.size w wr ∧ wr.ownsRow w.heap.size 101 5 g k (flat Ent.cells (gHead n e (l.take k)))) (fun _ i _ => l.length - (intOf i).toNat)
  case atStart => exact ⟨0, Nat.zero_le _, rfl, HM.out.1, HM.out.2⟩
  case round =>
    obtain ⟨k, hk, rfl, hb, ho⟩ := hrel
    by_cases hlt : k < l.length
    · obtain ⟨g1, o1, rfl, hg1, e1⟩ := (H.out.below hb).elem Chg.len (by omega) (List.getElem?_eq_getElem hlt)
      have e1_0 := e1 0 _ rfl
      have e1_1 := e1 1 _ rfl
      rw [Nat.add_zero] at e1_0
      clear e1
      have HN := Lib.hid (gHead_next n e l k hlt)
      generalize l[k] = x at *
      have hi1 : (k : Int) < (l.length : Int) := by omega
      have HR := Lib.hid (And.intro hb ho)
      have hsz := hb.size
      clear hb ho
      go_wp2_with (refine wpList_append_lies _ rfl (.tmp 24) (.tmp 34) 69 rfl w.heap.size 101 i0 _ 5 40 Tryz.underlying69 HI.out.1 HI.out.2.1 HI.out.2.2.1 HI.out.2.2.2 ?ba1 ?ba2 u8 k (flat Ent.cells (gHead n e (l.take k))) rfl ?ba4 _ 1 1 [.int .i64 1, .int .i64 (wrap64 (n + (k : Int))), .int .i64 e, .int .i64 x.c, .int .i64 x.v] rfl rfl ?ba7 ?ba8 ?ba9 ?bb1 ?bb2 ?bb3 _ rfl ?bb5
                   case ba1 => rfl
                   case ba2 => omega
                   case ba4 => exact ((HR.out.2.alloc _).alloc _)
                   case ba7 => exact World.news_of_block (alloc_two _ _ _)
                   case ba8 => exact Ent.one (gEnt n e k x)
                   case ba9 => omega
                   case bb1 => unfold maxLen; omega
                   case bb2 => omega
                   case bb3 => simp; omega
                   intro g cap w4 hown4 hgr4 hat4 hlt4
                   have HX := Lib.hid (And.intro hown4 hgr4)
                   clear hown4 hgr4 hat4 hlt4)
      refine ⟨⟨k + 1, by omega, by go_num, ((HR.out.1.alloc hsz _).alloc (by simp; omega) _).grown HX.out.2 (by simp; omega) (fun b hb => (HR.out.2.lt b hb).1), ?_⟩, by simp [intOf]; omega⟩
      rw [HN.out, flat_app, flat_one]
      exact HX.out.1
    · obtain rfl : k = l.length := by omega
      have HR := Lib.hid (And.intro hb ho)
      have hn : ¬ (l.length : Int) < (l.length : Int) := by omega
      have hsz := hb.size
      clear hlt hk hb ho
      go_wp2_with (refine wpList_append_lies _ rfl (.tmp 37) (.tmp 46) 69 rfl w.heap.size 101 i0 _ 5 40 Tryz.underlying69 HI.out.1 HI.out.2.1 HI.out.2.2.1 HI.out.2.2.2 ?ca1 ?ca2 u8 l.length (flat Ent.cells (gHead n e (l.take l.length))) rfl ?ca4 _ 1 1 [.int .i64 2, .int .i64 (wrap64 (n + (l.length : Int))), .int .i64 e, .int .i64 (l.length : Int), .int .i64 0] rfl rfl ?ca7 ?ca8 ?ca9 ?cb1 ?cb2 ?cb3 _ rfl ?cb5
                   case ca1 => rfl
                   case ca2 => omega
                   case ca4 => exact (HR.out.2.alloc _)
                   case ca7 => exact World.news_of_block (heap_alloc_last _ _)
                   case ca8 => exact Ent.one (gEnd n e l.length)
                   case ca9 => omega
                   case cb1 => unfold maxLen; omega
                   case cb2 => omega
                   case cb3 => simp; omega
                   intro g cap w4 hown4 hgr4 hat4 hlt4
                   have HX0 := Lib.hid (And.intro hown4 hgr4)
                   clear hown4 hgr4 hat4 hlt4)
      have HX := Lib.hid (And.intro (show Below w.heap.size w w4 from (HR.out.1.alloc hsz _).grown HX0.out.2 (by simp; omega) (fun b hb => (HR.out.2.lt b hb).1)) (show w4.ownsRow w.heap.size 101 5 (.slice (some ⟨g, 0, none⟩) (l.length + 1) cap) (l.length + 1) (flat Ent.cells (groupL n e l)) by
        have := HX0.out.1
        rw [groupL, flat_app, flat_one]
        rw [List.take_length] at this
        exact this))
      clear HX0 HR
      have hgl := groupL_len n e l
      have hli : (l.length : Int) ≤ 1000 := by omega
      generalize groupL n e l = G at *
      have HL := Lib.hid hgl
      have HY : Hid (LiesAt w4 (some ⟨g, 0, none⟩) (flat Ent.cells G)) := Lib.hid (by
        obtain ⟨a', c', hv, hl, _⟩ := own_formK HX.out.2
        obtain ⟨rfl, _⟩ : some ⟨g, 0, none⟩ = a' ∧ cap = c' := by simpa using hv
        exact hl)
      clear hgl
      go_loopw [50] (fun i wr => ∃ k : Nat, k ≤ l.length + 1 ∧ i = .int .i64 (k : Int) ∧ Below w4.heap.size w4 wr ∧ Hid ((G.take k).all entOk = true)) (fun i _ => l.length + 1 - (intOf i).toNat)
      case atStart => exact ⟨0, Nat.zero_le _, rfl, Below.refl _ _, Lib.hid (by simp)⟩
      case round =>
        obtain ⟨k, hk, rfl, hb, ha⟩ := hrel
        by_cases hlt : k < l.length + 1
        · have hltG : k < G.length := by rw [HL.out]; exact hlt
          obtain ⟨g1, o1, hq, hg1, e1⟩ := (HY.out.below hb).elem Ent.len (by omega) (List.getElem?_eq_getElem hltG)
          obtain ⟨rfl, rfl⟩ : g = g1 ∧ 0 = o1 := by simpa using hq
          have e1_0 := e1 0 _ rfl
          have e1_1 := e1 1 _ rfl
          have e1_2 := e1 2 _ rfl
          have e1_3 := e1 3 _ rfl
          have e1_4 := e1 4 _ rfl
          rw [Nat.zero_add] at e1_0 e1_1 e1_2 e1_3 e1_4
          rw [Nat.add_zero] at e1_0
          clear e1 hq
          have HN := Lib.hid (fun h => all_take hltG ha.out h)
          have HZ := Lib.hid (fun h => all_not hltG h)
          have HRI := Lib.hid (right_is G[k])
          generalize hx : G[k] = x at *
          generalize entOk x = q at *
          have hi1 : (k : Int) < (l.length : Int) + 1 := by omega
          have HB := Lib.hid hb
          obtain ⟨xk, xl, xe, xc, xv⟩ := x
          simp only [Ent.val] at HRI
          simp only at e1_0 e1_1 e1_2 e1_3 e1_4
          clear hb hx
          cases q
          · have hok : ok = false := by rw [HG.out.1]; exact HZ.out (by trivial)
            have hres : res = [] := by rw [HG.out.2, hok]; rfl
            subst hok hres
            go_wp2_with (go_at_call 78; refine (HRI.out _).mono ?_; rintro e' w5 ⟨rfl, b5⟩; have HB5 := Lib.hid b5; clear b5)
            go_ret2
            exact ⟨_, rfl, below_next HX.out.1 (HB.out.trans (((Below.refl _ _).alloc (Nat.le_refl _) _).trans (HB5.out.mono (by simp)) |>.mono HB.out.size)), World.ownsRow_nil _ _ _ _⟩
          · go_wp2_with (go_at_call 78; refine (HRI.out _).mono ?_; rintro e' w5 ⟨rfl, b5⟩; have HB5 := Lib.hid b5; clear b5)
            exact ⟨⟨k + 1, by omega, by go_num, HB.out.trans (((Below.refl _ _).alloc (Nat.le_refl _) _).trans (HB5.out.mono (by simp)) |>.mono HB.out.size), Lib.hid (HN.out (by trivial))⟩, by simp [intOf]; omega⟩
        · obtain rfl : k = l.length + 1 := by omega
          have hn2 : ¬ ((l.length + 1 : Nat) : Int) < (l.length : Int) + 1 := by omega
          have hok : ok = true := by
            rw [HG.out.1]
            have := ha.out
            rwa [List.take_of_length_le (by rw [HL.out]; exact Nat.le_refl _)] at this
          have hres : res = G := by rw [HG.out.2, hok]; rfl
          have HB := Lib.hid hb
          subst hok hres
          clear hb hlt hk
          go_wp2
          go_ret2
          refine ⟨_, rfl, below_next HX.out.1 HB.out, ?_⟩
          rw [HL.out]
          exact own_belowK HX.out.2 HB.out
end Go.Proofs.YtbcdmcafobjpcaaGreatDoor
