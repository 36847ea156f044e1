/- The book: lists of structs: copies, and marks. -/
import Derived.Test.YtebeegfgghbdlaaWideGrow
import Derived.Test.YtebeegfgghbdlaaWideSame
import Derived.Test.YtebeegfgghbdlaaBookGen
import Derived.OwnWalk
namespace Go.Proofs.Ytebeegfgghbdlaa.Bk
open Go.RowKit

/-- The i-th list's mark at place k. -/
def markC (i k : Int) : Int := -1000 * i - k - 1

def Chg.mark (v : Int) : Chg := ⟨v, 0⟩
theorem Chg.mark_cells (v : Int) : (Chg.mark v).cells = [.int .i64 v, .int .i64 0] := rfl
def marksChanges (i : Int) (f n : Nat) : List Chg := (List.range n).map fun k => Chg.mark (markC i ((f + k : Nat) : Int))
theorem marksChanges_len (i : Int) (f n : Nat) : (marksChanges i f n).length = n := by simp [marksChanges]
theorem marksChanges_snoc (i : Int) (f n : Nat) : marksChanges i f (n + 1) = marksChanges i f n ++ [Chg.mark (markC i ((f + n : Nat) : Int))] := by simp [marksChanges, List.range_succ]
theorem marksChanges_add (i : Int) (n m : Nat) : marksChanges i 0 (n + m) = marksChanges i 0 n ++ marksChanges i n m := by
  induction m with
  | zero => rw [Nat.add_zero, show marksChanges i n 0 = [] from rfl, List.append_nil]
  | succ m ih => rw [← Nat.add_assoc, marksChanges_snoc, ih, marksChanges_snoc, List.append_assoc, Nat.zero_add]
theorem marksChanges_take (i : Int) (n m : Nat) : (marksChanges i 0 (n + m)).take n = marksChanges i 0 n := by
  rw [marksChanges_add, List.take_left' (marksChanges_len _ _ _)]

set_option maxHeartbeats 400000 in
theorem copyChanges_is (a : Option Addr) (l : List Chg) (c : Nat) (w : World) (h : LiesAt w a (flat Chg.cells l)) (hl : l.length < 2 ^ 40) :
    Calls Try.prog 33 #[.slice a l.length c] w fun e w' => ∃ v, e = .returned v ∧ Below w.heap.size w w' ∧ w'.ownsRow w.heap.size 56 2 v l.length (flat Chg.cells l) := by
  obtain ⟨i0, hi, hz0, hz1, hz2⟩ := info_parts chgInfo
  have HI := Lib.hid (And.intro hi (And.intro hz0 (And.intro hz1 hz2)))
  clear hi hz0 hz1 hz2
  have H := Lib.hid h
  clear h
  go_enter Try.func33, Try.ntmps33
  go_wp2_with (refine wpList_append_copy rfl (.tmp 3) 24 rfl 56 i0 _ 2 16 Try.underlying24 HI.out.1 HI.out.2.1 HI.out.2.2.1 HI.out.2.2.2 rfl (by omega) (by omega) a l.length c (flat Chg.cells l) rfl (fun j u hu => by obtain ⟨b, q1, _, q3⟩ := H.out j u hu; exact ⟨b, q1, q3⟩) (flat_len Chg.len l) (flat_all Chg.one l) hl ?_
               intro v w1 b1 o1
               have HX := Lib.hid (And.intro b1 o1)
               clear b1 o1)
  go_ret
  exact ⟨_, rfl, HX.out.1, HX.out.2⟩

set_option maxRecDepth 100000 in
set_option maxHeartbeats 1000000 in
theorem markChanges_is (i : Int) (f n : Nat) (w : World) (hi0 : 0 ≤ i) (hi1 : i ≤ 1000) (hf : f < 2 ^ 40) (hn : n < 2 ^ 40) :
    Calls Try.prog 71 #[.int .i64 i, .int .i64 (f : Int), .int .i64 (n : Int)] w fun e w' => ∃ v, e = .returned v ∧ Below w.heap.size w w' ∧ w'.ownsRow w.heap.size 56 2 v n (flat Chg.cells (marksChanges i f n)) := by
  obtain ⟨i0, hi, hz0, hz1, hz2⟩ := info_parts chgInfo
  have HI := Lib.hid (And.intro hi (And.intro hz0 (And.intro hz1 hz2)))
  clear hi hz0 hz1 hz2
  have HB := Lib.hid (And.intro hf hn)
  have hf0 : (f : Int) ≤ 1099511627776 := by omega
  have hn0 : (n : Int) ≤ 1099511627776 := by omega
  clear hf hn
  go_enter Try.func71, Try.ntmps71
  go_wp2
  go_loopw [7, 8] (fun v k wr => ∃ j q : Nat, j ≤ n ∧ Hid (q = f + j) ∧ k = .int .i64 (q : Int) ∧ Below w.heap.size w wr ∧ wr.ownsRow w.heap.size 56 2 v j (flat Chg.cells (marksChanges i f j))) (fun _ k _ => f + n - (intOf k).toNat)
  case atStart => exact ⟨0, f, Nat.zero_le _, Lib.hid rfl, rfl, Below.refl _ _, World.ownsRow_nil _ _ _ _⟩
  case round =>
    obtain ⟨j, q, hj, hq, rfl, hb, ho⟩ := hrel
    by_cases hlt : j < n
    · have HR := Lib.hid (And.intro hb ho)
      have hk : (q : Int) < (f : Int) + (n : Int) := by have := hq.out; omega
      have hq0 : (q : Int) ≤ 2199023255552 := by omega
      have hsz := hb.size
      clear hb ho
      go_wp2_with (at_builtin
                   go_loud (refine wpList_append_lies _ rfl (.tmp 17) (.tmp 24) 24 rfl w.heap.size 56 i0 _ 2 16 Try.underlying24 HI.out.1 HI.out.2.1 HI.out.2.2.1 HI.out.2.2.2 rfl (by omega) u7 j (flat Chg.cells (marksChanges i f j)) rfl (HR.out.2.alloc _) _ 1 1 [.int .i64 (markC i (q : Int)), .int .i64 0] rfl rfl ?ba7 ?ba8 ?ba9 ?bb1 ?bb2 ?bb3 _ rfl ?bb5)
                   case ba7 => exact World.news_of_block (heap_alloc_last _ _)
                   case ba8 => exact Chg.one (Chg.mark (markC i (q : Int)))
                   case ba9 => omega
                   case bb1 => unfold maxLen; have := HB.out; omega
                   case bb2 => have := HB.out; omega
                   case bb3 => simp; omega
                   intro g cap w4 hown4 hgr4 hat4 hlt4
                   have HX := Lib.hid (And.intro hown4 hgr4)
                   clear hown4 hgr4 hat4 hlt4)
      have e : marksChanges i f (j + 1) = marksChanges i f j ++ [Chg.mark (markC i (q : Int))] := by rw [marksChanges_snoc, ← hq.out]
      refine ⟨⟨j + 1, q + 1, by omega, Lib.hid (by have := hq.out; omega), by go_num, (HR.out.1.alloc hsz _).grown HX.out.2 (by simp; omega) (fun b hb => (HR.out.2.lt b hb).1), ?_⟩, by have := hq.out; simp [intOf]; omega⟩
      rw [e, flat_app, flat_one]
      exact HX.out.1
    · obtain rfl : j = n := by omega
      have HR := Lib.hid (And.intro hb ho)
      have hk : ¬ (q : Int) < (f : Int) + (j : Int) := by have := hq.out; omega
      have hq0 : (q : Int) ≤ 2199023255552 := by have := hq.out; omega
      clear hb ho hlt hj
      go_wp2
      go_ret
      exact ⟨_, rfl, HR.out.1, HR.out.2⟩
def Ent.mark (v : Int) : Ent := ⟨v, 0, 0, 0, 0⟩
theorem Ent.mark_cells (v : Int) : (Ent.mark v).cells = [.int .i64 v, .int .i64 0, .int .i64 0, .int .i64 0, .int .i64 0] := rfl
def marksEntries (i : Int) (f n : Nat) : List Ent := (List.range n).map fun k => Ent.mark (markC i ((f + k : Nat) : Int))
theorem marksEntries_len (i : Int) (f n : Nat) : (marksEntries i f n).length = n := by simp [marksEntries]
theorem marksEntries_snoc (i : Int) (f n : Nat) : marksEntries i f (n + 1) = marksEntries i f n ++ [Ent.mark (markC i ((f + n : Nat) : Int))] := by simp [marksEntries, List.range_succ]
theorem marksEntries_add (i : Int) (n m : Nat) : marksEntries i 0 (n + m) = marksEntries i 0 n ++ marksEntries i n m := by
  induction m with
  | zero => rw [Nat.add_zero, show marksEntries i n 0 = [] from rfl, List.append_nil]
  | succ m ih => rw [← Nat.add_assoc, marksEntries_snoc, ih, marksEntries_snoc, List.append_assoc, Nat.zero_add]
theorem marksEntries_take (i : Int) (n m : Nat) : (marksEntries i 0 (n + m)).take n = marksEntries i 0 n := by
  rw [marksEntries_add, List.take_left' (marksEntries_len _ _ _)]

set_option maxHeartbeats 400000 in
theorem copyEntries_is (a : Option Addr) (l : List Ent) (c : Nat) (w : World) (h : LiesAt w a (flat Ent.cells l)) (hl : l.length < 2 ^ 40) :
    Calls Try.prog 34 #[.slice a l.length c] w fun e w' => ∃ v, e = .returned v ∧ Below w.heap.size w w' ∧ w'.ownsRow w.heap.size 23 5 v l.length (flat Ent.cells l) := by
  obtain ⟨i0, hi, hz0, hz1, hz2⟩ := info_parts entInfo
  have HI := Lib.hid (And.intro hi (And.intro hz0 (And.intro hz1 hz2)))
  clear hi hz0 hz1 hz2
  have H := Lib.hid h
  clear h
  go_enter Try.func34, Try.ntmps34
  go_wp2_with (refine wpList_append_copy rfl (.tmp 3) 25 rfl 23 i0 _ 5 40 Try.underlying25 HI.out.1 HI.out.2.1 HI.out.2.2.1 HI.out.2.2.2 rfl (by omega) (by omega) a l.length c (flat Ent.cells l) rfl (fun j u hu => by obtain ⟨b, q1, _, q3⟩ := H.out j u hu; exact ⟨b, q1, q3⟩) (flat_len Ent.len l) (flat_all Ent.one l) hl ?_
               intro v w1 b1 o1
               have HX := Lib.hid (And.intro b1 o1)
               clear b1 o1)
  go_ret
  exact ⟨_, rfl, HX.out.1, HX.out.2⟩

set_option maxRecDepth 100000 in
set_option maxHeartbeats 1000000 in
theorem markEntries_is (i : Int) (f n : Nat) (w : World) (hi0 : 0 ≤ i) (hi1 : i ≤ 1000) (hf : f < 2 ^ 40) (hn : n < 2 ^ 40) :
    Calls Try.prog 72 #[.int .i64 i, .int .i64 (f : Int), .int .i64 (n : Int)] w fun e w' => ∃ v, e = .returned v ∧ Below w.heap.size w w' ∧ w'.ownsRow w.heap.size 23 5 v n (flat Ent.cells (marksEntries i f n)) := by
  obtain ⟨i0, hi, hz0, hz1, hz2⟩ := info_parts entInfo
  have HI := Lib.hid (And.intro hi (And.intro hz0 (And.intro hz1 hz2)))
  clear hi hz0 hz1 hz2
  have HB := Lib.hid (And.intro hf hn)
  have hf0 : (f : Int) ≤ 1099511627776 := by omega
  have hn0 : (n : Int) ≤ 1099511627776 := by omega
  clear hf hn
  go_enter Try.func72, Try.ntmps72
  go_wp2
  go_loopw [7, 8] (fun v k wr => ∃ j q : Nat, j ≤ n ∧ Hid (q = f + j) ∧ k = .int .i64 (q : Int) ∧ Below w.heap.size w wr ∧ wr.ownsRow w.heap.size 23 5 v j (flat Ent.cells (marksEntries i f j))) (fun _ k _ => f + n - (intOf k).toNat)
  case atStart => exact ⟨0, f, Nat.zero_le _, Lib.hid rfl, rfl, Below.refl _ _, World.ownsRow_nil _ _ _ _⟩
  case round =>
    obtain ⟨j, q, hj, hq, rfl, hb, ho⟩ := hrel
    by_cases hlt : j < n
    · have HR := Lib.hid (And.intro hb ho)
      have hk : (q : Int) < (f : Int) + (n : Int) := by have := hq.out; omega
      have hq0 : (q : Int) ≤ 2199023255552 := by omega
      have hsz := hb.size
      clear hb ho
      go_wp2_with (at_builtin
                   go_loud (refine wpList_append_lies _ rfl (.tmp 17) (.tmp 24) 25 rfl w.heap.size 23 i0 _ 5 40 Try.underlying25 HI.out.1 HI.out.2.1 HI.out.2.2.1 HI.out.2.2.2 rfl (by omega) u7 j (flat Ent.cells (marksEntries i f j)) rfl (HR.out.2.alloc _) _ 1 1 [.int .i64 (markC i (q : Int)), .int .i64 0, .int .i64 0, .int .i64 0, .int .i64 0] rfl rfl ?ba7 ?ba8 ?ba9 ?bb1 ?bb2 ?bb3 _ rfl ?bb5)
                   case ba7 => exact World.news_of_block (heap_alloc_last _ _)
                   case ba8 => exact Ent.one (Ent.mark (markC i (q : Int)))
                   case ba9 => omega
                   case bb1 => unfold maxLen; have := HB.out; omega
                   case bb2 => have := HB.out; omega
                   case bb3 => simp; omega
                   intro g cap w4 hown4 hgr4 hat4 hlt4
                   have HX := Lib.hid (And.intro hown4 hgr4)
                   clear hown4 hgr4 hat4 hlt4)
      have e : marksEntries i f (j + 1) = marksEntries i f j ++ [Ent.mark (markC i (q : Int))] := by rw [marksEntries_snoc, ← hq.out]
      refine ⟨⟨j + 1, q + 1, by omega, Lib.hid (by have := hq.out; omega), by go_num, (HR.out.1.alloc hsz _).grown HX.out.2 (by simp; omega) (fun b hb => (HR.out.2.lt b hb).1), ?_⟩, by have := hq.out; simp [intOf]; omega⟩
      rw [e, flat_app, flat_one]
      exact HX.out.1
    · obtain rfl : j = n := by omega
      have HR := Lib.hid (And.intro hb ho)
      have hk : ¬ (q : Int) < (f : Int) + (j : Int) := by have := hq.out; omega
      have hq0 : (q : Int) ≤ 2199023255552 := by have := hq.out; omega
      clear hb ho hlt hj
      go_wp2
      go_ret
      exact ⟨_, rfl, HR.out.1, HR.out.2⟩
end Go.Proofs.Ytebeegfgghbdlaa.Bk
