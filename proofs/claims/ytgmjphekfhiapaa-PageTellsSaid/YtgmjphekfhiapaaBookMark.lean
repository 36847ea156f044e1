/- The book: copies of a list, and marks. -/
import Derived.Test.YtgmjphekfhiapaaBookSame
namespace Go.Proofs.Ytgmjphekfhiapaa.Bk
open Go.RowKit

theorem intInfo : (Try.prog.info? 3).map (fun i => (i.zero, i.size, i.bytes)) = some (some (.int .i64 0), 1, 8) := by kernel_rfl
theorem strInfo : (Try.prog.info? 9).map (fun i => (i.zero, i.size, i.bytes)) = some (some (.string .empty), 1, 16) := by kernel_rfl
theorem txts_one {l : List ByteArray} : ∀ u ∈ txts l, u.oneCell' = true := fun u hu => by
  obtain ⟨x, _, rfl⟩ := List.mem_map.1 hu
  rfl

set_option maxHeartbeats 400000 in
theorem copyTexts_is (a : Option Addr) (l : List ByteArray) (c : Nat) (w : World) (h : LiesAt w a (txts l)) (hl : l.length < 2 ^ 40) :
    Calls Try.prog 28 #[.slice a l.length c] w fun e w' => ∃ v, e = .returned v ∧ Below w.heap.size w w' ∧ w'.ownsRow w.heap.size 9 1 v l.length (txts l) := by
  obtain ⟨i0, hi, hz0, hz1, hz2⟩ := info_parts strInfo
  have HI := Lib.hid (And.intro hi (And.intro hz0 (And.intro hz1 hz2)))
  clear hi hz0 hz1 hz2
  have H := Lib.hid h
  clear h
  go_enter Try.func28, Try.ntmps28
  go_wp2_with (refine wpList_append_copy rfl (.tmp 3) 34 rfl 9 i0 _ 1 16 Try.underlying34 HI.out.1 HI.out.2.1 HI.out.2.2.1 HI.out.2.2.2 rfl (by omega) (by omega) a l.length c (txts l) rfl (fun j u hu => by obtain ⟨b, q1, _, q3⟩ := H.out j u hu; exact ⟨b, q1, q3⟩) (by simp [txts]) txts_one hl ?_
               intro v w1 b1 o1
               have HX := Lib.hid (And.intro b1 o1)
               clear b1 o1)
  go_ret
  exact ⟨_, rfl, HX.out.1, HX.out.2⟩

/-- The i-th list's mark at place k. -/
def markI (i k : Int) : Int := -1000000 * i - k - 7
def marksI (i : Int) (from_ n : Nat) : List Int := (List.range n).map fun k => markI i ((from_ + k : Nat) : Int)
theorem marksI_len (i : Int) (f n : Nat) : (marksI i f n).length = n := by simp [marksI]
theorem marksI_snoc (i : Int) (f n : Nat) : marksI i f (n + 1) = marksI i f n ++ [markI i ((f + n : Nat) : Int)] := by simp [marksI, List.range_succ]

set_option maxRecDepth 100000 in
set_option maxHeartbeats 1000000 in
theorem markInts_is (i : Int) (f n : Nat) (w : World) (hi0 : 0 ≤ i) (hi1 : i ≤ 1000) (hf : f < 2 ^ 40) (hn : n < 2 ^ 40) :
    Calls Try.prog 76 #[.int .i64 i, .int .i64 (f : Int), .int .i64 (n : Int)] w fun e w' => ∃ v, e = .returned v ∧ Below w.heap.size w w' ∧ w'.ownsRow w.heap.size 3 1 v n (vals (marksI i f n)) := by
  obtain ⟨i0, hi, hz0, hz1, hz2⟩ := info_parts intInfo
  have HI := Lib.hid (And.intro hi (And.intro hz0 (And.intro hz1 hz2)))
  clear hi hz0 hz1 hz2
  have HB := Lib.hid (And.intro hf hn)
  have hf0 : (f : Int) ≤ 1099511627776 := by omega
  have hn0 : (n : Int) ≤ 1099511627776 := by omega
  clear hf hn
  go_enter Try.func76, Try.ntmps76
  go_wp2
  go_loopw [7, 8] (fun v k wr => ∃ j q : Nat, j ≤ n ∧ Hid (q = f + j) ∧ k = .int .i64 (q : Int) ∧ Below w.heap.size w wr ∧ wr.ownsRow w.heap.size 3 1 v j (vals (marksI i f j))) (fun _ k _ => f + n - (intOf k).toNat)
  case atStart => exact ⟨0, f, Nat.zero_le _, Lib.hid rfl, rfl, Below.refl _ _, World.ownsRow_nil _ _ _ _⟩
  case round =>
    obtain ⟨j, q, hj, hq, rfl, hb, ho⟩ := hrel
    by_cases hlt : j < n
    · have HR := Lib.hid (And.intro hb ho)
      have hk : (q : Int) < (f : Int) + (n : Int) := by have := hq.out; omega
      have hq0 : (q : Int) ≤ 2199023255552 := by omega
      have hsz := hb.size
      clear hb ho
      go_wp2_with (refine wpList_append_lies _ rfl (.tmp 17) (.tmp 23) 22 rfl w.heap.size 3 i0 _ 1 8 Try.underlying22 HI.out.1 HI.out.2.1 HI.out.2.2.1 HI.out.2.2.2 rfl (by omega) u7 j (vals (marksI i f j)) rfl (HR.out.2.alloc _) _ 1 1 [.int .i64 (markI i (q : Int))] rfl rfl (by exact World.news_of_block (heap_alloc_last _ _)) (by intro u hu; simp at hu; rw [hu]; rfl) (by omega) (by unfold maxLen; have := HB.out; omega) (by have := HB.out; omega) (by simp; omega) _ rfl ?_
                   intro g cap w4 hown4 hgr4 hat4 hlt4
                   have HX := Lib.hid (And.intro hown4 hgr4)
                   clear hown4 hgr4 hat4 hlt4)
      have e : marksI i f (j + 1) = marksI i f j ++ [markI i (q : Int)] := by rw [marksI_snoc, ← hq.out]
      refine ⟨⟨j + 1, q + 1, by omega, Lib.hid (by have := hq.out; omega), by go_num, (HR.out.1.alloc hsz _).grown HX.out.2 (by simp; omega) (fun b hb => (HR.out.2.lt b hb).1), ?_⟩, by have := hq.out; simp [intOf]; omega⟩
      rw [e]
      simpa [vals] using HX.out.1
    · obtain rfl : j = n := by omega
      have HR := Lib.hid (And.intro hb ho)
      have hk : ¬ (q : Int) < (f : Int) + (j : Int) := by have := hq.out; omega
      have hq0 : (q : Int) ≤ 2199023255552 := by have := hq.out; omega
      clear hb ho hlt hj
      go_wp2
      go_ret
      exact ⟨_, rfl, HR.out.1, HR.out.2⟩
end Go.Proofs.Ytgmjphekfhiapaa.Bk
