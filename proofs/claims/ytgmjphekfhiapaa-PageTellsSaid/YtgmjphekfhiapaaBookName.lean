/- The book: the texts that are marks. -/
import Derived.Test.YtgmjphekfhiapaaBookMark
import Derived.Laws.BytesArg
namespace Go.Proofs.Ytgmjphekfhiapaa.Bk
open Go.RowKit

theorem conv_cells (w : World) (t : TypeId) (cs : Array Value) (xs : List Int) (n c : Nat) (hn : xs.length = n) (hx : ∀ i, i < n → cs[i]? = some (.int .u8 (xs.getD i 0))) :
    (convert 40 9 (.slice (some ⟨w.heap.size, 0, none⟩) n c)).run Try.prog (w.alloc (.cells cs t)) = .ok (.string (strOfNums xs)) (w.alloc (.cells cs t)) := by
  refine run_convert_bytes_arg _ 40 5 (by kernel_rfl) (by kernel_rfl) w.heap.size 0 n c xs hn (fun i hi => ?_) 9 (by kernel_rfl)
  rw [Nat.zero_add, World.cell?_alloc_new]
  exact hx i hi
def nameB (i k : Nat) : ByteArray := strOfNums [109, 65 + (i : Int) % 26, 65 + (i : Int) / 26 % 26, 48 + (k : Int) % 10, 48 + (k : Int) / 10 % 10, 48 + (k : Int) / 100 % 10]
set_option maxRecDepth 100000 in
theorem name_is (i k : Nat) (w : World) (hi : (i : Int) ≤ 1000) (hk : (k : Int) ≤ 2199023255552) :
    Calls Try.prog 86 #[.int .i64 (i : Int), .int .i64 (k : Int)] w fun e w' => e = .returned (.string (nameB i k)) ∧ Below w.heap.size w w' := by
  have hcv := conv_cells w 5 #[.int .u8 109, .int .u8 (65 + (i : Int) % 26), .int .u8 (65 + (i : Int) / 26 % 26), .int .u8 (48 + (k : Int) % 10), .int .u8 (48 + (k : Int) / 10 % 10), .int .u8 (48 + (k : Int) / 100 % 10)]
    [109, 65 + (i : Int) % 26, 65 + (i : Int) / 26 % 26, 48 + (k : Int) % 10, 48 + (k : Int) / 10 % 10, 48 + (k : Int) / 100 % 10] 6 6 rfl (by intro j hj; rcases j with _ | _ | _ | _ | _ | _ | _ <;> first | rfl | omega)
  go_enter Try.func86, Try.ntmps86
  go_wp2
  go_ret
  exact ⟨rfl, (Below.refl _ _).alloc (Nat.le_refl _) _⟩

def marksT (i f n : Nat) : List ByteArray := (List.range n).map fun k => nameB i (f + k)
theorem marksT_len (i f n : Nat) : (marksT i f n).length = n := by simp [marksT]
theorem marksT_snoc (i f n : Nat) : marksT i f (n + 1) = marksT i f n ++ [nameB i (f + n)] := by simp [marksT, List.range_succ]
theorem own_below {w w' : World} {base : Nat} {e : TypeId} {k : Nat} {v : Value} {n : Nat} {xs : List Value} (h : w.ownsRow base e k v n xs) (b : Below w.heap.size w w') : w'.ownsRow base e k v n xs :=
  h.kept (row := none) ⟨b.os, b.tape, b.output, b.size, fun k hk _ => b.block k hk⟩ (by cases hv : v.ownBlock <;> simp)

set_option maxRecDepth 100000 in
set_option maxHeartbeats 1000000 in
theorem markTexts_is (i f n : Nat) (w : World) (hi1 : (i : Int) ≤ 1000) (hf : f < 2 ^ 40) (hn : n < 2 ^ 40) :
    Calls Try.prog 75 #[.int .i64 (i : Int), .int .i64 (f : Int), .int .i64 (n : Int)] w fun e w' => ∃ v, e = .returned v ∧ Below w.heap.size w w' ∧ w'.ownsRow w.heap.size 9 1 v n (txts (marksT i f n)) := by
  obtain ⟨i0, hi, hz0, hz1, hz2⟩ := info_parts strInfo
  have HI := Lib.hid (And.intro hi (And.intro hz0 (And.intro hz1 hz2)))
  clear hi hz0 hz1 hz2
  have HB := Lib.hid (And.intro hf hn)
  have hf0 : (f : Int) ≤ 1099511627776 := by omega
  have hn0 : (n : Int) ≤ 1099511627776 := by omega
  clear hf hn
  go_enter Try.func75, Try.ntmps75
  go_wp2
  go_loopw [7, 8] (fun v k wr => ∃ j q : Nat, j ≤ n ∧ Hid (q = f + j) ∧ k = .int .i64 (q : Int) ∧ Below w.heap.size w wr ∧ wr.ownsRow w.heap.size 9 1 v j (txts (marksT i f j))) (fun _ k _ => f + n - (intOf k).toNat)
  case atStart => exact ⟨0, f, Nat.zero_le _, Lib.hid rfl, rfl, Below.refl _ _, World.ownsRow_nil _ _ _ _⟩
  case round =>
    obtain ⟨j, q, hj, hq, rfl, hb, ho⟩ := hrel
    by_cases hlt : j < n
    · have HR := Lib.hid (And.intro hb ho)
      have hk : (q : Int) < (f : Int) + (n : Int) := by have := hq.out; omega
      have hq0 : (q : Int) ≤ 2199023255552 := by omega
      have hsz := hb.size
      clear hb ho
      go_wp2_with (first
        | (go_at_call 86; refine (name_is i q _ hi1 hq0).mono ?_; rintro e w2 ⟨rfl, b2⟩; have HB2 := Lib.hid b2; clear b2)
        | (refine wpList_append_lies _ rfl (.tmp 17) (.tmp 21) 34 rfl w.heap.size 9 i0 _ 1 16 Try.underlying34 HI.out.1 HI.out.2.1 HI.out.2.2.1 HI.out.2.2.2 rfl (by omega) u7 j (txts (marksT i f j)) rfl ((own_below HR.out.2 HB2.out).alloc _) _ 1 1 [.string (nameB i q)] rfl rfl (by exact World.news_of_block (heap_alloc_last _ _)) (by intro u hu; simp at hu; rw [hu]; rfl) (by omega) (by unfold maxLen; have := HB.out; omega) (by have := HB.out; omega) (by have := HB2.out.size; simp; omega) _ rfl ?_
           intro g cap w4 hown4 hgr4 hat4 hlt4
           have HX := Lib.hid (And.intro hown4 hgr4)
           clear hown4 hgr4 hat4 hlt4))
      have e : marksT i f (j + 1) = marksT i f j ++ [nameB i q] := by rw [marksT_snoc, ← hq.out]
      refine ⟨⟨j + 1, q + 1, by omega, Lib.hid (by have := hq.out; omega), by go_num, ((HR.out.1.trans (HB2.out.mono hsz)).alloc (by have := HB2.out.size; omega) _).grown HX.out.2 (by have := HB2.out.size; simp; omega) (fun b hb => (HR.out.2.lt b hb).1), ?_⟩, by have := hq.out; simp [intOf]; omega⟩
      rw [e]
      simpa [txts] using HX.out.1
    · obtain rfl : j = n := by omega
      have HR := Lib.hid (And.intro hb ho)
      have hk : ¬ (q : Int) < (f : Int) + (j : Int) := by have := hq.out; omega
      have hq0 : (q : Int) ≤ 2199023255552 := by have := hq.out; omega
      clear hb ho hlt hj
      go_wp2
      go_ret
      exact ⟨_, rfl, HR.out.1, HR.out.2⟩
end Go.Proofs.Ytgmjphekfhiapaa.Bk
