/- The book: a list that is lent, with a mark behind it; is it as it was? -/
import Derived.Test.YtgmjphekfhiapaaBookApart
namespace Go.Proofs.Ytgmjphekfhiapaa.Bk
open Go.RowKit

set_option maxRecDepth 100000 in
set_option maxHeartbeats 1000000 in
theorem lentInts_is (a : Option Addr) (l : List Int) (c : Nat) (w : World) (h : LiesAt w a (vals l)) (hl : l.length ≤ 1000) :
    Calls Try.prog 6 #[.slice a l.length c] w fun e w' => ∃ g cap, e = .returned (.slice (some ⟨g, 0, none⟩) l.length cap) ∧ Below w.heap.size w w' ∧ w'.ownsRow w.heap.size 3 1 (.slice (some ⟨g, 0, none⟩) (l.length + 1) cap) (l.length + 1) (vals l ++ [.int .i64 (-77)]) := by
  obtain ⟨i0, hi, hz0, hz1, hz2⟩ := info_parts intInfo
  have HI := Lib.hid (And.intro hi (And.intro hz0 (And.intro hz1 hz2)))
  clear hi hz0 hz1 hz2
  have H := Lib.hid h
  clear h
  go_enter Try.func6, Try.ntmps6
  go_wp2_with (first
    | (go_at_call 19
       refine (copyInts_is a l c _ H.out (by omega)).mono ?_
       rintro e w1 ⟨v, rfl, b1, o1⟩
       have H1 := Lib.hid (And.intro b1 o1)
       clear b1 o1)
    | (refine wpList_append_lies _ rfl (.tmp 4) (.tmp 5) 22 rfl w.heap.size 3 i0 _ 1 8 Try.underlying22 HI.out.1 HI.out.2.1 HI.out.2.2.1 HI.out.2.2.2 rfl (by omega) v l.length (vals l) rfl (H1.out.2.alloc _) _ 1 1 [.int .i64 (-77)] rfl rfl (by exact World.news_of_block (heap_alloc_last _ _)) (by intro u hu; simp at hu; rw [hu]; rfl) (by omega) (by unfold maxLen; omega) (by omega) (by have := H1.out.1.size; simp; omega) _ rfl ?_
       intro g cap w4 hown4 hgr4 hat4 hlt4
       have hcap := owns_cap hown4
       have HX := Lib.hid (And.intro hown4 (And.intro hgr4 hlt4))
       clear hown4 hgr4 hat4 hlt4
       have hci : (l.length : Int) ≤ (cap : Int) := by omega
       have hc0 : ¬ cap = 0 := by omega))
  all_goals
    go_ret
    exact ⟨g, cap, rfl, (H1.out.1.alloc (H1.out.1.size) _).grown HX.out.2.1 (by have := H1.out.1.size; simp; omega) (fun b hb => (H1.out.2.lt b hb).1), HX.out.1⟩

set_option maxRecDepth 100000 in
set_option maxHeartbeats 1000000 in
theorem staysInts_is (g cap base : Nat) (a2 : Option Addr) (l : List Int) (c2 : Nat) (w : World) (h : w.ownsRow base 3 1 (.slice (some ⟨g, 0, none⟩) (l.length + 1) cap) (l.length + 1) (vals l ++ [.int .i64 (-77)])) (h2 : LiesAt w a2 (vals l)) (hl : l.length ≤ 1000) :
    Calls Try.prog 11 #[.slice (some ⟨g, 0, none⟩) l.length cap, .slice a2 l.length c2] w fun e w' => e = .returned (.bool true) ∧ ∃ m, w' = w.drewN m := by
  have hcap := owns_cap h
  have hci : (l.length : Int) + 1 ≤ (cap : Int) := by omega
  have hc0 : ¬ cap = 0 := by omega
  have e1 := (owns_cell h (k := l.length) (x := .int .i64 (-77)) (by rw [List.getElem?_append_right (by rw [vals_len]; exact Nat.le_refl _), vals_len, Nat.sub_self]; rfl)).1
  have hL1 : LiesAt w (some ⟨g, 0, none⟩) (vals l) := by
    obtain ⟨a', c', hv, hl, _⟩ := own_form h
    obtain ⟨rfl, _⟩ : some ⟨g, 0, none⟩ = a' ∧ cap = c' := by simpa using hv
    exact fun j u hu => hl j u (by rw [List.getElem?_append_left (List.getElem?_eq_some_iff.1 hu).1]; exact hu)
  have H := Lib.hid (And.intro hL1 h2)
  clear h h2 hL1
  go_enter Try.func11, Try.ntmps11
  go_wp2_with (go_at_call 17
               refine (SameInts_is l l _ a2 _ c2 _ H.out.1 H.out.2 (by unfold maxLen; omega) (by unfold maxLen; omega) true ⟨fun _ => rfl, fun _ => rfl⟩).mono ?_
               rintro e w1 ⟨rfl, m, rfl⟩)
  all_goals
    go_ret
    exact ⟨rfl, _, rfl⟩
end Go.Proofs.Ytgmjphekfhiapaa.Bk
