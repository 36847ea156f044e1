/- The book: lists of structs that are lent. -/
import Derived.Test.YtebeegfgghbdlaaBookWMark
namespace Go.Proofs.Ytebeegfgghbdlaa.Bk
open Go.RowKit

set_option maxRecDepth 100000 in
set_option maxHeartbeats 1000000 in
theorem lentChanges_is (a : Option Addr) (l : List Chg) (c : Nat) (w : World) (h : LiesAt w a (flat Chg.cells l)) (hl : l.length ≤ 1000) :
    Calls Try.prog 11 #[.slice a l.length c] w fun e w' => ∃ g cap, e = .returned (.slice (some ⟨g, 0, none⟩) l.length cap) ∧ Below w.heap.size w w' ∧ w'.ownsRow w.heap.size 56 2 (.slice (some ⟨g, 0, none⟩) (l.length + 1) cap) (l.length + 1) (flat Chg.cells (l ++ [Chg.mark (-77)])) := by
  obtain ⟨i0, hi, hz0, hz1, hz2⟩ := info_parts chgInfo
  have HI := Lib.hid (And.intro hi (And.intro hz0 (And.intro hz1 hz2)))
  clear hi hz0 hz1 hz2
  have H := Lib.hid h
  clear h
  go_enter Try.func11, Try.ntmps11
  go_wp2_with (first
    | (go_at_call 33
       refine (copyChanges_is a l c _ H.out (by omega)).mono ?_
       rintro e w1 ⟨v, rfl, b1, o1⟩
       have H1 := Lib.hid (And.intro b1 o1)
       clear b1 o1)
    | (at_builtin
       go_loud (refine wpList_append_lies _ rfl (.tmp 4) (.tmp 6) 24 rfl w.heap.size 56 i0 _ 2 16 Try.underlying24 HI.out.1 HI.out.2.1 HI.out.2.2.1 HI.out.2.2.2 rfl (by omega) v l.length (flat Chg.cells l) rfl (H1.out.2.alloc _) _ 1 1 [.int .i64 (-77), .int .i64 0] rfl rfl ?ba7 ?ba8 ?ba9 ?bb1 ?bb2 ?bb3 _ rfl ?bb5)
       case ba7 => exact World.news_of_block (heap_alloc_last _ _)
       case ba8 => exact Chg.one (Chg.mark (-77))
       case ba9 => omega
       case bb1 => unfold maxLen; omega
       case bb2 => omega
       case bb3 => have := H1.out.1.size; simp; omega
       intro g cap w4 hown4 hgr4 hat4 hlt4
       have hcap := owns_cap hown4
       have HX := Lib.hid (And.intro hown4 (And.intro hgr4 hlt4))
       clear hown4 hgr4 hat4 hlt4
       have hci : (l.length : Int) ≤ (cap : Int) := by omega
       have hc0 : ¬ cap = 0 := by omega))
  all_goals
    go_ret
    exact ⟨g, cap, rfl, (H1.out.1.alloc (H1.out.1.size) _).grown HX.out.2.1 (by have := H1.out.1.size; simp; omega) (fun b hb => (H1.out.2.lt b hb).1), by rw [flat_app, flat_one]; exact HX.out.1⟩

set_option maxRecDepth 100000 in
set_option maxHeartbeats 1000000 in
theorem staysChanges_is (g cap base : Nat) (a2 : Option Addr) (l : List Chg) (c2 : Nat) (w : World) (h : w.ownsRow base 56 2 (.slice (some ⟨g, 0, none⟩) (l.length + 1) cap) (l.length + 1) (flat Chg.cells (l ++ [Chg.mark (-77)]))) (h2 : LiesAt w a2 (flat Chg.cells l)) (hl : l.length ≤ 1000) :
    Calls Try.prog 21 #[.slice (some ⟨g, 0, none⟩) l.length cap, .slice a2 l.length c2] w fun e w' => e = .returned (.bool true) ∧ ∃ m, w' = w.drewN m := by
  have hcap := owns_cap h
  have hci : (l.length : Int) + 1 ≤ (cap : Int) := by omega
  have hc0 : ¬ cap = 0 := by omega
  obtain ⟨a', c', hv, hla, _⟩ := own_formK h
  obtain ⟨rfl, rfl⟩ : some ⟨g, 0, none⟩ = a' ∧ cap = c' := by simpa using hv
  obtain ⟨gm, om, hbm, _, hm1⟩ := hla.elem Chg.len (by omega) (show (l ++ [Chg.mark (-77)])[l.length]? = some (Chg.mark (-77)) by simp)
  obtain ⟨rfl, rfl⟩ : g = gm ∧ 0 = om := by simpa using hbm
  have e1 := hm1 0 _ rfl
  rw [Nat.zero_add, Nat.add_zero] at e1
  have hL1 : LiesAt w (some ⟨g, 0, none⟩) (flat Chg.cells l) := fun j u hu => hla j u (by rw [flat_app, List.getElem?_append_left (List.getElem?_eq_some_iff.1 hu).1]; exact hu)
  have H := Lib.hid (And.intro hL1 h2)
  clear h h2 hL1 hla hm1 hbm hv
  go_enter Try.func21, Try.ntmps21
  go_wp2_with (go_at_call 20
               refine (SameChanges_is l l _ a2 _ c2 _ H.out.1 H.out.2 (by unfold maxLen; omega) (by unfold maxLen; omega) true ⟨fun _ => rfl, fun _ => rfl⟩).mono ?_
               rintro e w1 ⟨rfl, m, rfl⟩)
  all_goals
    go_ret
    exact ⟨rfl, _, rfl⟩
set_option maxRecDepth 100000 in
set_option maxHeartbeats 1000000 in
theorem lentEntries_is (a : Option Addr) (l : List Ent) (c : Nat) (w : World) (h : LiesAt w a (flat Ent.cells l)) (hl : l.length ≤ 1000) :
    Calls Try.prog 12 #[.slice a l.length c] w fun e w' => ∃ g cap, e = .returned (.slice (some ⟨g, 0, none⟩) l.length cap) ∧ Below w.heap.size w w' ∧ w'.ownsRow w.heap.size 23 5 (.slice (some ⟨g, 0, none⟩) (l.length + 1) cap) (l.length + 1) (flat Ent.cells (l ++ [Ent.mark (-77)])) := by
  obtain ⟨i0, hi, hz0, hz1, hz2⟩ := info_parts entInfo
  have HI := Lib.hid (And.intro hi (And.intro hz0 (And.intro hz1 hz2)))
  clear hi hz0 hz1 hz2
  have H := Lib.hid h
  clear h
  go_enter Try.func12, Try.ntmps12
  go_wp2_with (first
    | (go_at_call 34
       refine (copyEntries_is a l c _ H.out (by omega)).mono ?_
       rintro e w1 ⟨v, rfl, b1, o1⟩
       have H1 := Lib.hid (And.intro b1 o1)
       clear b1 o1)
    | (at_builtin
       go_loud (refine wpList_append_lies _ rfl (.tmp 4) (.tmp 6) 25 rfl w.heap.size 23 i0 _ 5 40 Try.underlying25 HI.out.1 HI.out.2.1 HI.out.2.2.1 HI.out.2.2.2 rfl (by omega) v l.length (flat Ent.cells l) rfl (H1.out.2.alloc _) _ 1 1 [.int .i64 (-77), .int .i64 0, .int .i64 0, .int .i64 0, .int .i64 0] rfl rfl ?ba7 ?ba8 ?ba9 ?bb1 ?bb2 ?bb3 _ rfl ?bb5)
       case ba7 => exact World.news_of_block (heap_alloc_last _ _)
       case ba8 => exact Ent.one (Ent.mark (-77))
       case ba9 => omega
       case bb1 => unfold maxLen; omega
       case bb2 => omega
       case bb3 => have := H1.out.1.size; simp; omega
       intro g cap w4 hown4 hgr4 hat4 hlt4
       have hcap := owns_cap hown4
       have HX := Lib.hid (And.intro hown4 (And.intro hgr4 hlt4))
       clear hown4 hgr4 hat4 hlt4
       have hci : (l.length : Int) ≤ (cap : Int) := by omega
       have hc0 : ¬ cap = 0 := by omega))
  all_goals
    go_ret
    exact ⟨g, cap, rfl, (H1.out.1.alloc (H1.out.1.size) _).grown HX.out.2.1 (by have := H1.out.1.size; simp; omega) (fun b hb => (H1.out.2.lt b hb).1), by rw [flat_app, flat_one]; exact HX.out.1⟩

set_option maxRecDepth 100000 in
set_option maxHeartbeats 1000000 in
theorem staysEntries_is (g cap base : Nat) (a2 : Option Addr) (l : List Ent) (c2 : Nat) (w : World) (h : w.ownsRow base 23 5 (.slice (some ⟨g, 0, none⟩) (l.length + 1) cap) (l.length + 1) (flat Ent.cells (l ++ [Ent.mark (-77)]))) (h2 : LiesAt w a2 (flat Ent.cells l)) (hl : l.length ≤ 1000) :
    Calls Try.prog 22 #[.slice (some ⟨g, 0, none⟩) l.length cap, .slice a2 l.length c2] w fun e w' => e = .returned (.bool true) ∧ ∃ m, w' = w.drewN m := by
  have hcap := owns_cap h
  have hci : (l.length : Int) + 1 ≤ (cap : Int) := by omega
  have hc0 : ¬ cap = 0 := by omega
  obtain ⟨a', c', hv, hla, _⟩ := own_formK h
  obtain ⟨rfl, rfl⟩ : some ⟨g, 0, none⟩ = a' ∧ cap = c' := by simpa using hv
  obtain ⟨gm, om, hbm, _, hm1⟩ := hla.elem Ent.len (by omega) (show (l ++ [Ent.mark (-77)])[l.length]? = some (Ent.mark (-77)) by simp)
  obtain ⟨rfl, rfl⟩ : g = gm ∧ 0 = om := by simpa using hbm
  have e1 := hm1 0 _ rfl
  rw [Nat.zero_add, Nat.add_zero] at e1
  have hL1 : LiesAt w (some ⟨g, 0, none⟩) (flat Ent.cells l) := fun j u hu => hla j u (by rw [flat_app, List.getElem?_append_left (List.getElem?_eq_some_iff.1 hu).1]; exact hu)
  have H := Lib.hid (And.intro hL1 h2)
  clear h h2 hL1 hla hm1 hbm hv
  go_enter Try.func22, Try.ntmps22
  go_wp2_with (go_at_call 19
               refine (SameEntries_is l l _ a2 _ c2 _ H.out.1 H.out.2 (by unfold maxLen; omega) (by unfold maxLen; omega) true ⟨fun _ => rfl, fun _ => rfl⟩).mono ?_
               rintro e w1 ⟨rfl, m, rfl⟩)
  all_goals
    go_ret
    exact ⟨rfl, _, rfl⟩
end Go.Proofs.Ytebeegfgghbdlaa.Bk
