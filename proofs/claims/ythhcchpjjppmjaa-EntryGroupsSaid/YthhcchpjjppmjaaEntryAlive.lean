/- The law's helper alive: it answers true. -/
import Derived.Test.YthhcchpjjppmjaaEntryChanges
import Derived.Test.YthhcchpjjppmjaaWideGrow
import Derived.OwnWalk
namespace Go.Proofs.Ythhcchpjjppmjaa
open Go.RowKit
open Go.Proofs.Ythhcchpjjppmjaa.Bk

def al2 : List Chg := [⟨1, 7⟩, ⟨2, 8⟩]
def al3 : List Ent := [⟨1, 5, 2, 1, 7⟩, ⟨1, 6, 2, 2, 8⟩, ⟨2, 7, 2, 2, 0⟩]
theorem al_g : groupL 5 2 al2 = al3 := by simp [groupL, gHead, gEnt, gEnd, al2, al3, wrap64]
theorem al_ok : grOk 5 2 al2 = true := by
  unfold grOk
  rw [al_g]
  decide
theorem al_is : grL 5 2 al2 = al3 := by
  unfold grL
  rw [if_pos al_ok, al_g]
theorem al_ch : changesL (al3 ++ [⟨1, 0, 0, 0, 0⟩]) = (al2, 3) := by decide

theorem al_app {w u w3 : World} {g1 c1 g cap : Nat} (B : Below w.heap.size w u) (o : u.ownsRow w.heap.size 23 5 (.slice (some ⟨g1, 0, none⟩) 3 c1) 3 (flat Ent.cells al3))
    (hown : w3.ownsRow w.heap.size 23 5 (.slice (some ⟨g, 0, none⟩) (3 + 1) cap) (3 + 1) (flat Ent.cells al3 ++ [.int .i64 1, .int .i64 0, .int .i64 0, .int .i64 0, .int .i64 0])) (hgr : GrewK u w3 (.slice (some ⟨g1, 0, none⟩) 3 c1) 3 g cap) :
    Below w.heap.size w w3 ∧ (∀ z, Below w3.heap.size w3 z → Calls Try.prog 9 #[.slice (some ⟨g, 0, none⟩) (3 + 1) cap] z fun e w' => ∃ v, e = .returned (.tuple #[v, .int .i64 3]) ∧ Below z.heap.size z w' ∧ w'.ownsRow z.heap.size 45 2 v 2 (flat Chg.cells al2)) ∧
    w3.cell? ⟨g1, 10, none⟩ = some (.int .i64 2) ∧ w3.cell? ⟨g1, 11, none⟩ = some (.int .i64 7) ∧ w3.cell? ⟨g1, 13, none⟩ = some (.int .i64 2) ∧ g1 < w3.heap.size := by
  have o3 := hgr.old o hown
  have hcap := owns_cap hown
  obtain ⟨a', c', hv3, l3, _⟩ := own_formK hown
  obtain ⟨rfl, rfl⟩ : some ⟨g, 0, none⟩ = a' ∧ cap = c' := by simpa using hv3
  have hq : ∀ z, Below w3.heap.size w3 z → Calls Try.prog 9 #[.slice (some ⟨g, 0, none⟩) (3 + 1) cap] z fun e w' => ∃ v, e = .returned (.tuple #[v, .int .i64 3]) ∧ Below z.heap.size z w' ∧ w'.ownsRow z.heap.size 45 2 v 2 (flat Chg.cells al2) := fun z q => by
    have h := changes_is (some ⟨g, 0, none⟩) (al3 ++ [(⟨1, 0, 0, 0, 0⟩ : Ent)]) cap z (by
      rw [flat_app, flat_one]
      exact l3.below q) (by decide) (show (al3 ++ [(⟨1, 0, 0, 0, 0⟩ : Ent)]).length ≤ cap from hcap) al2 3 al_ch
    rw [show al2.length = 2 from rfl, show (al3 ++ [(⟨1, 0, 0, 0, 0⟩ : Ent)]).length = 3 + 1 from rfl] at h
    exact h
  have x10 := o3.cellAt 10 (by decide)
  have x11 := o3.cellAt 11 (by decide)
  have x13 := o3.cellAt 13 (by decide)
  exact ⟨hgr.below o B B.size, hq, x10, x11, x13, (o3.lt g1 rfl).2⟩

set_option maxRecDepth 100000 in
set_option maxHeartbeats 1000000 in
theorem alive_is (w : World) : Calls Try.prog 6 #[] w fun e w' => e = .returned (.bool true) ∧ Below w.heap.size w w' := by
  obtain ⟨i0, hi, hz0, hz1, hz2⟩ := info_parts entInfo
  have HI := Lib.hid (And.intro hi (And.intro hz0 (And.intro hz1 hz2)))
  clear hi hz0 hz1 hz2
  have HG := Lib.hid (fun z (h : LiesAt z (some ⟨w.heap.size, 0, none⟩) (flat Chg.cells al2)) => group_is 5 2 (some ⟨w.heap.size, 0, none⟩) al2 2 z h (by decide))
  rw [al_ok, al_is, show al3.length = 3 from rfl] at HG
  have HL : Hid (LiesAt (w.alloc (.cells #[.int .i64 1, .int .i64 7, .int .i64 2, .int .i64 8] 45)) (some ⟨w.heap.size, 0, none⟩) (flat Chg.cells al2)) := Lib.hid (fun j u hu => ⟨_, rfl, by simp, World.news_of_block (heap_alloc_last _ _) j u hu⟩)
  have HB := Lib.hid ((Below.refl w.heap.size w).alloc (Nat.le_refl _) (.cells #[.int .i64 1, .int .i64 7, .int .i64 2, .int .i64 8] 45))
  go_enter Try.func6, Try.ntmps6
  go_wp2_with (first
    | (go_at_call 8
       refine (HG.out _ HL.out).mono ?_
       rintro e w1 ⟨v, rfl, b1, o1⟩
       obtain ⟨g1, c1, rfl, _, hlt1⟩ := o1.form (by decide)
       have B1 := Lib.hid (below_next HB.out b1)
       have H1 := Lib.hid o1
       clear b1 o1)
    | (at_builtin
       go_loud (refine wpList_append_twoK rfl (.tmp 20) (.tmp 22) 32 rfl w.heap.size 23 i0 _ 5 40 Try.underlying32 HI.out.1 HI.out.2.1 HI.out.2.2.1 HI.out.2.2.2 rfl (by omega) (.slice (some ⟨g1, 0, none⟩) 3 c1) 3 (flat Ent.cells al3) rfl ?ba4 _ 1 1 [.int .i64 1, .int .i64 0, .int .i64 0, .int .i64 0, .int .i64 0] rfl rfl ?ba7 ?ba8 ?ba9 ?bb1 ?bb2 ?bb3 ?bb5)
       case ba4 => exact (owns_base' (by have := HB.out.size; omega) H1.out).alloc _
       case ba7 => exact World.news_of_block (heap_alloc_last _ _)
       case ba8 => exact Ent.one ⟨1, 0, 0, 0, 0⟩
       case ba9 => omega
       case bb1 => unfold maxLen; omega
       case bb2 => omega
       case bb3 => have := B1.out.size; simp; omega
       intro g cap w3 hown3 hgr3 _ hlt3
       have HC := Lib.hid (al_app (B1.out.alloc B1.out.size _) ((owns_base' (by have := HB.out.size; omega) H1.out).alloc _) hown3 hgr3)
       clear hown3 hgr3 hlt3)
    | (go_at_call 9
       refine (HC.out.2.1 _ (Below.refl _ _)).mono ?_
       rintro e w5 ⟨v5, rfl, b5, o5⟩
       obtain ⟨a5, c5, rfl, _, _⟩ := own_formK o5
       have e10 : w5.cell? ⟨g1, 10, none⟩ = some (.int .i64 2) := (b5.cell (p := ⟨g1, 10, none⟩) HC.out.2.2.2.2.2).trans HC.out.2.2.1
       have e11 : w5.cell? ⟨g1, 11, none⟩ = some (.int .i64 7) := (b5.cell (p := ⟨g1, 11, none⟩) HC.out.2.2.2.2.2).trans HC.out.2.2.2.1
       have e13 : w5.cell? ⟨g1, 13, none⟩ = some (.int .i64 2) := (b5.cell (p := ⟨g1, 13, none⟩) HC.out.2.2.2.2.2).trans HC.out.2.2.2.2.1
       have HF := Lib.hid (below_next HC.out.1 b5)
       clear b5 o5))
  all_goals
    go_ret
    exact ⟨rfl, HF.out⟩
end Go.Proofs.Ythhcchpjjppmjaa
