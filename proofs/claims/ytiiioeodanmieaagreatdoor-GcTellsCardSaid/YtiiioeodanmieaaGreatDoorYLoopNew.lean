import Derived.Test.YtiiioeodanmieaaGreatDoorYLoopA
set_option linter.unusedVariables false
set_option linter.unusedSimpArgs false
namespace Go.Proofs.YtiiioeodanmieaaGreatDoor
open Go.RowKit Sec
section
variable {B : Nat} {G G' : Nat → Prop} {w w' : World} {q p : Nat} {D D' : Dsk} {fr n hd nx ep : Int}
def logOk (len fr n hd nx ep : Int) : Bool := decide (1 ≤ n ∧ 0 ≤ fr ∧ fr ≤ len - n ∧ 0 ≤ hd ∧ hd ≤ nx ∧ nx - hd ≤ n ∧ 0 ≤ ep ∧ nx < 1000000000 ∧ ep < 1000000000)
theorem logOk_of {len fr n hd nx ep : Int} (h : logOk len fr n hd nx ep = true) : 1 ≤ n ∧ 0 ≤ fr ∧ fr ≤ len - n ∧ 0 ≤ hd ∧ hd ≤ nx ∧ nx - hd ≤ n ∧ 0 ≤ ep ∧ nx < 1000000000 ∧ ep < 1000000000 := of_decide_eq_true h
theorem LoopC.made (w : World) (p : Nat) (fr n hd nx ep : Int) (t : TypeId) : LoopC (w.alloc (.cells #[.pointer (some ⟨p, 0, none⟩), .int .i64 fr, .int .i64 n, .int .i64 hd, .int .i64 nx, .int .i64 ep] t)) w.heap.size p fr n hd nx ep :=
  ⟨by simp, by simp, by simp, by simp, by simp, by simp, fun j => by simp only [World.frozen?]; rw [heap_alloc_last]; simp⟩
set_option maxRecDepth 100000 in
theorem lnew_yes (h : AtK B G w p D) (fr n hd nx ep : Int) (hok : logOk D.lasts.length fr n hd nx ep = true) :
    Calls Tryz.prog 195 #[.pointer (some ⟨p, 0, none⟩), .int .i64 fr, .int .i64 n, .int .i64 hd, .int .i64 nx, .int .i64 ep] w fun e w' => ∃ q, e = .returned (.pointer (some ⟨q, 0, none⟩)) ∧ LogAt B G w' q p D fr n hd nx ep ∧ Below w.heap.size w w' := by
  obtain ⟨k1, k2, k3, k4, k5, k6, k7, k8, k9⟩ := logOk_of hok
  have hl := h.shape.2.1
  have hli : (D.lasts.length : Int) ≤ 3000 := by omega
  have H := Lib.hid h
  have HD : Hid (∀ u, u = w → Calls Tryz.prog 150 #[.pointer (some ⟨p, 0, none⟩)] u fun e w' => e = .returned (.int .i64 (D.lasts.length : Int)) ∧ w' = u) := Lib.hid (fun u hu => by subst hu; exact Len_k h)
  have hnn : (0 : Int) ≤ (D.lasts.length : Int) := by omega
  clear h hok hl
  generalize (D.lasts.length : Int) = m at *
  go_enter Tryz.func195, Tryz.ntmps195
  go_wp2_with (go_at_call 150; refine (HD.out _ rfl).mono ?_; rintro e w' ⟨rfl, rfl⟩)
  go_ret
  exact ⟨_, rfl, ⟨((H.out.more ((Below.refl _ _).alloc (Nat.le_refl _) _)).mono (fun b r => by rcases r with r | r; exact .inl r; exact .inr (by subst r; simp))), LoopC.made _ _ _ _ _ _ _ _, H.out.le, fun g => by have := H.out.lt _ g; omega⟩, (Below.refl _ _).alloc (Nat.le_refl _) _⟩
end
end Go.Proofs.YtiiioeodanmieaaGreatDoor
