import Derived.Test.YtbghglkplbnnkaaGreatDoorYGcC
set_option linter.unusedVariables false
set_option linter.unusedSimpArgs false
-- GcAll
namespace Go.Proofs.YtbghglkplbnnkaaGreatDoor
open Go.RowKit

theorem newE_three (h l : Int) (W : List Int) (s x : Int) : (newE h l W s x = 1 ∧ (hOk h l W && shOk s x) = false) ∨ (newE h l W s x = 6 ∧ hOk h l W = true ∧ shOk s x = true ∧ 16 + hSp W * h + h - hFr W < 1 + s + x) ∨ (newE h l W s x = 0 ∧ hOk h l W = true ∧ shOk s x = true ∧ ¬ (16 + hSp W * h + h - hFr W < 1 + s + x)) := by
  unfold newE
  by_cases ok : (hOk h l W && shOk s x) = true
  · obtain ⟨q1, q2⟩ := (Bool.and_eq_true _ _).mp ok |> fun p => p
    rw [if_pos ok]
    by_cases room : 16 + hSp W * h + h - hFr W < 1 + s + x
    · rw [if_pos room]
      exact .inr (.inl ⟨rfl, q1, q2, room⟩)
    · rw [if_neg room]
      exact .inr (.inr ⟨rfl, q1, q2, room⟩)
  · rw [if_neg ok]
    exact .inl ⟨rfl, by simpa using ok⟩
def alg (h l : Int) (W rs : List Int) : Int × List Int × List Int :=
  if hGc W = 1 then (if (stp h l W 10000).2.1 = 0 then (0, rs, (stp h l W 10000).2.2) else ((stp h l W 10000).2.1, [], (stp h l W 10000).2.2))
  else if (str h l W rs).1 = 0 then
    (if (stp h l (str h l W rs).2.2 10000).2.1 = 0 then (0, (str h l W rs).2.1, (stp h l (str h l W rs).2.2 10000).2.2)
     else ((stp h l (str h l W rs).2.2 10000).2.1, [], (stp h l (str h l W rs).2.2 10000).2.2))
  else ((str h l W rs).1, [], (str h l W rs).2.2)
theorem alg_yes {h l : Int} {W rs out V1 V2 : List Int} (g : hGc W = 0) (e1 : str h l W rs = (0, out, V1)) (e2 : stp h l V1 10000 = (true, 0, V2)) : alg h l W rs = (0, out, V2) := by
  rw [alg, if_neg (by rw [g]; decide), e1]
  show (if (0 : Int) = 0 then (if (stp h l V1 10000).2.1 = 0 then (0, out, (stp h l V1 10000).2.2) else ((stp h l V1 10000).2.1, [], (stp h l V1 10000).2.2)) else (0, [], V1)) = (0, out, V2)
  rw [if_pos rfl, e2]
  exact if_pos rfl
section
variable {H L : Nat} {V T O : List Int} {Z : Int → Int} {R : List Int}
variable {z k : Nat} {wo : Int}
end
end Go.Proofs.YtbghglkplbnnkaaGreatDoor
-- GcReg
namespace Go.Proofs.YtbghglkplbnnkaaGreatDoor
open Go.RowKit

section
variable {H L : Nat} {V T O : List Int} {Z : Int → Int} {z k n : Nat} {wo : Int}
end
end Go.Proofs.YtbghglkplbnnkaaGreatDoor
