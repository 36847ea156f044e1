import Derived.Test.YtbghglkplbnnkaaGreatDoorYHeapD
set_option linter.unusedVariables false
set_option linter.unusedSimpArgs false
namespace Go.Proofs.YtbghglkplbnnkaaGreatDoor
open Go.RowKit Sec
open Go.Proofs.YtbghglkplbnnkaaGreatDoor.Bk

def regsGo (h l : Int) (W : List Int) (rs : List Int) : Nat → Int × List Int × List Int
  | 0 => (0, [], W)
  | i + 1 => if (regsGo h l W rs i).1 = 0 then
      (folE h l (regsGo h l W rs i).2.2 (rs.getD i 0), (regsGo h l W rs i).2.1 ++ [folV h l (regsGo h l W rs i).2.2 (rs.getD i 0)], folW h l (regsGo h l W rs i).2.2 (rs.getD i 0))
    else regsGo h l W rs i
theorem regsGo_err {h l : Int} {W rs : List Int} {i : Nat} (e : (regsGo h l W rs i).1 ≠ 0) : ∀ j, i ≤ j → regsGo h l W rs j = regsGo h l W rs i
  | 0, hj => by
    obtain rfl : i = 0 := by omega
    rfl
  | j + 1, hj => by
    by_cases q : i = j + 1
    · rw [q]
    · have := regsGo_err e j (by omega)
      rw [regsGo, if_neg (by rw [this]; exact e), this]
theorem regsGo_len {h l : Int} {W rs : List Int} : ∀ i, (regsGo h l W rs i).1 = 0 → (regsGo h l W rs i).2.1.length = i
  | 0, _ => rfl
  | i + 1, e => by
    by_cases q : (regsGo h l W rs i).1 = 0
    · rw [regsGo, if_pos q, List.length_append, regsGo_len i q, List.length_singleton]
    · rw [regsGo, if_neg q] at e
      exact absurd e q
def turned (h : Int) (W : List Int) : List Int := (((W.set 0 (1 - hSp W)).set 1 (16 + (1 - hSp W) * h)).set 2 1).set 3 (16 + (1 - hSp W) * h)
theorem turned_keeps {h l : Int} {W : List Int} (hWl : (W.length : Int) = 16 + 2 * h) (hk : hOk h l W = true) (hn : NumC W) : Keeps h l (turned h W) (turned h W) ∧ (turned h W).length = W.length := by
  obtain ⟨f1, f2, f3, f4, f5⟩ := fine_yes hk
  have hq := geOk_yes f1
  have hl : 3 < W.length := by omega
  have hb : 0 ≤ (1 - hSp W) * h ∧ (1 - hSp W) * h ≤ h := by rcases f2 with e | e <;> rw [e] <;> omega
  have e0 : hSp (turned h W) = 1 - hSp W := by
    rw [hSp, turned, getD_set_ne (by decide), getD_set_ne (by decide), getD_set_ne (by decide), getD_set_eq (by omega)]
  have e1 : hFr (turned h W) = 16 + (1 - hSp W) * h := by
    rw [hFr, turned, getD_set_ne (by decide), getD_set_ne (by decide), getD_set_eq (by rw [List.length_set]; omega)]
  have e2 : hGc (turned h W) = 1 := by
    rw [hGc, turned, getD_set_ne (by decide), getD_set_eq (by rw [List.length_set, List.length_set]; omega)]
  have e3 : hSc (turned h W) = 16 + (1 - hSp W) * h := by
    rw [hSc, turned, getD_set_eq (by rw [List.length_set, List.length_set, List.length_set]; omega)]
  have hlen : (turned h W).length = W.length := by rw [turned, List.length_set, List.length_set, List.length_set, List.length_set]
  refine ⟨⟨rfl, ?_, ?_, rfl, rfl, Int.le_refl _⟩, hlen⟩
  · rw [hOk, e0, e1, e2, e3, fineB, f1, Bool.true_and, decide_eq_true (show 0 ≤ 1 - hSp W ∧ 1 - hSp W ≤ 1 ∧ (0 : Int) ≤ 1 ∧ (1 : Int) ≤ 1 by omega), Bool.true_and,
      decide_eq_true (show 16 + (1 - hSp W) * h ≤ 16 + (1 - hSp W) * h ∧ 16 + (1 - hSp W) * h ≤ 16 + (1 - hSp W) * h + h by omega), Bool.true_and,
      decide_eq_true (show (1 : Int) = 1 ∧ 16 + (1 - hSp W) * h ≤ 16 + (1 - hSp W) * h ∧ 16 + (1 - hSp W) * h ≤ 16 + (1 - hSp W) * h by omega), Bool.or_true]
  · exact (((hn.set 0 (by omega) (by omega)).set 1 (by omega) (by omega)).set 2 (by decide) (by decide)).set 3 (by omega) (by omega)
def str (h l : Int) (W rs : List Int) : Int × List Int × List Int :=
  if hOk h l W = false then (1, [], W) else if hGc W = 1 then (9, [], W)
  else if (slotsGo h l (turned h W) 7 8).1 = 0 then
    (if (regsGo h l (slotsGo h l (turned h W) 7 8).2 rs rs.length).1 = 0 then regsGo h l (slotsGo h l (turned h W) 7 8).2 rs rs.length
     else ((regsGo h l (slotsGo h l (turned h W) 7 8).2 rs rs.length).1, [], (regsGo h l (slotsGo h l (turned h W) 7 8).2 rs rs.length).2.2))
  else ((slotsGo h l (turned h W) 7 8).1, [], (slotsGo h l (turned h W) 7 8).2)
section
variable {B : Nat} {w w' : World} {b g c : Nat} {h l : Int} {W : List Int}
end
end Go.Proofs.YtbghglkplbnnkaaGreatDoor
