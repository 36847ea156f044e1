/- Entries: plain facts: changes of whole groups, told one by one; groups one behind the other, cut anywhere. -/
import Derived.Test.YtbcdmcafobjpcaaGreatDoorEntryChanges
namespace Go.Proofs.YtbcdmcafobjpcaaGreatDoor
open Go.RowKit
open Go.Proofs.YtbcdmcafobjpcaaGreatDoor.Bk

/-- The same as chGo, with the changes that are not yet committed at hand. -/
def chR : List Ent → Nat → Nat → List Chg → List Chg → List Chg × Nat
  | [], _, wh, _, told => (told, wh)
  | e :: r, i, wh, op, told =>
    if e.k = 2 ∧ e.c = (op.length : Int) then chR r (i + 1) (i + 1) [] (told ++ op)
    else if e.k = 1 then chR r (i + 1) wh (op ++ [toChg e]) told
    else (told, wh)
theorem chGo_R (L : List Ent) : ∀ (r : List Ent) (i wh : Nat) (op told : List Chg), L.drop i = r → wh ≤ i → i ≤ L.length → op = ((L.take i).drop wh).map toChg → chGo L r i wh told = chR r i wh op told
  | [], _, _, _, _, _, _, _, _ => rfl
  | e :: r, i, wh, op, told, hr, hw, hi, ho => by
    have hlt : i < L.length := by
      rcases Nat.lt_or_ge i L.length with q | q
      · exact q
      · rw [List.drop_eq_nil_of_le q] at hr; cases hr
    have hd := List.drop_eq_getElem_cons hlt
    rw [hr] at hd
    obtain ⟨rfl, hd2⟩ := List.cons.inj hd
    have hl : (op.length : Int) = (i : Int) - (wh : Int) := by rw [ho]; simp; omega
    rw [chGo, chR, hl]
    by_cases h1 : L[i].k = 2 ∧ L[i].c = (i : Int) - (wh : Int)
    · rw [if_pos h1, if_pos h1, chGo_R L r (i + 1) (i + 1) [] _ hd2.symm (Nat.le_refl _) hlt (by rw [List.drop_eq_nil_of_le (by simp; omega)]; rfl), ho]
    · rw [if_neg h1, if_neg h1]
      by_cases h2 : L[i].k = 1
      · rw [if_pos h2, if_pos h2]
        refine chGo_R L r (i + 1) wh _ told hd2.symm (by omega) hlt ?_
        rw [List.take_succ_eq_append_getElem hlt, List.drop_append_of_le_length (by simp; omega), List.map_append, ho]
        rfl
      · rw [if_neg h2, if_neg h2]
theorem changesL_R (L : List Ent) : changesL L = chR L 0 0 [] [] := chGo_R L L 0 0 [] [] rfl (Nat.le_refl _) (Nat.zero_le _) rfl
theorem chR_ones : ∀ (es rest : List Ent) (i wh : Nat) (op told : List Chg), (∀ e ∈ es, e.k = 1) → chR (es ++ rest) i wh op told = chR rest (i + es.length) wh (op ++ es.map toChg) told
  | [], rest, i, wh, op, told, _ => by simp
  | e :: r, rest, i, wh, op, told, h => by
    have h1 : e.k = 1 := h e (by simp)
    rw [List.cons_append, chR, if_neg (by rw [h1]; omega), if_pos h1, chR_ones r rest (i + 1) wh _ told (fun x hx => h x (by simp [hx]))]
    simp [Nat.add_assoc, Nat.add_comm 1]
theorem gHead_ones (n e : Int) (x : List Chg) : ∀ y ∈ gHead n e x, y.k = 1 := fun y hy => by
  obtain ⟨i, hi, rfl⟩ := List.getElem_of_mem hy
  simp [gHead, gEnt]
theorem gHead_back (n e : Int) (x : List Chg) : (gHead n e x).map toChg = x := by
  apply List.ext_getElem
  · simp [gHead]
  · intro i h1 h2
    simp [gHead, gEnt, toChg]
/-- A whole group, and what is behind it. -/
theorem chR_group (n e : Int) (x : List Chg) (rest : List Ent) (i : Nat) (told : List Chg) : chR (groupL n e x ++ rest) i i [] told = chR rest (i + (x.length + 1)) (i + (x.length + 1)) [] (told ++ x) := by
  rw [groupL, List.append_assoc, chR_ones _ _ _ _ _ _ (gHead_ones n e x), gHead_back, gHead_len, List.singleton_append, chR, if_pos ⟨rfl, by simp [gEnd]⟩]
  simp [Nat.add_assoc]
/-- The beginning of a group. -/
theorem chR_part (n e : Int) (x : List Chg) (m : Nat) (hm : m ≤ x.length) (i : Nat) (told : List Chg) : chR ((groupL n e x).take m) i i [] told = (told, i) := by
  rw [groupL, List.take_append_of_le_length (by rw [gHead_len]; exact hm)]
  have := chR_ones ((gHead n e x).take m) [] i i [] told (fun y hy => gHead_ones n e x y (List.mem_of_mem_take hy))
  rw [List.append_nil] at this
  rw [this]
  rfl

theorem snoc_ind {α : Type} {P : List α → Prop} (h0 : P []) (h1 : ∀ L x, P L → P (L ++ [x])) (L : List α) : P L := by
  have : ∀ r : List α, P r.reverse := fun r => by
    induction r with
    | nil => exact h0
    | cons x r ih => rw [List.reverse_cons]; exact h1 _ _ ih
  have h := this L.reverse
  rwa [List.reverse_reverse] at h
/-- Groups one behind the other. -/
def gAcc (L : List (List Chg)) : List Ent := L.foldl (fun acc x => acc ++ groupL (acc.length : Int) 1 x) []
theorem gAcc_next (L : List (List Chg)) (x : List Chg) : gAcc (L ++ [x]) = gAcc L ++ groupL ((gAcc L).length : Int) 1 x := by simp [gAcc]
theorem gAcc_len_next (L : List (List Chg)) (x : List Chg) : (gAcc (L ++ [x])).length = (gAcc L).length + (x.length + 1) := by rw [gAcc_next, List.length_append, groupL_len]
/-- What is to be told of those that are whole within the first k entries. -/
def wantP (k : Nat) (L : List (List Chg)) : Nat × List Chg × Nat := L.foldl (fun s x => if s.1 + (x.length + 1) ≤ k then (s.1 + (x.length + 1), s.2.1 ++ x, s.1 + (x.length + 1)) else (s.1 + (x.length + 1), s.2.1, s.2.2)) (0, [], 0)
theorem wantP_next (k : Nat) (L : List (List Chg)) (x : List Chg) : wantP k (L ++ [x]) = if (wantP k L).1 + (x.length + 1) ≤ k then ((wantP k L).1 + (x.length + 1), (wantP k L).2.1 ++ x, (wantP k L).1 + (x.length + 1)) else ((wantP k L).1 + (x.length + 1), (wantP k L).2.1, (wantP k L).2.2) := by
  rw [wantP, List.foldl_append]
  rfl
theorem wantP_pos (k : Nat) (L : List (List Chg)) : (wantP k L).1 = (gAcc L).length := by
  refine snoc_ind (P := fun L => (wantP k L).1 = (gAcc L).length) rfl (fun L x ih => ?_) L
  rw [gAcc_len_next, wantP_next]
  split <;> simp [ih]
theorem wantP_all (k : Nat) (L : List (List Chg)) : (gAcc L).length ≤ k → (wantP k L).2 = (L.flatten, (gAcc L).length) := by
  refine snoc_ind (P := fun L => (gAcc L).length ≤ k → (wantP k L).2 = (L.flatten, (gAcc L).length)) (fun _ => rfl) (fun L x ih h => ?_) L
  rw [gAcc_len_next] at h ⊢
  have := ih (by omega)
  rw [wantP_next, wantP_pos, if_pos h, this]
  simp
theorem chR_whole (L : List (List Chg)) : ∀ rest, chR (gAcc L ++ rest) 0 0 [] [] = chR rest (gAcc L).length (gAcc L).length [] L.flatten := by
  refine snoc_ind (P := fun L => ∀ rest, chR (gAcc L ++ rest) 0 0 [] [] = chR rest (gAcc L).length (gAcc L).length [] L.flatten) (fun rest => rfl) (fun L x ih rest => ?_) L
  rw [gAcc_len_next, gAcc_next, List.append_assoc, ih, chR_group]
  simp
/-- Cut anywhere. -/
theorem groups_cut (L : List (List Chg)) (k : Nat) : changesL ((gAcc L).take k) = (wantP k L).2 := by
  rw [changesL_R]
  refine snoc_ind (P := fun L => chR ((gAcc L).take k) 0 0 [] [] = (wantP k L).2) (by simp [gAcc, wantP, chR]) (fun L x ih => ?_) L
  rw [wantP_next, wantP_pos, gAcc_next]
  rcases Nat.lt_or_ge (gAcc L).length k with h1 | h1
  · have hw := wantP_all k L (by omega)
    rw [List.take_append, List.take_of_length_le (by omega), chR_whole]
    by_cases h2 : (gAcc L).length + (x.length + 1) ≤ k
    · rw [if_pos h2, List.take_of_length_le (by rw [groupL_len]; omega), hw]
      have := chR_group ((gAcc L).length : Int) 1 x [] (gAcc L).length L.flatten
      rw [List.append_nil] at this
      rw [this]
      rfl
    · rw [if_neg h2, chR_part _ _ _ _ (by omega), hw]
  · rw [if_neg (by omega), List.take_append_of_le_length h1, ih]
end Go.Proofs.YtbcdmcafobjpcaaGreatDoor
