import Derived.Test.YtbghglkplbnnkaaGreatDoorYLoopB
import Derived.Test.YtbghglkplbnnkaaGreatDoorYLoopA
import Derived.Test.YtbghglkplbnnkaaGreatDoorYSecB
set_option linter.unusedVariables false
set_option linter.unusedSimpArgs false
-- LoopFall
namespace Go.Proofs.YtbghglkplbnnkaaGreatDoor
open Go.RowKit Sec
open Go.Proofs.YtbghglkplbnnkaaGreatDoor.Bk

structure Still (D : Dsk) (K : Nat) : Prop where
  on : D.on = true
  waits : D.waits = []
  same : D.lasts = D.now
  deeds : D.deeds ≤ K
structure Fell (S : List ByteArray) (D' : Dsk) (ps : List (Nat × ByteArray)) (K : Nat) : Prop where
  off : D'.on = false
  waits : D'.waits = []
  same : D'.lasts = D'.now
  len : D'.now.length = S.length
  each : ∀ k, k < S.length → D'.now[k]? = S[k]? ∨ ∃ y ∈ ps, y.1 = k ∧ D'.now[k]? = some y.2
  deeds : D'.deeds ≤ K

theorem down_f (E : Dsk) : E.down.on = E.on ∧ E.down.now = E.now ∧ E.down.lasts = E.lasts ∧ E.down.waits = E.waits ∧ E.down.deeds = E.deeds := by
  unfold Dsk.down
  split <;> exact ⟨rfl, rfl, rfl, rfl, rfl⟩
theorem crashL_or (D : Dsk) (kl : List Int) : ∀ m k, k < D.lasts.length → (D.crashL kl m)[k]? = D.lasts[k]? ∨ ∃ y ∈ D.waits, y.1 = k ∧ (D.crashL kl m)[k]? = some y.2
  | 0, _, _ => .inl rfl
  | m + 1, k, hk => by
    have ih := crashL_or D kl m k hk
    cases hx : D.waits[m]? with
    | none =>
      have : D.crashL kl (m + 1) = D.crashL kl m := by rw [Dsk.crashL, hx]
      rw [this]; exact ih
    | some x =>
      cases ho : odd (kl.getD m 0)
      · rw [crashL_even hx ho]; exact ih
      · rw [crashL_odd hx ho]
        by_cases e : x.1 = k
        · refine .inr ⟨x, List.mem_of_getElem? hx, e, ?_⟩
          rw [← e, List.getElem?_set_self (by rw [crashL_len, e]; exact hk)]
        · rw [List.getElem?_set_ne e]; exact ih
theorem fell_crash (D : Dsk) (kl : List Int) (K : Nat) (hd : D.deeds ≤ K) : Fell D.lasts (D.crash kl) D.waits K :=
  ⟨rfl, rfl, rfl, crashL_len D kl _, fun k hk => crashL_or D kl _ k hk, hd⟩
theorem barL_all (D : Dsk) : D.barL D.waits.length = setAll D.lasts D.waits := by
  have go : ∀ m, m ≤ D.waits.length → D.barL m = setAll D.lasts (D.waits.take m) := by
    intro m
    induction m with
    | zero => intro _; rfl
    | succ m ih =>
      intro hm
      rw [barL_step (List.getElem?_eq_getElem (show m < D.waits.length by omega)), ih (by omega), List.take_succ_eq_append_getElem (by omega), setAll_app]
      rfl
  rw [go _ (Nat.le_refl _), List.take_length]

section
variable {D D' : Dsk} {fr n hd nx : Nat} {ep : Int} {all : List Chg}
end
end Go.Proofs.YtbghglkplbnnkaaGreatDoor
-- LoopDiskB
namespace Go.Proofs.YtbghglkplbnnkaaGreatDoor
open Go.RowKit Sec

section
variable {B : Nat} {G : Nat → Prop} {w w' : World} {p : Nat} {D : Dsk}
theorem On_k (h : AtK B G w p D) : Calls Tryz.prog 106 #[.pointer (some ⟨p, 0, none⟩)] w fun e w' => e = .returned (.bool D.on) ∧ w' = w := by
  obtain ⟨_, y, rfl, hi, _, _⟩ := h
  exact On_is y D w hi
end
end Go.Proofs.YtbghglkplbnnkaaGreatDoor
