/- Errors that may be nil, by their number: trap.New, In, Errno, Is. Conditions: the variable errors.errorType holds the type error. -/
import Derived.Test.YtbcdmcafobjpcaaGreatDoorLoopDisk
namespace Go.Proofs.YtbcdmcafobjpcaaGreatDoor
open Go.RowKit Sec

/-- An error of the number x: nil of 0. -/
def ErrIs (w : World) (x : Int) (v : Value) : Prop := (x = 0 ∧ v = .nilIface) ∨ (x ≠ 0 ∧ ∃ (t : Int) (a : Nat) (l : List ByteArray), Chain w x t a l v)
theorem ErrIs.below {w w' : World} {x : Int} {v : Value} (h : ErrIs w x v) (b : Below w.heap.size w w') : ErrIs w' x v := by
  rcases h with h | ⟨h, t, a, l, c⟩
  · exact .inl h
  · exact .inr ⟨h, t, a, l, c.below b⟩
theorem ErrIs.iface {w : World} {x : Int} {v : Value} (h : ErrIs w x v) (hx : x ≠ 0) : ∃ tv vv, v = .iface tv vv := by
  rcases h with ⟨h, _⟩ | ⟨_, _, _, _, c⟩
  · exact absurd h hx
  · exact c.iface
theorem ErrIs.nil {w : World} {v : Value} (h : ErrIs w 0 v) : v = .nilIface := by
  rcases h with ⟨_, h⟩ | ⟨h, _⟩
  · exact h
  · exact absurd rfl h
theorem errNil (w : World) : ErrIs w 0 .nilIface := .inl ⟨rfl, rfl⟩

theorem new_err (x t : Int) (w : World) : Calls Tryz.prog 60 #[.int .i64 x, .int .i64 t] w fun e w' => ∃ v, e = .returned v ∧ Below w.heap.size w w' ∧ ErrIs w' x v := by
  by_cases hx : x = 0
  · subst hx
    exact (new_nil t w).mono fun e w' ⟨he, hw⟩ => ⟨_, he, by rw [hw]; exact Below.refl _ _, .inl ⟨rfl, rfl⟩⟩
  · exact (new_chain x t hx w).mono fun e w' ⟨he, hw⟩ => ⟨_, he, by rw [hw]; exact (Below.refl _ _).alloc (Nat.le_refl _) _, .inr ⟨hx, t, w.heap.size, [], by rw [hw]; exact chain_new x t w⟩⟩
theorem in_err (x : Int) (v : Value) (s : ByteArray) (w : World) (h : ErrIs w x v) : Calls Tryz.prog 59 #[v, .string s] w fun e w' => ∃ v', e = .returned v' ∧ Below w.heap.size w w' ∧ ErrIs w' x v' := by
  rcases h with ⟨hx, rfl⟩ | ⟨hx, t, a, l, c⟩
  · exact (in_nil s w).mono fun e w' ⟨he, hw⟩ => ⟨_, he, by rw [hw]; exact Below.refl _ _, .inl ⟨hx, rfl⟩⟩
  · obtain ⟨tv, vv, rfl⟩ := c.iface
    exact (in_some tv vv s w).mono fun e w' ⟨he, hw⟩ => ⟨_, he, by rw [hw]; exact (Below.refl _ _).alloc (Nat.le_refl _) _, .inr ⟨hx, t, a, s :: l, by rw [hw]; exact c.wrap s⟩⟩
theorem errno_err (x : Int) (v : Value) (w : World) (h : ErrIs w x v) (hg : ErrTy w) : Calls Tryz.prog 26 #[v] w fun e w' => e = .returned (.int .i64 x) ∧ Below w.heap.size w w' := by
  rcases h with ⟨rfl, rfl⟩ | ⟨hx, t, a, l, c⟩
  · exact Errno_nil w
  · exact Errno_chain x t a l v w c hg
theorem is_err (x y : Int) (hy : y ≠ 0) (v : Value) (w : World) (h : ErrIs w x v) (hg : ErrTy w) : Calls Tryz.prog 63 #[v, .int .i64 y] w fun e w' => e = .returned (.bool (x == y)) ∧ Below w.heap.size w w' := by
  rcases h with ⟨rfl, rfl⟩ | ⟨hx, t, a, l, c⟩
  · rw [show ((0 : Int) == y) = false by simpa using fun h : (0 : Int) = y => hy h.symm]
    exact Is_nil_num y hy w
  · exact Is_chain x t a l v y hy w c hg
/-- A block whose first cell is 0 is no part of an error: it may turn. -/
theorem chain_off {w w' : World} {n t : Int} {a g : Nat} (hn : n ≠ 0) (hg : w.cell? ⟨g, 0, none⟩ = some (.int .i64 0)) (hb : ∀ b, b ≠ g → w'.heap[b]? = w.heap[b]?) : ∀ (l : List ByteArray) (v : Value), Chain w n t a l v → Chain w' n t a l v
  | [], _, ⟨e, c0, c1⟩ => by
    have hne : a ≠ g := fun q => by
      subst q
      rw [hg] at c0
      exact hn (by simpa using c0.symm)
    exact ⟨e, (World.cell?_of_block (a := ⟨a, 0, none⟩) (hb a hne)).trans c0, (World.cell?_of_block (a := ⟨a, 1, none⟩) (hb a hne)).trans c1⟩
  | _ :: r, _, ⟨b, u, e, c0, c1, h⟩ => by
    have hne : b ≠ g := fun q => by
      subst q
      rw [hg] at c0
      simp at c0
    exact ⟨b, u, e, (World.cell?_of_block (a := ⟨b, 0, none⟩) (hb b hne)).trans c0, (World.cell?_of_block (a := ⟨b, 1, none⟩) (hb b hne)).trans c1, chain_off hn hg hb r u h⟩
theorem ErrIs.off {w w' : World} {x : Int} {v : Value} {g : Nat} (h : ErrIs w x v) (hg : w.cell? ⟨g, 0, none⟩ = some (.int .i64 0)) (hb : ∀ b, b ≠ g → w'.heap[b]? = w.heap[b]?) : ErrIs w' x v := by
  rcases h with h | ⟨h, t, a, l, c⟩
  · exact .inl h
  · exact .inr ⟨h, t, a, l, chain_off h hg hb l v c⟩
end Go.Proofs.YtbcdmcafobjpcaaGreatDoor
