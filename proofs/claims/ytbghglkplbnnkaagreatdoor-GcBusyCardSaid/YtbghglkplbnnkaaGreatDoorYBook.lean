import Derived.Test.YtbghglkplbnnkaaGreatDoorProg
import Derived.WalkKit
import Derived.ProofKit
import Derived.Handy
import Derived.Deep.MidRow
import Derived.Deep.LoopGhost
import Derived.Deep.RegionLaw
import Derived.Deep.AppendLies
import Derived.Lib.Hide
import Derived.Deep.WholeRow
import Derived.Deep.QuietTactic
import Derived.BigQuiet
import Derived.DataElems
set_option linter.unusedVariables false
set_option linter.unusedSimpArgs false
-- BookLaws
namespace Go.Proofs.YtbghglkplbnnkaaGreatDoor.Bk
open Go.RowKit

theorem wpList_append_run {P : Program} {ops : Array Oper} {rest : List Oper} {o : Oper} {a : Act} {w w' : World} {Q : Exit → Act → World → Prop} (hgd : o.guard = none) (d s : Operand) (dT sT : TypeId)
    (ho : o.op = .call { callee := .builtin .append, args := #[d, s], argTypes := #[dT, sT] }) (vd vs v : Value) (hd : a.eval d = vd) (hs : a.eval s = vs)
    (hr : (Builtin.append_ #[dT, sT] o.type #[vd, vs]).run P w = .ok v w') (h : wpList P ops Q rest (a.put o.dst v) w') : wpList P ops Q (o :: rest) a w :=
  wpList_plain hgd fun _ hK => by
    unfold Oper.wp execOp
    simp only [ho, resolve, invoke, builtin, Sem.run_bind, Sem.run_pure, Result.andThen_ok, List.map_toArray, List.map_cons, List.map_nil, hd, hs, hr]
    exact hK _ _ h
theorem run_append_nil_zero {P : Program} (w : World) (t ty e : TypeId) (i : TypeInfo) (ht : P.underlying t = some (.slice e)) (hi : P.info? e = some i) (a : Option Addr) (c : Nat) :
    (Builtin.append_ #[t, t] ty #[.slice none 0 0, .slice a 0 c]).run P w = .ok (.slice none 0 0) w := by
  have hl : ∀ (x : Addr), (loadCells x 0).run P w = .ok #[] w := fun x => by simpa using run_loadCells_list (P := P) w x [] (by simp)
  cases a <;> simp [Builtin.append_, run_underlying ht, sizeOf, typeInfo, hi, Builtin.lenOf, Builtin.firstCells, hl]
def LiesAt (w : World) (a : Option Addr) (cs : List Value) : Prop := ∀ j u, cs[j]? = some u → ∃ b : Addr, a = some b ∧ b.block < w.heap.size ∧ w.cell? (b.add j) = some u
theorem add_block (a : Addr) (n : Nat) : (a.add n).block = a.block := by unfold Addr.add; split <;> rfl
theorem LiesAt.of_blocks {w w' : World} {a : Option Addr} {cs : List Value} (h : LiesAt w a cs) (hs : w.heap.size ≤ w'.heap.size) (hb : ∀ b : Addr, a = some b → w'.heap[b.block]? = w.heap[b.block]?) : LiesAt w' a cs := fun j u hu => by
  obtain ⟨b, h1, h2, h3⟩ := h j u hu
  exact ⟨b, h1, by omega, by rw [World.cell?_of_block (w := w) (a := b.add j) (by rw [add_block]; exact hb b h1)]; exact h3⟩
theorem LiesAt.below {w w' : World} {a : Option Addr} {cs : List Value} (h : LiesAt w a cs) (b : Below w.heap.size w w') : LiesAt w' a cs := fun j u hu => by
  obtain ⟨b', h1, h2, h3⟩ := h j u hu
  exact ⟨b', h1, by have := b.size; omega, by rw [b.cell (by rw [add_block]; exact h2)]; exact h3⟩
theorem bel_drewN {B : Nat} {a w : World} (h : Below B a w) (n : Nat) : Below B a (w.drewN n) := ⟨h.os, h.tape, h.output, h.size, h.block⟩
theorem below_next {w w1 w2 : World} (h1 : Below w.heap.size w w1) (h2 : Below w1.heap.size w1 w2) : Below w.heap.size w w2 := h1.trans (h2.mono h1.size)
def vals (l : List Int) : List Value := l.map (Value.int .i64)
theorem vals_one {l : List Int} : ∀ u ∈ vals l, u.oneCell' = true := fun u hu => by
  obtain ⟨x, _, rfl⟩ := List.mem_map.1 hu
  rfl
theorem vals_len (l : List Int) : (vals l).length = l.length := by simp [vals]
end Go.Proofs.YtbghglkplbnnkaaGreatDoor.Bk
-- BookSameI
namespace Go.Proofs.YtbghglkplbnnkaaGreatDoor.Bk
open Go.RowKit

def txts (l : List ByteArray) : List Value := l.map Value.string
theorem ne_int {x y : Int} (h : x ≠ y) : (x == y) = false := by simpa using h
theorem take_next {α : Type} {l1 l2 : List α} {k : Nat} (h : l1.take k = l2.take k) (h1 : k < l1.length) (h2 : k < l2.length) (e : l1[k] = l2[k]) : l1.take (k + 1) = l2.take (k + 1) := by
  rw [List.take_succ_eq_append_getElem h1, List.take_succ_eq_append_getElem h2, h, e]
theorem drewN_add (w : World) (m k : Nat) : ∃ m', (w.drewN m).drewN k = w.drewN m' := ⟨m + k, by simp [World.drewN, Nat.add_assoc]⟩
theorem LiesAt.at_ {w : World} {a : Option Addr} {cs : List Value} (h : LiesAt w a cs) {k : Nat} {v : Value} (hk : cs[k]? = some v) : ∃ b : Addr, a = some b ∧ b.block < w.heap.size ∧ w.cell? (b.add k) = some v := h k v hk

theorem own_form {w : World} {base : Nat} {e : TypeId} {v : Value} {n : Nat} {xs : List Value} (h : w.ownsRow base e 1 v n xs) : ∃ (a : Option Addr) (c : Nat), v = .slice a n c ∧ LiesAt w a xs ∧ (a = none ∨ ∃ g, a = some ⟨g, 0, none⟩ ∧ base ≤ g ∧ g < w.heap.size) := by
  have hlt := h.lt
  have h' := h
  rcases h.2 with ⟨hv, hn⟩ | ⟨g, cap, cur, hv, r⟩
  · have hx : xs = [] := List.eq_nil_of_length_eq_zero (by rw [h.1, hn])
    subst hx hn
    exact ⟨none, 0, hv, fun j u hu => by simp at hu, .inl rfl⟩
  · subst hv
    have hg := hlt g rfl
    refine ⟨some ⟨g, 0, none⟩, cap, rfl, fun j u hu => ⟨_, rfl, hg.2, ?_⟩, .inr ⟨g, rfl, hg⟩⟩
    have hj : j < n * 1 := by have := (List.getElem?_eq_some_iff.1 hu).1; rw [h.1] at this; exact this
    rw [Addr.add_mid, Nat.zero_add, h'.cellAt j hj, hu]

end Go.Proofs.YtbghglkplbnnkaaGreatDoor.Bk
-- BookBase
namespace Go.Proofs.YtbghglkplbnnkaaGreatDoor.Bk
open Go.RowKit

theorem own_below {w w' : World} {base : Nat} {e : TypeId} {k : Nat} {v : Value} {n : Nat} {xs : List Value} (h : w.ownsRow base e k v n xs) (b : Below w.heap.size w w') : w'.ownsRow base e k v n xs :=
  h.kept (row := none) ⟨b.os, b.tape, b.output, b.size, fun k hk _ => b.block k hk⟩ (by cases hv : v.ownBlock <;> simp)
theorem owns_set {w : World} {base : Nat} {e : TypeId} {g n c : Nat} {xs : List Value} (h : w.ownsRow base e 1 (.slice (some ⟨g, 0, none⟩) n c) n xs) (k : Nat) (x : Value) : (w.setCell ⟨g, k, none⟩ x).ownsRow base e 1 (.slice (some ⟨g, 0, none⟩) n c) n (xs.set k x) := by
  refine ⟨by rw [List.length_set]; exact h.1, ?_⟩
  rcases h.2 with ⟨q, _⟩ | ⟨g', cap', cur, hv, hg, hh, h1, h2, h3, h4⟩
  · cases q
  · obtain ⟨rfl, rfl⟩ : g = g' ∧ c = cap' := by simpa using hv
    refine .inr ⟨g, c, cur.setIfInBounds k x, rfl, hg, ?_, h1, h2, by rw [Array.size_setIfInBounds]; exact h3, ?_⟩
    · have := heap_setCell_same w g k cur e x hh
      simpa using this
    · rw [Array.toList_setIfInBounds, ← h4, ← List.take_set]
theorem owns_cell {w : World} {base : Nat} {e : TypeId} {g n c : Nat} {xs : List Value} (h : w.ownsRow base e 1 (.slice (some ⟨g, 0, none⟩) n c) n xs) {k : Nat} {x : Value} (hk : xs[k]? = some x) : w.cell? ⟨g, k, none⟩ = some x ∧ w.frozen? ⟨g, k, none⟩ = false := by
  have hlt : k < n * 1 := by rw [← h.1]; exact (List.getElem?_eq_some_iff.1 hk).1
  refine ⟨by rw [h.cellAt k hlt, hk], ?_⟩
  rcases h.2 with ⟨q, _⟩ | ⟨g', cap', cur, hv, _, hh, _⟩
  · cases q
  · obtain ⟨rfl, rfl⟩ : g = g' ∧ c = cap' := by simpa using hv
    simp [World.frozen?, hh]
theorem own_type {w : World} {base : Nat} {e : TypeId} {k : Nat} {v : Value} {m : Nat} {cs : List Value} (h : w.ownsRow base e k v m cs) {g : Nat} (hg : v.ownBlock = some g) : ∃ cur, w.heap[g]? = some (.cells cur e (0, 0)) := by
  rcases h.2 with ⟨q, _⟩ | ⟨g', cap, cur, hv, _, hh, _⟩
  · rw [q] at hg; cases hg
  · rw [hv] at hg
    obtain rfl : g' = g := by simpa [Value.ownBlock] using hg
    exact ⟨cur, hh⟩
theorem owns_slice {w : World} {base : Nat} {e : TypeId} {k : Nat} {v : Value} {n : Nat} {xs : List Value} (h : w.ownsRow base e k v n xs) : ∃ a c, v = .slice a n c := by
  rcases h.2 with ⟨q, q2⟩ | ⟨g, cap, cur, hv, _⟩
  · exact ⟨none, 0, by rw [q, q2]⟩
  · exact ⟨_, _, hv⟩
theorem own_blk {w : World} {base : Nat} {e : TypeId} {v : Value} {n : Nat} {xs : List Value} (h : w.ownsRow base e 1 v n xs) (hn : 0 < n) : ∃ (g c : Nat), v = .slice (some ⟨g, 0, none⟩) n c ∧ n ≤ c ∧ base ≤ g ∧ g < w.heap.size := by
  rcases h.2 with ⟨_, q⟩ | ⟨g, cap, cur, hv, hg, hh, hc, r⟩
  · omega
  · exact ⟨g, cap, hv, hc, hg, (h.lt g (by rw [hv]; rfl)).2⟩
end Go.Proofs.YtbghglkplbnnkaaGreatDoor.Bk
-- Flat
namespace Go.Proofs.YtbghglkplbnnkaaGreatDoor.Bk
open Go.RowKit

def flat {α : Type} (enc : α → List Value) (l : List α) : List Value := l.flatMap enc
section
variable {α : Type} {enc : α → List Value} {k : Nat}
theorem flat_cons (x : α) (l : List α) : flat enc (x :: l) = enc x ++ flat enc l := by simp [flat]
theorem flat_one (x : α) : flat enc [x] = enc x := by simp [flat]
theorem flat_app (l m : List α) : flat enc (l ++ m) = flat enc l ++ flat enc m := by simp [flat]
theorem flat_len (h : ∀ x, (enc x).length = k) (l : List α) : (flat enc l).length = l.length * k := by
  induction l with
  | nil => simp [flat]
  | cons x r ih => rw [flat_cons, List.length_append, h, ih, List.length_cons, Nat.add_mul, Nat.one_mul, Nat.add_comm]
theorem flat_get (h : ∀ x, (enc x).length = k) : ∀ {l : List α} {i : Nat} {x : α}, l[i]? = some x → ∀ j, j < k → (flat enc l)[i * k + j]? = (enc x)[j]?
  | [], i, x, hx, _, _ => by simp at hx
  | y :: r, 0, x, hx, j, hj => by
    obtain rfl : y = x := by simpa using hx
    rw [flat_cons, Nat.zero_mul, Nat.zero_add, List.getElem?_append_left (by rw [h]; exact hj)]
  | y :: r, i + 1, x, hx, j, hj => by
    rw [flat_cons, List.getElem?_append_right (by rw [h, Nat.add_mul]; omega), h, show (i + 1) * k + j - k = i * k + j by rw [Nat.add_mul]; omega]
    exact flat_get h (by simpa using hx) j hj
theorem flat_take (h : ∀ x, (enc x).length = k) : ∀ (l : List α) (n : Nat), (flat enc l).take (n * k) = flat enc (l.take n)
  | [], n => by simp [flat]
  | y :: r, 0 => by simp [flat]
  | y :: r, n + 1 => by
    rw [List.take_succ_cons, flat_cons, flat_cons, Nat.add_mul, Nat.one_mul, Nat.add_comm (n * k) k, ← h y, List.take_length_add_append, h y, flat_take h r n]
theorem flat_drop (h : ∀ x, (enc x).length = k) : ∀ (l : List α) (n : Nat), (flat enc l).drop (n * k) = flat enc (l.drop n)
  | [], n => by simp [flat]
  | y :: r, 0 => by simp
  | y :: r, n + 1 => by
    rw [List.drop_succ_cons, flat_cons, Nat.add_mul, Nat.one_mul, Nat.add_comm (n * k) k, ← h y, List.drop_length_add_append, h y, flat_drop h r n]
theorem flat_all {p : Value → Prop} (h : ∀ x, ∀ u ∈ enc x, p u) (l : List α) : ∀ u ∈ flat enc l, p u := fun u hu => by
  obtain ⟨x, _, hx⟩ := List.mem_flatMap.1 hu
  exact h x u hx
theorem LiesAt.elem {w : World} {a : Option Addr} {l : List α} (h : LiesAt w a (flat enc l)) (hk : ∀ x, (enc x).length = k) (h0 : 0 < k) {i : Nat} {x : α} (hx : l[i]? = some x) :
    ∃ g o : Nat, a = some ⟨g, o, none⟩ ∧ g < w.heap.size ∧ w.rangeAt g (o + i * k) (enc x) := by
  have hi : 0 < l.length := by have := (List.getElem?_eq_some_iff.1 hx).1; omega
  have hf : 0 < (flat enc l).length := by rw [flat_len hk]; exact Nat.mul_pos hi h0
  obtain ⟨b, hb, hl, hc⟩ := h 0 _ (List.getElem?_eq_getElem hf)
  have hsp : b.spot = none := by
    have hb0 : b.add 0 = b := by simp [Addr.add]
    rw [hb0] at hc
    exact World.cell?_spot hc
  obtain ⟨g, o, s⟩ := b
  obtain rfl : s = none := hsp
  refine ⟨g, o, hb, hl, fun j v hv => ?_⟩
  have hj : j < k := by have := (List.getElem?_eq_some_iff.1 hv).1; rw [hk] at this; exact this
  obtain ⟨b', hb', _, hc'⟩ := h (i * k + j) _ ((flat_get hk hx j hj).trans hv)
  obtain rfl : b' = ⟨g, o, none⟩ := by rw [hb] at hb'; exact (by simpa using hb'.symm)
  rw [Addr.add_mid] at hc'
  rw [Nat.add_assoc]
  exact hc'
end

theorem own_formK {w : World} {base : Nat} {e : TypeId} {k : Nat} {v : Value} {n : Nat} {xs : List Value} (h : w.ownsRow base e k v n xs) : ∃ (a : Option Addr) (c : Nat), v = .slice a n c ∧ LiesAt w a xs ∧ (a = none ∨ ∃ g, a = some ⟨g, 0, none⟩ ∧ base ≤ g ∧ g < w.heap.size) := by
  have hlt := h.lt
  have h' := h
  rcases h.2 with ⟨hv, hn⟩ | ⟨g, cap, cur, hv, r⟩
  · have hx : xs = [] := List.eq_nil_of_length_eq_zero (by rw [h.1, hn, Nat.zero_mul])
    subst hx hn
    exact ⟨none, 0, hv, fun j u hu => by simp at hu, .inl rfl⟩
  · subst hv
    have hg := hlt g rfl
    refine ⟨some ⟨g, 0, none⟩, cap, rfl, fun j u hu => ⟨_, rfl, hg.2, ?_⟩, .inr ⟨g, rfl, hg⟩⟩
    have hj : j < n * k := by have := (List.getElem?_eq_some_iff.1 hu).1; rw [h.1] at this; exact this
    rw [Addr.add_mid, Nat.zero_add, h'.cellAt j hj, hu]
theorem own_belowK {w w' : World} {base : Nat} {e : TypeId} {k : Nat} {v : Value} {n : Nat} {xs : List Value} (h : w.ownsRow base e k v n xs) (b : Below w.heap.size w w') : w'.ownsRow base e k v n xs :=
  h.kept (row := none) ⟨b.os, b.tape, b.output, b.size, fun k hk _ => b.block k hk⟩ (by cases hv : v.ownBlock <;> simp)
def setRun : List Value → Nat → List Value → List Value
  | xs, _, [] => xs
  | xs, o, v :: r => setRun (xs.set o v) (o + 1) r
theorem setRun_eq : ∀ (vs xs : List Value) (o : Nat), o + vs.length ≤ xs.length → setRun xs o vs = xs.take o ++ vs ++ xs.drop (o + vs.length)
  | [], xs, o, _ => by simp [setRun]
  | v :: r, xs, o, h => by
    have h' : o + r.length + 1 ≤ xs.length := by simpa [Nat.add_assoc] using h
    rw [setRun, setRun_eq r _ _ (by rw [List.length_set]; omega), List.drop_set_of_lt (by omega), List.take_succ_eq_append_getElem (by rw [List.length_set]; omega), List.getElem_set_self, List.take_set_of_le (Nat.le_refl _)]
    simp [Nat.add_assoc, Nat.add_comm 1]
section
variable {α : Type} {enc : α → List Value} {k : Nat}
theorem flat_set (h : ∀ x, (enc x).length = k) (l : List α) (i : Nat) (hi : i < l.length) (y : α) : flat enc (l.set i y) = setRun (flat enc l) (i * k) (enc y) := by
  have hm : i * k + k ≤ l.length * k := by have := Nat.mul_le_mul_right k (show i + 1 ≤ l.length by omega); rw [Nat.add_mul] at this; omega
  rw [setRun_eq _ _ _ (by rw [h, flat_len h]; exact hm), h, List.set_eq_take_append_cons_drop, if_pos hi, flat_app, flat_cons, flat_take h, show i * k + k = (i + 1) * k by rw [Nat.add_mul]; omega, flat_drop h, List.append_assoc]
theorem LiesAt.sub {w : World} {g o : Nat} {l : List α} (h : LiesAt w (some ⟨g, o, none⟩) (flat enc l)) (hk : ∀ x, (enc x).length = k) (i j : Nat) : LiesAt w (some ⟨g, o + i * k, none⟩) (flat enc ((l.take j).drop i)) := fun n u hu => by
  rw [← flat_drop hk, ← flat_take hk, List.getElem?_drop] at hu
  have hu' : (flat enc l)[i * k + n]? = some u := by
    rw [List.getElem?_take] at hu
    split at hu
    · exact hu
    · cases hu
  obtain ⟨b, hb, hl, hc⟩ := h _ u hu'
  obtain rfl : ⟨g, o, none⟩ = b := by simpa using hb
  refine ⟨_, rfl, hl, ?_⟩
  rw [Addr.add_mid] at hc ⊢
  rw [Nat.add_assoc]
  exact hc
end
theorem owns_setK {w : World} {base : Nat} {e : TypeId} {s g n c : Nat} {xs : List Value} (h : w.ownsRow base e s (.slice (some ⟨g, 0, none⟩) n c) n xs) (k : Nat) (x : Value) : (w.setCell ⟨g, k, none⟩ x).ownsRow base e s (.slice (some ⟨g, 0, none⟩) n c) n (xs.set k x) := by
  refine ⟨by rw [List.length_set]; exact h.1, ?_⟩
  rcases h.2 with ⟨q, _⟩ | ⟨g', cap', cur, hv, hg, hh, h1, h2, h3, h4⟩
  · cases q
  · obtain ⟨rfl, rfl⟩ : g = g' ∧ c = cap' := by simpa using hv
    refine .inr ⟨g, c, cur.setIfInBounds k x, rfl, hg, ?_, h1, h2, by rw [Array.size_setIfInBounds]; exact h3, ?_⟩
    · have := heap_setCell_same w g k cur e x hh
      simpa using this
    · rw [Array.toList_setIfInBounds, ← h4, ← List.take_set]
theorem owns_thereK {w : World} {base : Nat} {e : TypeId} {s g n c : Nat} {xs : List Value} (h : w.ownsRow base e s (.slice (some ⟨g, 0, none⟩) n c) n xs) {k : Nat} (hk : k < n * s) : ∃ x, xs[k]? = some x ∧ w.cell? ⟨g, k, none⟩ = some x ∧ w.frozen? ⟨g, k, none⟩ = false := by
  have hx : xs[k]? = some (xs[k]'(by rw [h.1]; exact hk)) := List.getElem?_eq_getElem _
  refine ⟨_, hx, by rw [h.cellAt k hk, hx], ?_⟩
  rcases h.2 with ⟨q, _⟩ | ⟨g', cap', cur, hv, _, hh, _⟩
  · cases q
  · obtain ⟨rfl, rfl⟩ : g = g' ∧ c = cap' := by simpa using hv
    simp [World.frozen?, hh]
theorem grown_refl (w : World) (row : Option Nat) : w.grownBy w row := ⟨rfl, rfl, rfl, Nat.le_refl _, fun _ _ _ => rfl⟩
theorem run_append_zero {P : Program} (w : World) (t ty e : TypeId) (i : TypeInfo) (ht : P.underlying t = some (.slice e)) (hi : P.info? e = some i) (b : Addr) (n cap : Nat) (hn : n ≤ cap) (a : Option Addr) (c : Nat) :
    (Builtin.append_ #[t, t] ty #[.slice (some b) n cap, .slice a 0 c]).run P w = .ok (.slice (some b) n cap) w := by
  have hl : ∀ (x : Addr), (loadCells x 0).run P w = .ok #[] w := fun x => by simpa using run_loadCells_list (P := P) w x [] (by simp)
  have hst : ∀ (x : Addr), (storeCells x []).run P w = .ok () w := fun x => by first | rfl | simp [storeCells]
  cases a <;> simp [Builtin.append_, run_underlying ht, sizeOf, typeInfo, hi, Builtin.lenOf, Builtin.firstCells, hl, hn, hst]
theorem owns_base' {w : World} {b b' : Nat} {e : TypeId} {k : Nat} {v : Value} {m : Nat} {cs : List Value} (hb : b ≤ b') (h : w.ownsRow b' e k v m cs) : w.ownsRow b e k v m cs := by
  refine ⟨h.1, ?_⟩
  rcases h.2 with q | ⟨g, cap, cur, hv, hg, r⟩
  · exact .inl q
  · exact .inr ⟨g, cap, cur, hv, Nat.le_trans hb hg, r⟩
theorem wpList_append_row {P : Program} {ops : Array Oper} {rest : List Oper} {o : Oper} {ac : Act} {w : World} {Q : Exit → Act → World → Prop} (hgd : o.guard = none) (s x : Operand) (t : TypeId)
    (ho : o.op = .call { callee := .builtin .append, args := #[s, x], argTypes := #[t, t] })
    (base : Nat) (e : TypeId) (i : TypeInfo) (z : Value) (size bytes : Nat) (ht : P.underlying t = some (.slice e)) (hi : P.info? e = some i) (hz : i.zero = some z)
    (hsize : i.size = size) (hby : i.bytes = bytes) (hzs : z.cells.size = size) (hsz : 0 < size)
    (v : Value) (n : Nat) (xs : List Value) (hs : ac.eval s = v) (hown : w.ownsRow base e size v n xs)
    (a : Option Addr) (m c : Nat) (news : List Value) (hx : ac.eval x = .slice a m c) (hl : news.length = m * size) (hnews : LiesAt w a news) (h1 : ∀ u ∈ news, u.oneCell' = true)
    (h63 : n + m ≤ maxLen) (hbytes : (n + m) * bytes ≤ 140737488355328) (hbase : base ≤ w.heap.size)
    (h : ∀ v' w', w'.ownsRow base e size v' (n + m) (xs ++ news) → w.grownBy w' v.ownBlock → wpList P ops Q rest (ac.put o.dst v') w') : wpList P ops Q (o :: rest) ac w := by
  rcases Nat.eq_zero_or_pos m with h0 | h0
  · subst h0
    have hnn : news = [] := List.eq_nil_of_length_eq_zero (by simpa using hl)
    subst hnn
    refine wpList_append_run hgd s x t t ho v (.slice a 0 c) v hs hx ?_ (h v w (by simpa using hown) (grown_refl _ _))
    rcases hown.2 with ⟨q, _⟩ | ⟨g, cap, cur, q, _, _, hc, _⟩
    · rw [q]; exact run_append_nil_zero w t o.type e i ht hi a c
    · rw [q]; exact run_append_zero w t o.type e i ht hi _ n cap hc a c
  · have h0c : 0 < news.length := by rw [hl]; exact Nat.mul_pos h0 hsz
    obtain ⟨b, rfl, _, _⟩ := hnews 0 _ (List.getElem?_eq_getElem h0c)
    refine wpList_append_lies w hgd s x t ho base e i z size bytes ht hi hz hsize hby hzs hsz v n xs hs hown b m c news hx hl (fun j u hu => by
      obtain ⟨b', hb, _, hc⟩ := hnews j u hu
      obtain rfl : b = b' := by simpa using hb
      exact hc) h1 h0 h63 hbytes hbase _ rfl ?_
    intro g cap w' ho' hg' _ _
    exact h _ w' ho' hg'
theorem own_blkK {w : World} {base : Nat} {e : TypeId} {k : Nat} {v : Value} {n : Nat} {xs : List Value} (h : w.ownsRow base e k v n xs) (hn : 0 < n) : ∃ (g c : Nat), v = .slice (some ⟨g, 0, none⟩) n c ∧ n ≤ c ∧ base ≤ g ∧ g < w.heap.size := by
  rcases h.2 with ⟨_, q⟩ | ⟨g, cap, cur, hv, hg, hh, hc, r⟩
  · omega
  · exact ⟨g, cap, hv, hc, hg, (h.lt g (by rw [hv]; rfl)).2⟩
end Go.Proofs.YtbghglkplbnnkaaGreatDoor.Bk
-- Wide
namespace Go.Proofs.YtbghglkplbnnkaaGreatDoor
open Go.RowKit

structure Chg where
  c : Int
  v : Int
deriving DecidableEq
def Chg.cells (x : Chg) : List Value := [.int .i64 x.c, .int .i64 x.v]
theorem Chg.len (x : Chg) : x.cells.length = 2 := rfl
theorem Chg.one (x : Chg) : ∀ u ∈ x.cells, u.oneCell' = true := fun u hu => by
  simp only [Chg.cells, List.mem_cons, List.not_mem_nil, or_false] at hu
  rcases hu with rfl | rfl <;> rfl
structure Ent where
  k : Int
  l : Int
  e : Int
  c : Int
  v : Int
deriving DecidableEq
def Ent.cells (x : Ent) : List Value := [.int .i64 x.k, .int .i64 x.l, .int .i64 x.e, .int .i64 x.c, .int .i64 x.v]
def Ent.val (x : Ent) : Value := .agg #[.int .i64 x.k, .int .i64 x.l, .int .i64 x.e, .int .i64 x.c, .int .i64 x.v]
theorem Ent.len (x : Ent) : x.cells.length = 5 := rfl
theorem Ent.one (x : Ent) : ∀ u ∈ x.cells, u.oneCell' = true := fun u hu => by
  simp only [Ent.cells, List.mem_cons, List.not_mem_nil, or_false] at hu
  rcases hu with rfl | rfl | rfl | rfl | rfl <;> rfl
theorem entInfo : (Tryz.prog.info? 262).map (fun i => (i.zero, i.size, i.bytes)) = some (some (.agg #[.int .i64 0, .int .i64 0, .int .i64 0, .int .i64 0, .int .i64 0]), 5, 40) := by kernel_rfl
theorem chgInfo : (Tryz.prog.info? 200).map (fun i => (i.zero, i.size, i.bytes)) = some (some (.agg #[.int .i64 0, .int .i64 0]), 2, 16) := by kernel_rfl
end Go.Proofs.YtbghglkplbnnkaaGreatDoor
-- WideSame
namespace Go.Proofs.YtbghglkplbnnkaaGreatDoor.Bk
open Go.RowKit

end Go.Proofs.YtbghglkplbnnkaaGreatDoor.Bk
-- WideGrow
namespace Go.Proofs.YtbghglkplbnnkaaGreatDoor.Bk
open Go.RowKit

end Go.Proofs.YtbghglkplbnnkaaGreatDoor.Bk
