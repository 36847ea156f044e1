/- Laws on lists that a call makes: append by its run; append(nil, x...); what lies where. Plain: no call of the program. -/
import Derived.Test.YtngfijpdbjkpiaaProg
import Derived.WalkKit
import Derived.ProofKit
import Derived.Handy
import Derived.Deep.MidRow
import Derived.Deep.LoopGhost
import Derived.Deep.RegionLaw
import Derived.Deep.AppendLies
import Derived.Lib.Hide
import Derived.Deep.WholeRow
import Derived.Deep.QuietTactic
import Derived.BigQuiet
namespace Go.Proofs.Ytngfijpdbjkpiaa.Bk
open Go.RowKit

/-- append by its run. -/
theorem wpList_append_run {P : Program} {ops : Array Oper} {rest : List Oper} {o : Oper} {a : Act} {w w' : World} {Q : Exit → Act → World → Prop} (hgd : o.guard = none) (d s : Operand) (dT sT : TypeId)
    (ho : o.op = .call { callee := .builtin .append, args := #[d, s], argTypes := #[dT, sT] }) (vd vs v : Value) (hd : a.eval d = vd) (hs : a.eval s = vs)
    (hr : (Builtin.append_ #[dT, sT] o.type #[vd, vs]).run P w = .ok v w') (h : wpList P ops Q rest (a.put o.dst v) w') : wpList P ops Q (o :: rest) a w :=
  wpList_plain hgd fun _ hK => by
    unfold Oper.wp execOp
    simp only [ho, resolve, invoke, builtin, Sem.run_bind, Sem.run_pure, Result.andThen_ok, List.map_toArray, List.map_cons, List.map_nil, hd, hs, hr]
    exact hK _ _ h
theorem run_append_nil_zero {P : Program} (w : World) (t ty e : TypeId) (i : TypeInfo) (ht : P.underlying t = some (.slice e)) (hi : P.info? e = some i) (a : Option Addr) (c : Nat) :
    (Builtin.append_ #[t, t] ty #[.slice none 0 0, .slice a 0 c]).run P w = .ok (.slice none 0 0) w := by
  have hl : ∀ (x : Addr), (loadCells x 0).run P w = .ok #[] w := fun x => by simpa using run_loadCells_list (P := P) w x [] (by simp)
  cases a <;> simp [Builtin.append_, run_underlying ht, sizeOf, typeInfo, hi, Builtin.lenOf, Builtin.firstCells, hl]
theorem owns_of_block {w w' : World} {base : Nat} {e : TypeId} {k g m c : Nat} {cs : List Value} (h : w.ownsRow base e k (.slice (some ⟨g, 0, none⟩) m c) m cs) (hb : w'.heap[g]? = w.heap[g]?) : w'.ownsRow base e k (.slice (some ⟨g, 0, none⟩) m c) m cs := by
  refine ⟨h.1, ?_⟩
  rcases h.2 with ⟨q, _⟩ | ⟨g', cap', cur, hv, hg, hh, r⟩
  · cases q
  · obtain ⟨rfl, rfl⟩ : g = g' ∧ c = cap' := by simpa using hv
    exact .inr ⟨g, c, cur, rfl, hg, by rw [hb]; exact hh, r⟩
theorem owns_zero {w : World} {base : Nat} {e : TypeId} {k : Nat} {v : Value} {m : Nat} {cs : List Value} (h : w.ownsRow base e k v m cs) : w.ownsRow 0 e k v m cs := by
  refine ⟨h.1, ?_⟩
  rcases h.2 with q | ⟨g, cap, cur, hv, _, r⟩
  · exact .inl q
  · exact .inr ⟨g, cap, cur, hv, Nat.zero_le _, r⟩
/-- append(nil, x...), at a step of a region that draws its order. -/
theorem step_append_copy {P : Program} {ops : Array Oper} {o : Oper} {ac : Act} {w : World} {K : Act → World → Prop} {Q : Exit → Act → World → Prop} {E : Prop} (hgd : o.guard = none) (x : Operand) (t : TypeId)
    (ho : o.op = .call { callee := .builtin .append, args := #[.const (.slice none 0 0), x], argTypes := #[t, t] })
    (e : TypeId) (i : TypeInfo) (zv : Value) (k bytes : Nat) (ht : P.underlying t = some (.slice e)) (hi : P.info? e = some i) (hz : i.zero = some zv) (hsize : i.size = k) (hby : i.bytes = bytes) (hzs : zv.cells.size = k) (hk : 0 < k) (hb40 : bytes ≤ 40)
    (a : Option Addr) (m c : Nat) (cs : List Value) (hx : ac.eval x = .slice a m c) (hown : ∀ j u, cs[j]? = some u → ∃ b : Addr, a = some b ∧ w.cell? (b.add j) = some u) (hl : cs.length = m * k) (h1 : ∀ u ∈ cs, u.oneCell' = true) (hm : m < 2 ^ 40)
    (h : ∀ v w', Below w.heap.size w w' → w'.ownsRow w.heap.size e k v m cs → K (ac.put o.dst v) w') :
    if Region.wanted o (yielded ops ac.tmps) = true then Oper.wp P o ac w K Q else E := by
  rcases Nat.eq_zero_or_pos m with h0 | h0
  · subst h0
    have hcs : cs = [] := List.eq_nil_of_length_eq_zero (by simpa using hl)
    subst hcs
    have hw : Region.wanted o (yielded ops ac.tmps) = true := by simp [Region.wanted, hgd]
    rw [if_pos hw]
    unfold Oper.wp execOp
    have hr := run_append_nil_zero (P := P) w t o.type e i ht hi a c
    simp only [ho, resolve, invoke, builtin, Sem.run_bind, Sem.run_pure, Result.andThen_ok, List.map_toArray, List.map_cons, List.map_nil, hx, show ac.eval (.const (.slice none 0 0)) = .slice none 0 0 from rfl, hr]
    exact h _ _ (Below.refl _ _) (World.ownsRow_nil _ _ _ _)
  · have h0c : 0 < cs.length := by rw [hl]; exact Nat.mul_pos h0 hk
    obtain ⟨b, rfl, _⟩ := hown 0 _ (List.getElem?_eq_getElem h0c)
    refine step_append_lies w hgd (.const (.slice none 0 0)) x t ho w.heap.size e i zv k bytes ht hi hz hsize hby hzs hk (.slice none 0 0) 0 [] rfl (World.ownsRow_nil _ _ _ _) b m c cs hx hl (fun j u hu => by
      obtain ⟨b', hb, hc⟩ := hown j u hu
      obtain rfl : b = b' := by simpa using hb
      exact hc) h1 h0 (by unfold maxLen; omega) (by
        have : (0 + m) * bytes ≤ 2 ^ 40 * 40 := Nat.mul_le_mul (by omega) hb40
        omega) (Nat.le_refl _) _ rfl ?_
    intro g cap w' ho' hg' _ _
    simp only [Nat.zero_add, List.nil_append] at ho' ⊢
    exact h _ w' ((Below.refl _ _).grown hg' (Nat.le_refl _) (fun k hk => by cases hk)) ho'
theorem owns_cap {w : World} {base : Nat} {e : TypeId} {k g m c : Nat} {cs : List Value} (h : w.ownsRow base e k (.slice (some ⟨g, 0, none⟩) m c) m cs) : m ≤ c := by
  rcases h.2 with ⟨q, _⟩ | ⟨g', cap', cur, hv, _, _, hc, _⟩
  · cases q
  · simp only [Value.slice.injEq] at hv
    rw [hv.2.2]; exact hc
/-- The same in a plain region. -/
theorem wpList_append_copy {P : Program} {ops : Array Oper} {rest : List Oper} {o : Oper} {ac : Act} {w : World} {Q : Exit → Act → World → Prop} (hgd : o.guard = none) (x : Operand) (t : TypeId)
    (ho : o.op = .call { callee := .builtin .append, args := #[.const (.slice none 0 0), x], argTypes := #[t, t] })
    (e : TypeId) (i : TypeInfo) (zv : Value) (k bytes : Nat) (ht : P.underlying t = some (.slice e)) (hi : P.info? e = some i) (hz : i.zero = some zv) (hsize : i.size = k) (hby : i.bytes = bytes) (hzs : zv.cells.size = k) (hk : 0 < k) (hb40 : bytes ≤ 48)
    (a : Option Addr) (m c : Nat) (cs : List Value) (hx : ac.eval x = .slice a m c) (hown : ∀ j u, cs[j]? = some u → ∃ b : Addr, a = some b ∧ w.cell? (b.add j) = some u) (hl : cs.length = m * k) (h1 : ∀ u ∈ cs, u.oneCell' = true) (hm : m < 2 ^ 40)
    (h : ∀ v w', Below w.heap.size w w' → w'.ownsRow w.heap.size e k v m cs → wpList P ops Q rest (ac.put o.dst v) w') : wpList P ops Q (o :: rest) ac w := by
  rcases Nat.eq_zero_or_pos m with h0 | h0
  · subst h0
    have hcs : cs = [] := List.eq_nil_of_length_eq_zero (by simpa using hl)
    subst hcs
    refine wpList_append_run hgd (.const (.slice none 0 0)) x t t ho _ _ _ rfl hx (run_append_nil_zero w t o.type e i ht hi a c) ?_
    exact h _ w (Below.refl _ _) (World.ownsRow_nil _ _ _ _)
  · have h0c : 0 < cs.length := by rw [hl]; exact Nat.mul_pos h0 hk
    obtain ⟨b, rfl, _⟩ := hown 0 _ (List.getElem?_eq_getElem h0c)
    refine wpList_append_lies w hgd (.const (.slice none 0 0)) x t ho w.heap.size e i zv k bytes ht hi hz hsize hby hzs hk (.slice none 0 0) 0 [] rfl (World.ownsRow_nil _ _ _ _) b m c cs hx hl (fun j u hu => by
      obtain ⟨b', hb, hc⟩ := hown j u hu
      obtain rfl : b = b' := by simpa using hb
      exact hc) h1 h0 (by unfold maxLen; omega) (by
        have : (0 + m) * bytes ≤ 2 ^ 40 * 48 := Nat.mul_le_mul (by omega) hb40
        omega) (Nat.le_refl _) _ rfl ?_
    intro g cap w' ho' hg' _ _
    simp only [Nat.zero_add, List.nil_append] at ho' ⊢
    exact h _ w' ((Below.refl _ _).grown hg' (Nat.le_refl _) (fun k hk => by cases hk)) ho'

/-- Cells that lie behind an address (or none at all). -/
def LiesAt (w : World) (a : Option Addr) (cs : List Value) : Prop := ∀ j u, cs[j]? = some u → ∃ b : Addr, a = some b ∧ b.block < w.heap.size ∧ w.cell? (b.add j) = some u
theorem add_block (a : Addr) (n : Nat) : (a.add n).block = a.block := by unfold Addr.add; split <;> rfl
theorem LiesAt.of_blocks {w w' : World} {a : Option Addr} {cs : List Value} (h : LiesAt w a cs) (hs : w.heap.size ≤ w'.heap.size) (hb : ∀ b : Addr, a = some b → w'.heap[b.block]? = w.heap[b.block]?) : LiesAt w' a cs := fun j u hu => by
  obtain ⟨b, h1, h2, h3⟩ := h j u hu
  exact ⟨b, h1, by omega, by rw [World.cell?_of_block (w := w) (a := b.add j) (by rw [add_block]; exact hb b h1)]; exact h3⟩
theorem LiesAt.below {w w' : World} {a : Option Addr} {cs : List Value} (h : LiesAt w a cs) (b : Below w.heap.size w w') : LiesAt w' a cs := fun j u hu => by
  obtain ⟨b', h1, h2, h3⟩ := h j u hu
  exact ⟨b', h1, by have := b.size; omega, by rw [b.cell (by rw [add_block]; exact h2)]; exact h3⟩
theorem bel_drewN {B : Nat} {a w : World} (h : Below B a w) (n : Nat) : Below B a (w.drewN n) := ⟨h.os, h.tape, h.output, h.size, h.block⟩
theorem below_next {w w1 w2 : World} (h1 : Below w.heap.size w w1) (h2 : Below w1.heap.size w1 w2) : Below w.heap.size w w2 := h1.trans (h2.mono h1.size)
def vals (l : List Int) : List Value := l.map (Value.int .i64)
theorem vals_one {l : List Int} : ∀ u ∈ vals l, u.oneCell' = true := fun u hu => by
  obtain ⟨x, _, rfl⟩ := List.mem_map.1 hu
  rfl
theorem vals_len (l : List Int) : (vals l).length = l.length := by simp [vals]
end Go.Proofs.Ytngfijpdbjkpiaa.Bk
