/- A waiting write as a row of cells: built, loaded, stored whole; a slice of one of them. Rules for the walk. -/
import Derived.Test.YtbcdmcafobjpcaaGreatDoorSecPush
import Derived.Deep.RegionHeld3
import Derived.Deep.RegionHeldLaw
import Derived.OwnWalk
namespace Go.Proofs.YtbcdmcafobjpcaaGreatDoor.Sec
open Go.RowKit

theorem writeInfo : (Tryz.prog.info? 77).map (fun i => (i.zero, i.size, i.bytes)) = some (some (.agg (#[.int .i64 0] ++ Array.replicate 32 (.int .u8 0))), 33, 40) := by kernel_rfl
theorem writeSize : (Tryz.prog.info? 77).map (·.size) = some 33 := by kernel_rfl
theorem list32 {l : List Value} (h : l.length = 32) : ∃ a0 a1 a2 a3 a4 a5 a6 a7 a8 a9 b0 b1 b2 b3 b4 b5 b6 b7 b8 b9 c0 c1 c2 c3 c4 c5 c6 c7 c8 c9 d0 d1,
    l = [a0, a1, a2, a3, a4, a5, a6, a7, a8, a9, b0, b1, b2, b3, b4, b5, b6, b7, b8, b9, c0, c1, c2, c3, c4, c5, c6, c7, c8, c9, d0, d1] := by
  match l, h with
  | [a0, a1, a2, a3, a4, a5, a6, a7, a8, a9, b0, b1, b2, b3, b4, b5, b6, b7, b8, b9, c0, c1, c2, c3, c4, c5, c6, c7, c8, c9, d0, d1], _ => exact ⟨_, _, _, _, _, _, _, _, _, _, _, _, _, _, _, _, _, _, _, _, _, _, _, _, _, _, _, _, _, _, _, _, rfl⟩
/-- A waiting write as an array. -/
def warr (v : Value) (l : List Value) : Array Value := (v :: l).toArray
theorem warr_size (v : Value) (l : List Value) : (warr v l).size = l.length + 1 := by simp [warr]
theorem warr_list (v : Value) (l : List Value) : (warr v l).toList = v :: l := by simp [warr]
theorem build_write (i : Int) (l : List Value) (hl : l.length = 32) (w : World) :
    (Instr.build 77 #[(0, .int .i64 i), (1, .agg l.toArray)]).run Tryz.prog w = .ok (.agg (warr (.int .i64 i) l)) w := by
  obtain ⟨a0, a1, a2, a3, a4, a5, a6, a7, a8, a9, b0, b1, b2, b3, b4, b5, b6, b7, b8, b9, c0, c1, c2, c3, c4, c5, c6, c7, c8, c9, d0, d1, rfl⟩ := list32 hl
  kernel_rfl

theorem buildSlice_write (i : Int) (l : List Value) (hl : l.length = 32) (w : World) :
    (Instr.buildSlice 57 1 #[(0, .agg (warr (.int .i64 i) l))]).run Tryz.prog w = .ok (.slice (some ⟨w.heap.size, 0, none⟩) 1 1) (w.alloc (.cells (warr (.int .i64 i) l) 77)) := by
  obtain ⟨a0, a1, a2, a3, a4, a5, a6, a7, a8, a9, b0, b1, b2, b3, b4, b5, b6, b7, b8, b9, c0, c1, c2, c3, c4, c5, c6, c7, c8, c9, d0, d1, rfl⟩ := list32 hl
  kernel_rfl

/-- The write is built. -/
theorem wpList_build_write {ops : Array Oper} {rest : List Oper} {op : Oper} {a : Act} {w : World} {Q : Exit → Act → World → Prop} (hgd : op.guard = none) (x y : Operand) (ho : op.op = .build 77 #[(0, x), (1, y)])
    (i : Int) (l : List Value) (hx : a.eval x = .int .i64 i) (hy : a.eval y = .agg l.toArray) (hl : l.length = 32)
    (h : wpList Tryz.prog ops Q rest (a.put op.dst (.agg (warr (.int .i64 i) l))) w) : wpList Tryz.prog ops Q (op :: rest) a w :=
  wpList_plain hgd fun _ hK => by
    have hr := build_write i l hl w
    unfold Oper.wp execOp
    simp [ho, hx, hy, Sem.run_bind, Sem.run_pure, Result.andThen_ok, hr]
    exact hK _ _ h

/-- A whole value into a variable that was just made. -/
theorem wpList_store_new {P : Program} {ops : Array Oper} {rest : List Oper} {op : Oper} {a : Act} {w : World} {Q : Exit → Act → World → Prop} (hgd : op.guard = none) (ty : TypeId) (x y : Operand) (ho : op.op = .store ty x y)
    (C c' : Array Value) (hx : a.eval x = .pointer (some ⟨w.heap.size, 0, none⟩)) (hy : a.eval y = .agg c') (hi : (P.info? ty).map (·.size) = some c'.size) (hs : C.size = c'.size) (h1 : c'.all (·.oneCell') = true)
    (h : wpList P ops Q rest (a.put op.dst undef) (w.alloc (.cells c' ty))) : wpList P ops Q (op :: rest) a (w.alloc (.cells C ty)) :=
  wpList_plain hgd fun _ hK => by
    have hr := run_storeVar_new (P := P) w ty C c' hi hs h1
    unfold Oper.wp execOp
    simp only [ho, hx, hy, Instr.storeAt, Instr.sureAddr, Sem.run_bind, Sem.run_pure, Result.andThen_ok, hr]
    exact hK _ _ h

/-- A row of n cells behind a pointer, and what it holds: so that the walk's simp loads it whole. -/
def isRow (u : World) (v : Value) (n : Nat) : Prop := ∃ b o cs, v = .pointer (some ⟨b, o, none⟩) ∧ u.rangeAt b o cs ∧ cs.length = n
def rowAt (u : World) (v : Value) (n : Nat) : List Value := match v with
  | .pointer (some a) => (List.range n).map fun j => (u.cell? ⟨a.block, a.off + j, none⟩).getD undef
  | _ => []
theorem rowAt_eq {u : World} {b o n : Nat} {cs : List Value} (h : u.rangeAt b o cs) (hl : cs.length = n) : rowAt u (.pointer (some ⟨b, o, none⟩)) n = cs := by
  subst hl
  refine List.ext_getElem (by simp [rowAt]) fun j h1 h2 => ?_
  have := h j cs[j] (List.getElem?_eq_getElem h2)
  simp [rowAt, this]
theorem load_write {dst : Option Tmp} {tt : TypeId} {pos : String} {after : Array Edge} {guard : Option (Nat × Bool)} {x : Operand} {f : Operand → Value} {u : World} (h : isRow u (f x) 33) :
    (execOp f ⟨dst, .load 77 x, tt, pos, after, guard⟩).run Tryz.prog u = .ok (.value (.agg (rowAt u (f x) 33).toArray)) u := by
  obtain ⟨b, o, cs, hx, hr, hl⟩ := h
  unfold execOp
  simp only [hx, rowAt_eq hr hl, Instr.loadAt, Instr.sureAddr, Sem.run_bind, Sem.run_pure, Result.andThen_ok, run_loadVar_mid (P := Tryz.prog) _ _ _ _ _ _ hr Tryz.underlying77 rfl (by rw [hl]; exact writeSize)]

/-- An element of a slice literal, whole. -/
def isAgg (v : Value) (n : Nat) : Prop := ∃ A, v = .agg A ∧ A.size = n
theorem buildSlice_cons (v : Value) (l : List Value) (hl : l.length = 32) (w : World) :
    (Instr.buildSlice 57 1 #[(0, .agg (v :: l).toArray)]).run Tryz.prog w = .ok (.slice (some ⟨w.heap.size, 0, none⟩) 1 1) (w.alloc (.cells (v :: l).toArray 77)) := by
  obtain ⟨a0, a1, a2, a3, a4, a5, a6, a7, a8, a9, b0, b1, b2, b3, b4, b5, b6, b7, b8, b9, c0, c1, c2, c3, c4, c5, c6, c7, c8, c9, d0, d1, rfl⟩ := list32 hl
  kernel_rfl
theorem buildSlice_any (A : Array Value) (hA : A.size = 33) (w : World) :
    (Instr.buildSlice 57 1 #[(0, .agg A)]).run Tryz.prog w = .ok (.slice (some ⟨w.heap.size, 0, none⟩) 1 1) (w.alloc (.cells A 77)) := by
  obtain ⟨l⟩ := A
  match l, hA with
  | v :: r, h => exact buildSlice_cons v r (by simpa using h) w
theorem buildSlice_op {dst : Option Tmp} {tt : TypeId} {pos : String} {after : Array Edge} {guard : Option (Nat × Bool)} {x : Operand} {f : Operand → Value} {u : World} (h : isAgg (f x) 33) :
    (execOp f ⟨dst, .buildSlice 57 1 #[(0, x)], tt, pos, after, guard⟩).run Tryz.prog u = .ok (.value (.slice (some ⟨u.heap.size, 0, none⟩) 1 1)) (u.alloc (.cells (f x).cells 77)) := by
  obtain ⟨A, hx, hA⟩ := h
  have := buildSlice_any A hA u
  unfold execOp
  simp [hx, Sem.run_bind, Sem.run_pure, Result.andThen_ok, this, Value.cells]

/-- A write that waits, where it lies. -/
theorem flat_at {l : List (Nat × ByteArray)} (hl : ∀ x ∈ l, x.2.size = 32) : ∀ {k : Nat} {x : Nat × ByteArray}, l[k]? = some x → ∀ j v, (wcells x)[j]? = some v → (l.flatMap wcells)[k * 33 + j]? = some v := by
  induction l with
  | nil => intro k x hx; simp at hx
  | cons a r ih =>
    intro k x hx j v hv
    have ha : (wcells a).length = 33 := by rw [wcells_len, hl a (by simp)]
    cases k with
    | zero =>
      obtain rfl : a = x := by simpa using hx
      rw [List.flatMap_cons, Nat.zero_mul, Nat.zero_add, List.getElem?_append_left (List.getElem?_eq_some_iff.1 hv).1]
      exact hv
    | succ k =>
      rw [List.flatMap_cons, List.getElem?_append_right (by rw [ha]; omega), ha, show (k + 1) * 33 + j - 33 = k * 33 + j by omega]
      exact ih (fun x hx => hl x (by simp [hx])) (by simpa using hx) j v hv
theorem IsD.wait_at {w : World} {y : Lay} {D : Dsk} (h : IsD w y D) {k : Nat} {x : Nat × ByteArray} (hx : D.waits[k]? = some x) :
    y.wa = some ⟨y.W, 0, none⟩ ∧ w.rangeAt y.W (k * 33) (wcells x) := by
  have hk : k < D.waits.length := (List.getElem?_eq_some_iff.1 hx).1
  have o := h.bod.oW
  have hwa : y.wa = some ⟨y.W, 0, none⟩ := by
    rcases h.shp.waE with q | q
    · obtain ⟨g, cap, hv, _, _⟩ := o.form (by omega)
      rw [q] at hv
      simp at hv
    · exact q
  refine ⟨hwa, fun j v hv => ?_⟩
  rw [hwa] at o
  have hxs : x.2.size = 32 := (h.shp.blkW x (List.mem_of_getElem? hx)).1
  have hj : j < 33 := by have := (List.getElem?_eq_some_iff.1 hv).1; rw [wcells_len, hxs] at this; exact this
  rw [o.cellAt (k * 33 + j) (by have := Nat.mul_le_mul_right 33 (show k + 1 ≤ D.waits.length from hk); omega)]
  exact flat_at (fun x hx => (h.shp.blkW x hx).1) hx j v hv
end Go.Proofs.YtbcdmcafobjpcaaGreatDoor.Sec
