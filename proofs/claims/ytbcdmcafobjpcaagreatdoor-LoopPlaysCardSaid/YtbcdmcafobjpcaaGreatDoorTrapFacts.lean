/- errors.As and errors.as at the two concrete targets that package trap uses (a pointer to a Trap, a pointer to a wrapping layer), over a chain of layers of whatever length that ends in a Trap. Conditions: the cell of errors.errorType holds the type error's handle. -/
import Derived.Test.YtbcdmcafobjpcaaGreatDoorProg
import Derived.WalkKit
import Derived.LaidEql
import Derived.Stop.Asserts
import Derived.RowKitTokens
import Derived.Deep.LoopGhost
import Derived.Below
namespace Go.Proofs.YtbcdmcafobjpcaaGreatDoor
open Go.RowKit Go.Extern.Stop Go.Stop Go.Extern

/-- WHAT A WRAPPED ERROR IS: a Trap behind as many layers as there are wheres, the outermost first. -/
def Chain (w : World) (n at_ : Int) (a : Nat) : List ByteArray → Value → Prop
  | [], v => v = .iface 91 (.pointer (some ⟨a, 0, none⟩)) ∧ w.cell? ⟨a, 0, none⟩ = some (.int .i64 n) ∧ w.cell? ⟨a, 1, none⟩ = some (.int .i64 at_)
  | s :: r, v => ∃ b u, v = .iface 127 (.pointer (some ⟨b, 0, none⟩)) ∧ w.cell? ⟨b, 0, none⟩ = some (.string s) ∧ w.cell? ⟨b, 1, none⟩ = some u ∧ Chain w n at_ a r u

theorem cell_lt {w : World} {a : Addr} {v : Value} (h : w.cell? a = some v) : a.block < w.heap.size := by
  rcases Nat.lt_or_ge a.block w.heap.size with h' | h'
  · exact h'
  · simp [World.cell?, Array.getElem?_eq_none h'] at h

theorem Chain.below {w w' : World} {n at_ : Int} {a : Nat} (hb : Below w.heap.size w w') : ∀ (l : List ByteArray) (v : Value), Chain w n at_ a l v → Chain w' n at_ a l v
  | [], _, ⟨e, c0, c1⟩ => ⟨e, by rw [hb.cell (cell_lt c0)]; exact c0, by rw [hb.cell (cell_lt c1)]; exact c1⟩
  | _ :: r, _, ⟨a, u, e, c0, c1, h⟩ => ⟨a, u, e, by rw [hb.cell (cell_lt c0)]; exact c0, by rw [hb.cell (cell_lt c1)]; exact c1, Chain.below hb r u h⟩

theorem Chain.iface {w : World} {n at_ : Int} {a : Nat} {l : List ByteArray} {v : Value} (h : Chain w n at_ a l v) : ∃ tv vv, v = .iface tv vv := by
  cases l with
  | nil => obtain ⟨rfl, _⟩ := h; exact ⟨_, _, rfl⟩
  | cons _ _ => obtain ⟨_, _, rfl, _⟩ := h; exact ⟨_, _, rfl⟩
theorem Chain.cells {w : World} {n at_ : Int} {a : Nat} : ∀ (l : List ByteArray) (v : Value), Chain w n at_ a l v → w.cell? ⟨a, 0, none⟩ = some (.int .i64 n) ∧ w.cell? ⟨a, 1, none⟩ = some (.int .i64 at_)
  | [], _, ⟨_, c0, c1⟩ => ⟨c0, c1⟩
  | _ :: r, _, ⟨_, u, _, _, _, h⟩ => Chain.cells r u h

/-- errors.As(nil, target). -/
theorem as_nil (t : Value) (w : World) :
    Calls Tryz.prog 77 #[.nilIface, t] w fun e w' => e = .returned (.bool false) ∧ w' = w := by
  go_enter Tryz.func77, Tryz.ntmps77
  go_wp2
  go_ret
  exact ⟨rfl, rfl⟩

theorem Tryz.mKind (h : Value) (w : World) : (Go.method 327 162 (.agg #[h]) "Kind").run Tryz.prog w = .ok (135, h) w := by kernel_rfl
theorem Tryz.mElem (h : Value) (w : World) : (Go.method 327 162 (.agg #[h]) "Elem").run Tryz.prog w = .ok (149, .agg #[h]) w := by kernel_rfl
theorem Tryz.mImplements (h : Value) (w : World) : (Go.method 327 162 (.agg #[h]) "Implements").run Tryz.prog w = .ok (150, .agg #[h]) w := by kernel_rfl
theorem Tryz.mAssignableTo (h : Value) (w : World) : (Go.method 327 162 (.agg #[h]) "AssignableTo").run Tryz.prog w = .ok (147, .agg #[h]) w := by kernel_rfl
theorem Tryz.mComparable (h : Value) (w : World) : (Go.method 327 162 (.agg #[h]) "Comparable").run Tryz.prog w = .ok (148, .agg #[h]) w := by kernel_rfl
theorem Tryz.mUnwrap (h : Value) (w : World) : (Go.method 327 127 h "Unwrap").run Tryz.prog w = .ok (141, h) w := by kernel_rfl

/-! ### facts on the stand-ins of reflectlite at the target T -/
theorem Tryz.valueOfPT (t : Addr) (w : World) : (ReflectliteValue.unpack (.iface 125 (.pointer (some t)))).run Tryz.prog w
    = .ok (.agg #[.pointer (some ⟨2, 125, none⟩), .pointer (some ⟨w.heap.size, 0, none⟩), .int .u64 150]) (w.alloc (.cells #[.pointer (some t)] 125)) := by kernel_rfl
theorem Tryz.typePT (a : Addr) (w : World) : (ReflectliteValue.methodAny (ReflectliteValue.valueError "reflectlite.Value.Type" 0) (fun t _ _ _ => ReflectliteType.toType t) #[.agg #[.pointer (some ⟨2, 125, none⟩), .pointer (some a), .int .u64 150]]).run Tryz.prog w
    = .ok (.iface 162 (.agg #[.pointer (some ⟨2, 125, none⟩)])) w := by kernel_rfl
theorem Tryz.kindPT (w : World) : ((ReflectliteType.abiMethod fun t => (fun a : Nat => Value.int IntKind.u8 (a : Int)) <$> Rtype.kind t) #[.pointer (some ⟨2, 125, none⟩)]).run Tryz.prog w = .ok (.int .u8 22) w := by kernel_rfl
theorem Tryz.kindET (w : World) : ((ReflectliteType.abiMethod fun t => (fun a : Nat => Value.int IntKind.u8 (a : Int)) <$> Rtype.kind t) #[.pointer (some ⟨2, 91, none⟩)]).run Tryz.prog w = .ok (.int .u8 22) w := by kernel_rfl
theorem Tryz.partsPT (a : Addr) (w : World) : (ReflectliteValue.parts (.agg #[.pointer (some ⟨2, 125, none⟩), .pointer (some a), .int .u64 150])).run Tryz.prog w = .ok (some (125, a, 150)) w := by kernel_rfl
theorem Tryz.elemPT (w : World) : (ReflectliteType.method ReflectliteType.elem #[.agg #[.pointer (some ⟨2, 125, none⟩)]]).run Tryz.prog w = .ok (.iface 162 (.agg #[.pointer (some ⟨2, 91, none⟩)])) w := by kernel_rfl
theorem Tryz.implementsET (w : World) : (ReflectliteType.relation "Implements" ReflectliteType.implements_ #[.agg #[.pointer (some ⟨2, 91, none⟩)], .iface 162 (.agg #[.pointer (some ⟨2, 66, none⟩)])]).run Tryz.prog w = .ok (.bool true) w := by kernel_rfl
theorem Tryz.typeOfET (v : Value) (w : World) : (ReflectliteType.typeOf #[.iface 91 v]).run Tryz.prog w = .ok (.iface 162 (.agg #[.pointer (some ⟨2, 91, none⟩)])) w := by kernel_rfl
theorem Tryz.assignableT (w : World) : (ReflectliteType.relation "AssignableTo" ReflectliteType.assignableTo #[.agg #[.pointer (some ⟨2, 91, none⟩)], .iface 162 (.agg #[.pointer (some ⟨2, 91, none⟩)])]).run Tryz.prog w = .ok (.bool true) w := by kernel_rfl
theorem Tryz.valueOfET (e : Addr) (w : World) : (ReflectliteValue.unpack (.iface 91 (.pointer (some e)))).run Tryz.prog w
    = .ok (.agg #[.pointer (some ⟨2, 91, none⟩), .pointer (some ⟨w.heap.size, 0, none⟩), .int .u64 150]) (w.alloc (.cells #[.pointer (some e)] 91)) := by kernel_rfl
theorem Tryz.elemOfT (w : World) : (Rtype.elem? 125).run Tryz.prog w = .ok (some 91) w := by kernel_rfl
theorem Tryz.mkT (p : Addr) (w : World) : (ReflectliteValue.mk 91 p ReflectliteValue.flagAddr).run Tryz.prog w = .ok (.agg #[.pointer (some ⟨2, 91, none⟩), .pointer (some p), .int .u64 406]) w := by kernel_rfl
theorem Tryz.partsAT (a : Addr) (w : World) : (ReflectliteValue.parts (.agg #[.pointer (some ⟨2, 91, none⟩), .pointer (some a), .int .u64 406])).run Tryz.prog w = .ok (some (91, a, 406)) w := by kernel_rfl
theorem Tryz.partsET (a : Addr) (w : World) : (ReflectliteValue.parts (.agg #[.pointer (some ⟨2, 91, none⟩), .pointer (some a), .int .u64 150])).run Tryz.prog w = .ok (some (91, a, 150)) w := by kernel_rfl
theorem Tryz.directT (w : World) : (Rtype.directlyAssignable 91 91).run Tryz.prog w = .ok true w := by kernel_rfl
theorem Tryz.noAsT (v : Value) (xT : TypeId) (w : World) : (Instr.typeAssert (.iface 91 v) xT 166 true).run Tryz.prog w = .ok (.tuple #[.nilIface, .bool false]) w := run_typeAssert_lacksB Tryz.underlying166 (by kernel_rfl) (by kernel_rfl) v xT w
theorem Tryz.noIsT (v : Value) (xT : TypeId) (w : World) : (Instr.typeAssert (.iface 91 v) xT 180 true).run Tryz.prog w = .ok (.tuple #[.nilIface, .bool false]) w := run_typeAssert_lacksB Tryz.underlying180 (by kernel_rfl) (by kernel_rfl) v xT w
theorem Tryz.noUnwrapsT (v : Value) (xT : TypeId) (w : World) : (Instr.typeAssert (.iface 91 v) xT 171 true).run Tryz.prog w = .ok (.tuple #[.nilIface, .bool false]) w := run_typeAssert_lacksB Tryz.underlying171 (by kernel_rfl) (by kernel_rfl) v xT w
theorem Tryz.isNilPT (a p : Addr) (W : World) (ha : W.cell? a = some (.pointer (some p))) :
    (ReflectliteValue.method (ReflectliteValue.valueError "reflectlite.Value.IsNil" 0) ReflectliteValue.isNil #[.agg #[.pointer (some ⟨2, 125, none⟩), .pointer (some a), .int .u64 150]]).run Tryz.prog W = .ok (.bool false) W := by
  rw [show ∀ z f v, ReflectliteValue.method z f #[v] = (ReflectliteValue.parts v >>= _) from fun _ _ _ => rfl]
  simp only [Sem.run_bind, Tryz.partsPT, Result.andThen]
  simp [ReflectliteValue.isNil, loadVar, isAgg, underlying, Tryz.underlying125, ha, Result.andThen]
theorem Tryz.elemVT (a p : Addr) (W : World) (ha : W.cell? a = some (.pointer (some p))) :
    (ReflectliteValue.method (ReflectliteValue.valueError "reflectlite.Value.Elem" 0) ReflectliteValue.elem #[.agg #[.pointer (some ⟨2, 125, none⟩), .pointer (some a), .int .u64 150]]).run Tryz.prog W
      = .ok (.agg #[.pointer (some ⟨2, 91, none⟩), .pointer (some p), .int .u64 406]) W := by
  rw [show ∀ z f v, ReflectliteValue.method z f #[v] = (ReflectliteValue.parts v >>= _) from fun _ _ _ => rfl]
  simp only [Sem.run_bind, Tryz.partsPT, Result.andThen]
  simp [ReflectliteValue.elem, loadVar, isAgg, underlying, Tryz.underlying125, ha, Result.andThen, Tryz.elemOfT, Tryz.mkT]
theorem Tryz.setT (ta b e : Addr) (old : Value) (W : World) (hb : W.cell? b = some (.pointer (some e))) (ht : W.cell? ta = some old) (hf : W.frozen? ta = false) :
    (ReflectliteValue.set #[.agg #[.pointer (some ⟨2, 91, none⟩), .pointer (some ta), .int .u64 406], .agg #[.pointer (some ⟨2, 91, none⟩), .pointer (some b), .int .u64 150]]).run Tryz.prog W
      = .ok (.tuple #[]) (W.setCell ta (.pointer (some e))) := by
  rw [show ∀ v x, ReflectliteValue.set #[v, x] = (ReflectliteValue.parts v >>= fun p => ReflectliteValue.parts x >>= _) from fun _ _ => rfl]
  simp only [Sem.run_bind, Tryz.partsAT, Tryz.partsET, Result.andThen]
  simp [ReflectliteValue.flagAddr, loadVar, isAgg, underlying, Tryz.underlying91, hb, Result.andThen, Tryz.directT, storeVar, Value.cells, storeCells, Addr.add]
  rw [run_store Tryz.prog W ta _ _ (by rfl)]
  simp [ht, hf]
/-! ### facts on the stand-ins of reflectlite at the target L -/
theorem Tryz.kindEL (w : World) : ((ReflectliteType.abiMethod fun t => (fun a : Nat => Value.int IntKind.u8 (a : Int)) <$> Rtype.kind t) #[.pointer (some ⟨2, 127, none⟩)]).run Tryz.prog w = .ok (.int .u8 22) w := by kernel_rfl
theorem Tryz.implementsEL (w : World) : (ReflectliteType.relation "Implements" ReflectliteType.implements_ #[.agg #[.pointer (some ⟨2, 127, none⟩)], .iface 162 (.agg #[.pointer (some ⟨2, 66, none⟩)])]).run Tryz.prog w = .ok (.bool true) w := by kernel_rfl
theorem Tryz.typeOfEL (v : Value) (w : World) : (ReflectliteType.typeOf #[.iface 127 v]).run Tryz.prog w = .ok (.iface 162 (.agg #[.pointer (some ⟨2, 127, none⟩)])) w := by kernel_rfl
theorem Tryz.assignableL (w : World) : (ReflectliteType.relation "AssignableTo" ReflectliteType.assignableTo #[.agg #[.pointer (some ⟨2, 127, none⟩)], .iface 162 (.agg #[.pointer (some ⟨2, 127, none⟩)])]).run Tryz.prog w = .ok (.bool true) w := by kernel_rfl
theorem Tryz.valueOfEL (e : Addr) (w : World) : (ReflectliteValue.unpack (.iface 127 (.pointer (some e)))).run Tryz.prog w
    = .ok (.agg #[.pointer (some ⟨2, 127, none⟩), .pointer (some ⟨w.heap.size, 0, none⟩), .int .u64 150]) (w.alloc (.cells #[.pointer (some e)] 127)) := by kernel_rfl
theorem Tryz.mkL (p : Addr) (w : World) : (ReflectliteValue.mk 127 p ReflectliteValue.flagAddr).run Tryz.prog w = .ok (.agg #[.pointer (some ⟨2, 127, none⟩), .pointer (some p), .int .u64 406]) w := by kernel_rfl
theorem Tryz.partsAL (a : Addr) (w : World) : (ReflectliteValue.parts (.agg #[.pointer (some ⟨2, 127, none⟩), .pointer (some a), .int .u64 406])).run Tryz.prog w = .ok (some (127, a, 406)) w := by kernel_rfl
theorem Tryz.partsEL (a : Addr) (w : World) : (ReflectliteValue.parts (.agg #[.pointer (some ⟨2, 127, none⟩), .pointer (some a), .int .u64 150])).run Tryz.prog w = .ok (some (127, a, 150)) w := by kernel_rfl
theorem Tryz.directL (w : World) : (Rtype.directlyAssignable 127 127).run Tryz.prog w = .ok true w := by kernel_rfl
theorem Tryz.noAsL (v : Value) (xT : TypeId) (w : World) : (Instr.typeAssert (.iface 127 v) xT 166 true).run Tryz.prog w = .ok (.tuple #[.nilIface, .bool false]) w := run_typeAssert_lacksB Tryz.underlying166 (by kernel_rfl) (by kernel_rfl) v xT w
theorem Tryz.noIsL (v : Value) (xT : TypeId) (w : World) : (Instr.typeAssert (.iface 127 v) xT 180 true).run Tryz.prog w = .ok (.tuple #[.nilIface, .bool false]) w := run_typeAssert_lacksB Tryz.underlying180 (by kernel_rfl) (by kernel_rfl) v xT w
theorem Tryz.noUnwrapsL (v : Value) (xT : TypeId) (w : World) : (Instr.typeAssert (.iface 127 v) xT 171 true).run Tryz.prog w = .ok (.tuple #[.nilIface, .bool false]) w := run_typeAssert_lacksB Tryz.underlying171 (by kernel_rfl) (by kernel_rfl) v xT w
theorem Tryz.setL (ta b e : Addr) (old : Value) (W : World) (hb : W.cell? b = some (.pointer (some e))) (ht : W.cell? ta = some old) (hf : W.frozen? ta = false) :
    (ReflectliteValue.set #[.agg #[.pointer (some ⟨2, 127, none⟩), .pointer (some ta), .int .u64 406], .agg #[.pointer (some ⟨2, 127, none⟩), .pointer (some b), .int .u64 150]]).run Tryz.prog W
      = .ok (.tuple #[]) (W.setCell ta (.pointer (some e))) := by
  rw [show ∀ v x, ReflectliteValue.set #[v, x] = (ReflectliteValue.parts v >>= fun p => ReflectliteValue.parts x >>= _) from fun _ _ => rfl]
  simp only [Sem.run_bind, Tryz.partsAL, Tryz.partsEL, Result.andThen]
  simp [ReflectliteValue.flagAddr, loadVar, isAgg, underlying, Tryz.underlying127, hb, Result.andThen, Tryz.directL, storeVar, Value.cells, storeCells, Addr.add]
  rw [run_store Tryz.prog W ta _ _ (by rfl)]
  simp [ht, hf]
theorem Tryz.noUnwrapT (v : Value) (xT : TypeId) (w : World) : (Instr.typeAssert (.iface 91 v) xT 169 true).run Tryz.prog w = .ok (.tuple #[.nilIface, .bool false]) w := run_typeAssert_lacksB Tryz.underlying169 (by kernel_rfl) (by kernel_rfl) v xT w
theorem Tryz.hasUnwrapL (v : Value) (xT : TypeId) (w : World) : (Instr.typeAssert (.iface 127 v) xT 169 true).run Tryz.prog w = .ok (.tuple #[.iface 127 v, .bool true]) w := run_typeAssert_hasB Tryz.underlying169 (by kernel_rfl) v xT w
theorem Tryz.assignableTL (w : World) : (ReflectliteType.relation "AssignableTo" ReflectliteType.assignableTo #[.agg #[.pointer (some ⟨2, 91, none⟩)], .iface 162 (.agg #[.pointer (some ⟨2, 127, none⟩)])]).run Tryz.prog w = .ok (.bool false) w := by kernel_rfl
theorem Tryz.assignableLT (w : World) : (ReflectliteType.relation "AssignableTo" ReflectliteType.assignableTo #[.agg #[.pointer (some ⟨2, 127, none⟩)], .iface 162 (.agg #[.pointer (some ⟨2, 91, none⟩)])]).run Tryz.prog w = .ok (.bool false) w := by kernel_rfl
end Go.Proofs.YtbcdmcafobjpcaaGreatDoor
