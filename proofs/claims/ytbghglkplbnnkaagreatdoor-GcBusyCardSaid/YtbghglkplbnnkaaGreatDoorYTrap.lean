import Derived.Test.YtbghglkplbnnkaaGreatDoorProg
import Derived.WalkKit
import Derived.LaidEql
import Derived.Stop.Asserts
import Derived.RowKitTokens
import Derived.Deep.LoopGhost
import Derived.Below
import Derived.Defers
import Derived.Recover
import Derived.Handy
set_option linter.unusedVariables false
set_option linter.unusedSimpArgs false
-- TrapFacts
namespace Go.Proofs.YtbghglkplbnnkaaGreatDoor
open Go.RowKit Go.Extern.Stop Go.Stop Go.Extern

def Chain (w : World) (n at_ : Int) (a : Nat) : List ByteArray → Value → Prop
  | [], v => v = .iface 108 (.pointer (some ⟨a, 0, none⟩)) ∧ w.cell? ⟨a, 0, none⟩ = some (.int .i64 n) ∧ w.cell? ⟨a, 1, none⟩ = some (.int .i64 at_)
  | s :: r, v => ∃ b u, v = .iface 135 (.pointer (some ⟨b, 0, none⟩)) ∧ w.cell? ⟨b, 0, none⟩ = some (.string s) ∧ w.cell? ⟨b, 1, none⟩ = some u ∧ Chain w n at_ a r u

theorem cell_lt {w : World} {a : Addr} {v : Value} (h : w.cell? a = some v) : a.block < w.heap.size := by
  rcases Nat.lt_or_ge a.block w.heap.size with h' | h'
  · exact h'
  · simp [World.cell?, Array.getElem?_eq_none h'] at h

theorem Chain.below {w w' : World} {n at_ : Int} {a : Nat} (hb : Below w.heap.size w w') : ∀ (l : List ByteArray) (v : Value), Chain w n at_ a l v → Chain w' n at_ a l v
  | [], _, ⟨e, c0, c1⟩ => ⟨e, by rw [hb.cell (cell_lt c0)]; exact c0, by rw [hb.cell (cell_lt c1)]; exact c1⟩
  | _ :: r, _, ⟨a, u, e, c0, c1, h⟩ => ⟨a, u, e, by rw [hb.cell (cell_lt c0)]; exact c0, by rw [hb.cell (cell_lt c1)]; exact c1, Chain.below hb r u h⟩

theorem Chain.iface {w : World} {n at_ : Int} {a : Nat} {l : List ByteArray} {v : Value} (h : Chain w n at_ a l v) : ∃ tv vv, v = .iface tv vv := by
  cases l with
  | nil => obtain ⟨rfl, _⟩ := h; exact ⟨_, _, rfl⟩
  | cons _ _ => obtain ⟨_, _, rfl, _⟩ := h; exact ⟨_, _, rfl⟩
theorem Chain.cells {w : World} {n at_ : Int} {a : Nat} : ∀ (l : List ByteArray) (v : Value), Chain w n at_ a l v → w.cell? ⟨a, 0, none⟩ = some (.int .i64 n) ∧ w.cell? ⟨a, 1, none⟩ = some (.int .i64 at_)
  | [], _, ⟨_, c0, c1⟩ => ⟨c0, c1⟩
  | _ :: r, _, ⟨_, u, _, _, _, h⟩ => Chain.cells r u h

theorem as_nil (t : Value) (w : World) :
    Calls Tryz.prog 93 #[.nilIface, t] w fun e w' => e = .returned (.bool false) ∧ w' = w := by
  go_enter Tryz.func93, Tryz.ntmps93
  go_wp2
  go_ret
  exact ⟨rfl, rfl⟩

theorem Tryz.mKind (h : Value) (w : World) : (Go.method 416 205 (.agg #[h]) "Kind").run Tryz.prog w = .ok (213, h) w := by kernel_rfl
theorem Tryz.mElem (h : Value) (w : World) : (Go.method 416 205 (.agg #[h]) "Elem").run Tryz.prog w = .ok (229, .agg #[h]) w := by kernel_rfl
theorem Tryz.mImplements (h : Value) (w : World) : (Go.method 416 205 (.agg #[h]) "Implements").run Tryz.prog w = .ok (230, .agg #[h]) w := by kernel_rfl
theorem Tryz.mAssignableTo (h : Value) (w : World) : (Go.method 416 205 (.agg #[h]) "AssignableTo").run Tryz.prog w = .ok (227, .agg #[h]) w := by kernel_rfl
theorem Tryz.mComparable (h : Value) (w : World) : (Go.method 416 205 (.agg #[h]) "Comparable").run Tryz.prog w = .ok (228, .agg #[h]) w := by kernel_rfl
theorem Tryz.mUnwrap (h : Value) (w : World) : (Go.method 416 135 h "Unwrap").run Tryz.prog w = .ok (221, h) w := by kernel_rfl

theorem Tryz.valueOfPT (t : Addr) (w : World) : (ReflectliteValue.unpack (.iface 140 (.pointer (some t)))).run Tryz.prog w
    = .ok (.agg #[.pointer (some ⟨2, 140, none⟩), .pointer (some ⟨w.heap.size, 0, none⟩), .int .u64 150]) (w.alloc (.cells #[.pointer (some t)] 140)) := by kernel_rfl
theorem Tryz.typePT (a : Addr) (w : World) : (ReflectliteValue.methodAny (ReflectliteValue.valueError "reflectlite.Value.Type" 0) (fun t _ _ _ => ReflectliteType.toType t) #[.agg #[.pointer (some ⟨2, 140, none⟩), .pointer (some a), .int .u64 150]]).run Tryz.prog w
    = .ok (.iface 205 (.agg #[.pointer (some ⟨2, 140, none⟩)])) w := by kernel_rfl
theorem Tryz.kindPT (w : World) : ((ReflectliteType.abiMethod fun t => (fun a : Nat => Value.int IntKind.u8 (a : Int)) <$> Rtype.kind t) #[.pointer (some ⟨2, 140, none⟩)]).run Tryz.prog w = .ok (.int .u8 22) w := by kernel_rfl
theorem Tryz.kindET (w : World) : ((ReflectliteType.abiMethod fun t => (fun a : Nat => Value.int IntKind.u8 (a : Int)) <$> Rtype.kind t) #[.pointer (some ⟨2, 108, none⟩)]).run Tryz.prog w = .ok (.int .u8 22) w := by kernel_rfl
theorem Tryz.partsPT (a : Addr) (w : World) : (ReflectliteValue.parts (.agg #[.pointer (some ⟨2, 140, none⟩), .pointer (some a), .int .u64 150])).run Tryz.prog w = .ok (some (140, a, 150)) w := by kernel_rfl
theorem Tryz.elemPT (w : World) : (ReflectliteType.method ReflectliteType.elem #[.agg #[.pointer (some ⟨2, 140, none⟩)]]).run Tryz.prog w = .ok (.iface 205 (.agg #[.pointer (some ⟨2, 108, none⟩)])) w := by kernel_rfl
theorem Tryz.implementsET (w : World) : (ReflectliteType.relation "Implements" ReflectliteType.implements_ #[.agg #[.pointer (some ⟨2, 108, none⟩)], .iface 205 (.agg #[.pointer (some ⟨2, 68, none⟩)])]).run Tryz.prog w = .ok (.bool true) w := by kernel_rfl
theorem Tryz.typeOfET (v : Value) (w : World) : (ReflectliteType.typeOf #[.iface 108 v]).run Tryz.prog w = .ok (.iface 205 (.agg #[.pointer (some ⟨2, 108, none⟩)])) w := by kernel_rfl
theorem Tryz.assignableT (w : World) : (ReflectliteType.relation "AssignableTo" ReflectliteType.assignableTo #[.agg #[.pointer (some ⟨2, 108, none⟩)], .iface 205 (.agg #[.pointer (some ⟨2, 108, none⟩)])]).run Tryz.prog w = .ok (.bool true) w := by kernel_rfl
theorem Tryz.valueOfET (e : Addr) (w : World) : (ReflectliteValue.unpack (.iface 108 (.pointer (some e)))).run Tryz.prog w
    = .ok (.agg #[.pointer (some ⟨2, 108, none⟩), .pointer (some ⟨w.heap.size, 0, none⟩), .int .u64 150]) (w.alloc (.cells #[.pointer (some e)] 108)) := by kernel_rfl
theorem Tryz.elemOfT (w : World) : (Rtype.elem? 140).run Tryz.prog w = .ok (some 108) w := by kernel_rfl
theorem Tryz.mkT (p : Addr) (w : World) : (ReflectliteValue.mk 108 p ReflectliteValue.flagAddr).run Tryz.prog w = .ok (.agg #[.pointer (some ⟨2, 108, none⟩), .pointer (some p), .int .u64 406]) w := by kernel_rfl
theorem Tryz.partsAT (a : Addr) (w : World) : (ReflectliteValue.parts (.agg #[.pointer (some ⟨2, 108, none⟩), .pointer (some a), .int .u64 406])).run Tryz.prog w = .ok (some (108, a, 406)) w := by kernel_rfl
theorem Tryz.partsET (a : Addr) (w : World) : (ReflectliteValue.parts (.agg #[.pointer (some ⟨2, 108, none⟩), .pointer (some a), .int .u64 150])).run Tryz.prog w = .ok (some (108, a, 150)) w := by kernel_rfl
theorem Tryz.directT (w : World) : (Rtype.directlyAssignable 108 108).run Tryz.prog w = .ok true w := by kernel_rfl
theorem Tryz.noAsT (v : Value) (xT : TypeId) (w : World) : (Instr.typeAssert (.iface 108 v) xT 210 true).run Tryz.prog w = .ok (.tuple #[.nilIface, .bool false]) w := run_typeAssert_lacksB Tryz.underlying210 (by kernel_rfl) (by kernel_rfl) v xT w
theorem Tryz.isNilPT (a p : Addr) (W : World) (ha : W.cell? a = some (.pointer (some p))) :
    (ReflectliteValue.method (ReflectliteValue.valueError "reflectlite.Value.IsNil" 0) ReflectliteValue.isNil #[.agg #[.pointer (some ⟨2, 140, none⟩), .pointer (some a), .int .u64 150]]).run Tryz.prog W = .ok (.bool false) W := by
  rw [show ∀ z f v, ReflectliteValue.method z f #[v] = (ReflectliteValue.parts v >>= _) from fun _ _ _ => rfl]
  simp only [Sem.run_bind, Tryz.partsPT, Result.andThen]
  simp [ReflectliteValue.isNil, loadVar, isAgg, underlying, Tryz.underlying140, ha, Result.andThen]
theorem Tryz.elemVT (a p : Addr) (W : World) (ha : W.cell? a = some (.pointer (some p))) :
    (ReflectliteValue.method (ReflectliteValue.valueError "reflectlite.Value.Elem" 0) ReflectliteValue.elem #[.agg #[.pointer (some ⟨2, 140, none⟩), .pointer (some a), .int .u64 150]]).run Tryz.prog W
      = .ok (.agg #[.pointer (some ⟨2, 108, none⟩), .pointer (some p), .int .u64 406]) W := by
  rw [show ∀ z f v, ReflectliteValue.method z f #[v] = (ReflectliteValue.parts v >>= _) from fun _ _ _ => rfl]
  simp only [Sem.run_bind, Tryz.partsPT, Result.andThen]
  simp [ReflectliteValue.elem, loadVar, isAgg, underlying, Tryz.underlying140, ha, Result.andThen, Tryz.elemOfT, Tryz.mkT]
theorem Tryz.setT (ta b e : Addr) (old : Value) (W : World) (hb : W.cell? b = some (.pointer (some e))) (ht : W.cell? ta = some old) (hf : W.frozen? ta = false) :
    (ReflectliteValue.set #[.agg #[.pointer (some ⟨2, 108, none⟩), .pointer (some ta), .int .u64 406], .agg #[.pointer (some ⟨2, 108, none⟩), .pointer (some b), .int .u64 150]]).run Tryz.prog W
      = .ok (.tuple #[]) (W.setCell ta (.pointer (some e))) := by
  rw [show ∀ v x, ReflectliteValue.set #[v, x] = (ReflectliteValue.parts v >>= fun p => ReflectliteValue.parts x >>= _) from fun _ _ => rfl]
  simp only [Sem.run_bind, Tryz.partsAT, Tryz.partsET, Result.andThen]
  simp [ReflectliteValue.flagAddr, loadVar, isAgg, underlying, Tryz.underlying108, hb, Result.andThen, Tryz.directT, storeVar, Value.cells, storeCells, Addr.add]
  rw [run_store Tryz.prog W ta _ _ (by rfl)]
  simp [ht, hf]
theorem Tryz.typeOfEL (v : Value) (w : World) : (ReflectliteType.typeOf #[.iface 135 v]).run Tryz.prog w = .ok (.iface 205 (.agg #[.pointer (some ⟨2, 135, none⟩)])) w := by kernel_rfl
theorem Tryz.noAsL (v : Value) (xT : TypeId) (w : World) : (Instr.typeAssert (.iface 135 v) xT 210 true).run Tryz.prog w = .ok (.tuple #[.nilIface, .bool false]) w := run_typeAssert_lacksB Tryz.underlying210 (by kernel_rfl) (by kernel_rfl) v xT w
theorem Tryz.noUnwrapT (v : Value) (xT : TypeId) (w : World) : (Instr.typeAssert (.iface 108 v) xT 213 true).run Tryz.prog w = .ok (.tuple #[.nilIface, .bool false]) w := run_typeAssert_lacksB Tryz.underlying213 (by kernel_rfl) (by kernel_rfl) v xT w
theorem Tryz.hasUnwrapL (v : Value) (xT : TypeId) (w : World) : (Instr.typeAssert (.iface 135 v) xT 213 true).run Tryz.prog w = .ok (.tuple #[.iface 135 v, .bool true]) w := run_typeAssert_hasB Tryz.underlying213 (by kernel_rfl) v xT w
theorem Tryz.assignableLT (w : World) : (ReflectliteType.relation "AssignableTo" ReflectliteType.assignableTo #[.agg #[.pointer (some ⟨2, 135, none⟩)], .iface 205 (.agg #[.pointer (some ⟨2, 108, none⟩)])]).run Tryz.prog w = .ok (.bool false) w := by kernel_rfl
end Go.Proofs.YtbghglkplbnnkaaGreatDoor
-- TrapAs
namespace Go.Proofs.YtbghglkplbnnkaaGreatDoor
open Go.RowKit Go.Extern.Stop Go.Stop Go.Extern

def ErrTy (w : World) : Prop := w.cell? ⟨0, 0, none⟩ = some (.iface 205 (.agg #[.pointer (some ⟨2, 68, none⟩)]))
theorem ErrTy.below {w w' : World} (h : ErrTy w) (hb : Below w.heap.size w w') : ErrTy w' := by
  unfold ErrTy at *; rw [hb.cell (cell_lt h)]; exact h

set_option maxHeartbeats 4000000 in
set_option maxRecDepth 100000 in
theorem asT (t va : Addr) (n at_ : Int) (a : Nat) (l : List ByteArray) (v tv : Value) (old : Value) (w : World) (hc : Chain w n at_ a l v) (hva : w.cell? va = some (.pointer (some t)))
    (ht : w.cell? t = some old) (hf : w.frozen? t = false) :
    Calls Tryz.prog 115 #[v, tv, .agg #[.pointer (some ⟨2, 140, none⟩), .pointer (some va), .int .u64 150], .iface 205 (.agg #[.pointer (some ⟨2, 108, none⟩)])] w
      fun e w' => e = .returned (.bool true) ∧ w' = ((w.alloc (.cells #[.pointer (some ⟨2, 140, none⟩), .pointer (some va), .int .u64 150] 163)).alloc (.cells #[.pointer (some ⟨a, 0, none⟩)] 108)).setCell t (.pointer (some ⟨a, 0, none⟩)) := by
  have hTO := @run_callFunc_extern Tryz.prog 136 _ ReflectliteType.typeOf Tryz.func136 (by kernel_rfl) (by kernel_rfl) (by kernel_rfl) (by kernel_rfl)
  have hAT := @run_callFunc_extern Tryz.prog 227 _ (ReflectliteType.relation "AssignableTo" ReflectliteType.assignableTo) Tryz.func227 (by kernel_rfl) (by kernel_rfl) (by kernel_rfl) (by kernel_rfl)
  have hEl := @run_callFunc_extern Tryz.prog 137 _ (ReflectliteValue.method (ReflectliteValue.valueError "reflectlite.Value.Elem" 0) ReflectliteValue.elem) Tryz.func137 (by kernel_rfl) (by kernel_rfl) (by kernel_rfl) (by kernel_rfl)
  have hSe := @run_callFunc_extern Tryz.prog 138 _ ReflectliteValue.set Tryz.func138 (by kernel_rfl) (by kernel_rfl) (by kernel_rfl) (by kernel_rfl)
  have hVO := @run_callFunc_extern Tryz.prog 112 _ (fun args => ReflectliteValue.unpack (args.getD 0 (.tuple #[]))) Tryz.func112 (by kernel_rfl) (by kernel_rfl) (by kernel_rfl) (by kernel_rfl)
  have tT := Tryz.typeOfET
  have tL := Tryz.typeOfEL
  have aT := Tryz.assignableT
  have aL := Tryz.assignableLT
  have mA := Tryz.mAssignableTo
  have mU := Tryz.mUnwrap
  have vE := Tryz.valueOfET
  have nAT := Tryz.noAsT
  have nAL := Tryz.noAsL
  have uT := Tryz.noUnwrapT
  have uL := Tryz.hasUnwrapL
  have HC : Aside (Chain w n at_ a l v) := hc
  have htl := cell_lt ht
  have hval := cell_lt hva
  have el := Tryz.elemVT va t (w.alloc (.cells #[.pointer (some ⟨2, 140, none⟩), .pointer (some va), .int .u64 150] 163)) (by rw [World.cell?_alloc_lt _ _ va hval]; exact hva)
  have st := Tryz.setT t ⟨w.heap.size + 1, 0, none⟩ ⟨a, 0, none⟩ old ((w.alloc (.cells #[.pointer (some ⟨2, 140, none⟩), .pointer (some va), .int .u64 150] 163)).alloc (.cells #[.pointer (some ⟨a, 0, none⟩)] 108))
    (by rw [World.cell?_alloc_at _ _ _ _ (by simp)]; rfl)
    (by rw [World.cell?_alloc_lt _ _ t (by simp; omega), World.cell?_alloc_lt _ _ t htl]; exact ht)
    (by rw [World.frozen?_alloc_old _ _ t (by simp; omega), World.frozen?_alloc_old _ _ t (Nat.ne_of_lt htl)]; exact hf)
  clear hc hva ht hf
  go_enter Tryz.func115, Tryz.ntmps115
  go_wp2
  go_loopg [0] l.length (fun k p wr => wr = w.alloc (.cells #[.pointer (some ⟨2, 140, none⟩), .pointer (some va), .int .u64 150] 163) ∧ ∃ r, Chain w n at_ a r p ∧ r.length = k)
  case atStart => exact ⟨rfl, l, HC.out, rfl⟩
  case round =>
    obtain ⟨rfl, r, hr, hk⟩ := hrel
    cases r with
    | nil =>
      obtain ⟨rfl, c0, c1⟩ := hr
      clear c0 c1
      go_wp2
      go_ret
      exact ⟨rfl, rfl⟩
    | cons s r =>
      obtain ⟨b, u, rfl, c0, c1, hr⟩ := hr
      obtain ⟨tu, vu, rfl⟩ := hr.iface
      have cu : (w.alloc (.cells #[.pointer (some ⟨2, 140, none⟩), .pointer (some va), .int .u64 150] 163)).cell? ⟨b, 1, none⟩ = some (.iface tu vu) := by
        rw [World.cell?_alloc_lt _ _ ⟨b, 1, none⟩ (cell_lt c1)]; exact c1
      have A1 : Aside (Chain w n at_ a r (.iface tu vu) ∧ (s :: r).length = gk) := ⟨hr, hk⟩
      clear c0 c1 hr hk st el
      go_wp2
      go_roundg r.length
      case measure => have := A1.out.2; simp at this; omega
      case rel => exact ⟨rfl, r, A1.out.1, rfl⟩

set_option maxHeartbeats 4000000 in
set_option maxRecDepth 100000 in
theorem As_T (t : Addr) (n at_ : Int) (a : Nat) (l : List ByteArray) (v : Value) (old : Value) (w : World) (hc : Chain w n at_ a l v) (hg : ErrTy w) (ht : w.cell? t = some old) (hf : w.frozen? t = false) :
    Calls Tryz.prog 93 #[v, .iface 140 (.pointer (some t))] w
      fun e w' => e = .returned (.bool true) ∧ w' = ((((w.alloc (.cells #[.pointer (some t)] 140)).alloc (.cells #[.pointer (some ⟨2, 140, none⟩), .pointer (some ⟨w.heap.size, 0, none⟩), .int .u64 150] 163)).alloc (.cells #[.pointer (some ⟨2, 140, none⟩), .pointer (some ⟨w.heap.size, 0, none⟩), .int .u64 150] 163)).alloc (.cells #[.pointer (some ⟨a, 0, none⟩)] 108)).setCell t (.pointer (some ⟨a, 0, none⟩)) := by
  unfold ErrTy at hg
  obtain ⟨tv, vv, rfl⟩ := hc.iface

  have hVO := @run_callFunc_extern Tryz.prog 112 _ (fun args => ReflectliteValue.unpack (args.getD 0 (.tuple #[]))) Tryz.func112 (by kernel_rfl) (by kernel_rfl) (by kernel_rfl) (by kernel_rfl)
  have hTy := @run_callFunc_extern Tryz.prog 113 _ (ReflectliteValue.methodAny (ReflectliteValue.valueError "reflectlite.Value.Type" 0) (fun t _ _ _ => ReflectliteType.toType t)) Tryz.func113 (by kernel_rfl) (by kernel_rfl) (by kernel_rfl) (by kernel_rfl)
  have hNi := @run_callFunc_extern Tryz.prog 114 _ (ReflectliteValue.method (ReflectliteValue.valueError "reflectlite.Value.IsNil" 0) ReflectliteValue.isNil) Tryz.func114 (by kernel_rfl) (by kernel_rfl) (by kernel_rfl) (by kernel_rfl)
  have hKi := @run_callFunc_extern Tryz.prog 213 _ (ReflectliteType.abiMethod fun t => do pure (.int .u8 (← Rtype.kind t))) Tryz.func213 (by kernel_rfl) (by kernel_rfl) (by kernel_rfl) (by kernel_rfl)
  have hEl := @run_callFunc_extern Tryz.prog 229 _ (ReflectliteType.method ReflectliteType.elem) Tryz.func229 (by kernel_rfl) (by kernel_rfl) (by kernel_rfl) (by kernel_rfl)
  have hIm := @run_callFunc_extern Tryz.prog 230 _ (ReflectliteType.relation "Implements" ReflectliteType.implements_) Tryz.func230 (by kernel_rfl) (by kernel_rfl) (by kernel_rfl) (by kernel_rfl)
  have f6 := Tryz.valueOfPT
  have f7 := Tryz.typePT
  have mK := Tryz.mKind
  have mE := Tryz.mElem
  have mI := Tryz.mImplements
  have kP := Tryz.kindPT
  have kE := Tryz.kindET
  have eP := Tryz.elemPT
  have iE := Tryz.implementsET
  have htl := cell_lt ht
  have hlt := cell_lt hg
  simp only at hlt
  have nil1 := Tryz.isNilPT ⟨w.heap.size, 0, none⟩ t ((w.alloc (.cells #[.pointer (some t)] 140)).alloc (.cells #[.pointer (some ⟨2, 140, none⟩), .pointer (some ⟨w.heap.size, 0, none⟩), .int .u64 150] 163)) (by simp)
  have hg2 : ((w.alloc (.cells #[.pointer (some t)] 140)).alloc (.cells #[.pointer (some ⟨2, 140, none⟩), .pointer (some ⟨w.heap.size, 0, none⟩), .int .u64 150] 163)).cell? ⟨0, 0, none⟩ = some (.iface 205 (.agg #[.pointer (some ⟨2, 68, none⟩)])) := by
    rw [World.cell?_alloc_lt _ _ ⟨0, 0, none⟩ (by simp <;> omega), World.cell?_alloc_lt _ _ ⟨0, 0, none⟩ hlt]; exact hg
  have s1 : ((w.alloc (.cells #[.pointer (some t)] 140)).alloc (.cells #[.pointer (some ⟨2, 140, none⟩), .pointer (some ⟨w.heap.size, 0, none⟩), .int .u64 150] 163)).cell? ⟨w.heap.size, 0, none⟩ = some (.pointer (some t)) := by rw [World.cell?_alloc_lt _ _ ⟨w.heap.size, 0, none⟩ (by simp)]; simp
  have s2 : ((w.alloc (.cells #[.pointer (some t)] 140)).alloc (.cells #[.pointer (some ⟨2, 140, none⟩), .pointer (some ⟨w.heap.size, 0, none⟩), .int .u64 150] 163)).cell? t = some old := by rw [World.cell?_alloc_lt _ _ t (by simp; omega), World.cell?_alloc_lt _ _ t htl]; exact ht
  have s3 : ((w.alloc (.cells #[.pointer (some t)] 140)).alloc (.cells #[.pointer (some ⟨2, 140, none⟩), .pointer (some ⟨w.heap.size, 0, none⟩), .int .u64 150] 163)).frozen? t = false := by rw [World.frozen?_alloc_old _ _ t (by simp; omega), World.frozen?_alloc_old _ _ t (Nat.ne_of_lt htl)]; exact hf
  have s4 : Chain ((w.alloc (.cells #[.pointer (some t)] 140)).alloc (.cells #[.pointer (some ⟨2, 140, none⟩), .pointer (some ⟨w.heap.size, 0, none⟩), .int .u64 150] 163)) n at_ a l (.iface tv vv) := hc.below (((Below.refl _ _).alloc (Nat.le_refl _) _).alloc (by simp) _)
  have HC : Aside (Chain ((w.alloc (.cells #[.pointer (some t)] 140)).alloc (.cells #[.pointer (some ⟨2, 140, none⟩), .pointer (some ⟨w.heap.size, 0, none⟩), .int .u64 150] 163)) n at_ a l (.iface tv vv) ∧ ((w.alloc (.cells #[.pointer (some t)] 140)).alloc (.cells #[.pointer (some ⟨2, 140, none⟩), .pointer (some ⟨w.heap.size, 0, none⟩), .int .u64 150] 163)).cell? ⟨w.heap.size, 0, none⟩ = some (.pointer (some t)) ∧ ((w.alloc (.cells #[.pointer (some t)] 140)).alloc (.cells #[.pointer (some ⟨2, 140, none⟩), .pointer (some ⟨w.heap.size, 0, none⟩), .int .u64 150] 163)).cell? t = some old ∧ ((w.alloc (.cells #[.pointer (some t)] 140)).alloc (.cells #[.pointer (some ⟨2, 140, none⟩), .pointer (some ⟨w.heap.size, 0, none⟩), .int .u64 150] 163)).frozen? t = false) := ⟨s4, s1, s2, s3⟩
  clear hc s1 s2 s3 s4 ht hf
  go_enter Tryz.func93, Tryz.ntmps93
  go_wp2_with (go_at_call 115; refine (asT t ⟨w.heap.size, 0, none⟩ n at_ a l _ _ old _ HC.out.1 HC.out.2.1 HC.out.2.2.1 HC.out.2.2.2).mono ?_; rintro e w' ⟨rfl, rfl⟩)
  go_ret
  exact ⟨rfl, rfl⟩

end Go.Proofs.YtbghglkplbnnkaaGreatDoor
-- TrapCalls
namespace Go.Proofs.YtbghglkplbnnkaaGreatDoor
open Go.RowKit Go.Extern.Stop Go.Stop Go.Extern

theorem new_nil (at_ : Int) (w : World) : Calls Tryz.prog 65 #[.int .i64 0, .int .i64 at_] w fun e w' => e = .returned .nilIface ∧ w' = w := by
  go_enter Tryz.func65, Tryz.ntmps65
  go_wp2
  go_ret
  exact ⟨rfl, rfl⟩

theorem new_chain (n at_ : Int) (hn : n ≠ 0) (w : World) : Calls Tryz.prog 65 #[.int .i64 n, .int .i64 at_] w
    fun e w' => e = .returned (.iface 108 (.pointer (some ⟨w.heap.size, 0, none⟩))) ∧ w' = w.alloc (.cells #[.int .i64 n, .int .i64 at_] 111) := by
  have hb : (n == 0) = false := by simpa using hn
  go_enter Tryz.func65, Tryz.ntmps65
  go_wp2
  go_ret
  exact ⟨rfl, rfl⟩

theorem in_nil (s : ByteArray) (w : World) : Calls Tryz.prog 64 #[.nilIface, .string s] w fun e w' => e = .returned .nilIface ∧ w' = w := by
  go_enter Tryz.func64, Tryz.ntmps64
  go_wp2
  go_ret
  exact ⟨rfl, rfl⟩

theorem in_some (tv : TypeId) (vv : Value) (s : ByteArray) (w : World) : Calls Tryz.prog 64 #[.iface tv vv, .string s] w
    fun e w' => e = .returned (.iface 135 (.pointer (some ⟨w.heap.size, 0, none⟩))) ∧ w' = w.alloc (.cells #[.string s, .iface tv vv] 137) := by
  go_enter Tryz.func64, Tryz.ntmps64
  go_wp2
  go_ret
  exact ⟨rfl, rfl⟩

theorem chain_new (n at_ : Int) (w : World) : Chain (w.alloc (.cells #[.int .i64 n, .int .i64 at_] 111)) n at_ w.heap.size [] (.iface 108 (.pointer (some ⟨w.heap.size, 0, none⟩))) :=
  ⟨rfl, by simp, by simp⟩
theorem Chain.wrap {n at_ : Int} {a : Nat} {l : List ByteArray} {v : Value} {w : World} (h : Chain w n at_ a l v) (s : ByteArray) :
    Chain (w.alloc (.cells #[.string s, v] 137)) n at_ a (s :: l) (.iface 135 (.pointer (some ⟨w.heap.size, 0, none⟩))) :=
  ⟨w.heap.size, v, rfl, by simp, by simp, h.below ((Below.refl _ _).alloc (Nat.le_refl _) _)⟩

theorem catch_92 (w : World) : CallsD Tryz.prog 92 #[] .returning w fun e u' w' => e = .returned (.tuple #[]) ∧ u' = .returning ∧ w' = w := by
  refine callsD_of_wpS Tryz.func92 rfl fun c₀ cs hu => ?_
  apply wpS_region
  cases c₀
  simp_all [wpOpsS, go_sem, recoverD, Tryz.ntmps92, Exit.thenS, bodyPostS, results, Tryz.results92]
set_option maxHeartbeats 4000000 in
set_option maxRecDepth 100000 in
theorem first_T (n at_ : Int) (a : Nat) (l : List ByteArray) (v : Value) (w : World) (hc : Chain w n at_ a l v) (hg : ErrTy w) :
    Calls Tryz.prog 68 #[v] w fun e w' => e = .returned (.pointer (some ⟨a, 0, none⟩)) ∧ Below w.heap.size w w' := by
  have hb : Below w.heap.size w (w.alloc (.cells #[.pointer none] 108)) := (Below.refl _ _).alloc (Nat.le_refl _) _
  have HC : Aside (Chain (w.alloc (.cells #[.pointer none] 108)) n at_ a l v ∧ ErrTy (w.alloc (.cells #[.pointer none] 108))) := ⟨hc.below hb, hg.below hb⟩
  clear hc hg hb
  go_enter_defers Tryz.func68, Tryz.ntmps68
  go_wp2_with (go_at_call 93; refine (As_T ⟨w.heap.size, 0, none⟩ n at_ a l v (.pointer none) _ HC.out.1 HC.out.2 (by simp) (by simp)).mono ?_; rintro e w' ⟨rfl, rfl⟩)
  refine leaves_cons (f := 92) (args := #[]) (by simp) (by simp [go_sem]) ?_
  refine (catch_92 _).mono ?_
  rintro e u' w'' ⟨rfl, rfl, rfl⟩
  exact ⟨_, results_tmp rfl _ _ _, rfl, by go_grown⟩

set_option maxHeartbeats 4000000 in
theorem first_T_nil (w : World) :
    Calls Tryz.prog 68 #[.nilIface] w fun e w' => e = .returned (.pointer none) ∧ Below w.heap.size w w' := by
  go_enter_defers Tryz.func68, Tryz.ntmps68
  go_wp2_with (go_at_call 93; refine (as_nil _ _).mono ?_; rintro e w' ⟨rfl, rfl⟩)
  refine leaves_cons (f := 92) (args := #[]) (by simp) (by simp [go_sem]) ?_
  refine (catch_92 _).mono ?_
  rintro e u' w'' ⟨rfl, rfl, rfl⟩
  exact ⟨_, results_tmp rfl _ _ _, rfl, by go_grown⟩
set_option maxHeartbeats 4000000 in
theorem Errno_chain (n at_ : Int) (a : Nat) (l : List ByteArray) (v : Value) (w : World) (hc : Chain w n at_ a l v) (hg : ErrTy w) :
    Calls Tryz.prog 34 #[v] w fun e w' => e = .returned (.int .i64 n) ∧ Below w.heap.size w w' := by
  obtain ⟨c0, c1⟩ := hc.cells
  go_enter Tryz.func34, Tryz.ntmps34
  go_wp2_with (go_at_call 68; refine (first_T n at_ a l v _ hc hg).mono ?_; rintro e w' ⟨rfl, hb⟩; have d0 := (hb.cell (cell_lt c0)).trans c0; have d1 := (hb.cell (cell_lt c1)).trans c1; clear c0 c1)
  go_ret
  exact ⟨rfl, hb⟩
set_option maxHeartbeats 4000000 in
theorem Errno_nil (w : World) :
    Calls Tryz.prog 34 #[.nilIface] w fun e w' => e = .returned (.int .i64 0) ∧ Below w.heap.size w w' := by
  go_enter Tryz.func34, Tryz.ntmps34
  go_wp2_with (go_at_call 68; refine (first_T_nil _).mono ?_; rintro e w' ⟨rfl, hb⟩)
  go_ret
  exact ⟨rfl, hb⟩
end Go.Proofs.YtbghglkplbnnkaaGreatDoor
-- TrapIs
namespace Go.Proofs.YtbghglkplbnnkaaGreatDoor
open Go.RowKit Go.Extern.Stop Go.Stop Go.Extern

theorem equalIn_ints {P : Program} (w : World) (d : Nat) {ti tn : TypeId} {ms : Array (String × TypeId)} {i : TypeInfo} {k : IntKind} (a b : Int)
    (hi : P.underlying ti = some (.interface ms)) (hn : P.underlying tn = some (.int k)) (hinfo : P.info? tn = some i) (hcomp : i.comparable = true) :
    (Op.equalIn (d + 2) ti (.iface tn (.int k a)) (.iface tn (.int k b))).run P w = .ok (a == b) w := by
  simp [Op.equalIn, run_underlying hi, run_underlying hn, typeInfo, hinfo, hcomp]
theorem eql_ints {P : Program} (w : World) {ti tn : TypeId} {ms : Array (String × TypeId)} {i : TypeInfo} {k : IntKind} (a b : Int)
    (hi : P.underlying ti = some (.interface ms)) (hn : P.underlying tn = some (.int k)) (hinfo : P.info? tn = some i) (hcomp : i.comparable = true) :
    (binOp .eql ti (.iface tn (.int k a)) (.iface tn (.int k b))).run P w = .ok (.bool (a == b)) w := by
  simp only [binOp]
  simp [Op.equal, Op.maxDepth, equalIn_ints w 9998 a b hi hn hinfo hcomp]

theorem Tryz.numComp : (Tryz.prog.info? 175).map (·.comparable) = some true := by kernel_rfl
theorem Tryz.typeOfNum (v : Value) (w : World) : (ReflectliteType.typeOf #[.iface 175 v]).run Tryz.prog w = .ok (.iface 205 (.agg #[.pointer (some ⟨2, 175, none⟩)])) w := by kernel_rfl
theorem Tryz.compNum (w : World) : (callFunc 228 #[.agg #[.pointer (some ⟨2, 175, none⟩)]]).run Tryz.prog w = .ok (.value (.bool true)) w := by kernel_rfl
theorem Tryz.noIsN (v : Value) (xT : TypeId) (w : World) : (Instr.typeAssert (.iface 175 v) xT 244 true).run Tryz.prog w = .ok (.tuple #[.nilIface, .bool false]) w := run_typeAssert_lacksB Tryz.underlying244 (by kernel_rfl) (by kernel_rfl) v xT w
theorem Tryz.noUnwrapN (v : Value) (xT : TypeId) (w : World) : (Instr.typeAssert (.iface 175 v) xT 213 true).run Tryz.prog w = .ok (.tuple #[.nilIface, .bool false]) w := run_typeAssert_lacksB Tryz.underlying213 (by kernel_rfl) (by kernel_rfl) v xT w
theorem Tryz.noUnwrapsN (v : Value) (xT : TypeId) (w : World) : (Instr.typeAssert (.iface 175 v) xT 214 true).run Tryz.prog w = .ok (.tuple #[.nilIface, .bool false]) w := run_typeAssert_lacksB Tryz.underlying214 (by kernel_rfl) (by kernel_rfl) v xT w

set_option maxHeartbeats 4000000 in
set_option maxRecDepth 100000 in
theorem is_nums (a b : Int) (w : World) : Calls Tryz.prog 117 #[.iface 175 (.int .i64 a), .iface 175 (.int .i64 b)] w fun e w' => e = .returned (.bool (a == b)) ∧ w' = w := by
  obtain ⟨i, hi, hcmp⟩ := Option.map_eq_some_iff.1 Tryz.numComp
  have hTO := @run_callFunc_extern Tryz.prog 136 _ ReflectliteType.typeOf Tryz.func136 (by kernel_rfl) (by kernel_rfl) (by kernel_rfl) (by kernel_rfl)
  have tT := Tryz.typeOfNum
  have cT := Tryz.compNum
  have mC := Tryz.mComparable
  have nI := Tryz.noIsN
  have nU := Tryz.noUnwrapN
  have nV := Tryz.noUnwrapsN
  have heq := eql_ints (P := Tryz.prog) w a b Tryz.underlying68 Tryz.underlying175 hi hcmp
  by_cases hab : a = b
  · subst hab
    simp only [beq_self_eq_true] at heq ⊢
    go_enter Tryz.func117, Tryz.ntmps117
    go_wp2
    refine wp_loop_rounds 1 ?_
    rw [rounds_succ]
    go_wp2
    go_ret
    exact ⟨rfl, rfl⟩
  · have hF : (a == b) = false := by simpa using hab
    rw [hF] at heq ⊢
    clear hF hab
    go_enter Tryz.func117, Tryz.ntmps117
    go_wp2
    refine wp_loop_rounds 1 ?_
    rw [rounds_succ]
    go_wp2
    go_ret
    exact ⟨rfl, rfl⟩

set_option maxHeartbeats 4000000 in
theorem Is_nil_num (x : Int) (hx : x ≠ 0) (w : World) : Calls Tryz.prog 97 #[.nilIface, .int .i64 x] w fun e w' => e = .returned (.bool false) ∧ Below w.heap.size w w' := by
  have hb : (x == 0) = false := by simpa using hx
  have hx0 : (0 == x) = false := by simpa using fun h => hx h.symm
  have HX : Aside ((0 == x) = false) := hx0
  clear hx0
  go_enter Tryz.func97, Tryz.ntmps97
  go_wp2_with (first | (go_at_call 34; refine (Errno_nil _).mono ?_; rintro e w' ⟨rfl, hb⟩) | (go_at_call 117; refine (is_nums _ _ _).mono ?_; rintro e w' ⟨rfl, rfl⟩; rw [HX.out]))
  go_ret
  exact ⟨rfl, by assumption⟩

set_option maxHeartbeats 4000000 in
theorem Is_chain (n at_ : Int) (a : Nat) (l : List ByteArray) (v : Value) (x : Int) (hx : x ≠ 0) (w : World) (hc : Chain w n at_ a l v) (hg : ErrTy w) :
    Calls Tryz.prog 97 #[v, .int .i64 x] w fun e w' => e = .returned (.bool (n == x)) ∧ Below w.heap.size w w' := by
  have hb : (x == 0) = false := by simpa using hx
  go_enter Tryz.func97, Tryz.ntmps97
  go_wp2_with (first | (go_at_call 34; refine (Errno_chain n at_ a l v _ hc hg).mono ?_; rintro e w' ⟨rfl, hb⟩) | (go_at_call 117; refine (is_nums _ _ _).mono ?_; rintro e w' ⟨rfl, rfl⟩))
  go_ret
  exact ⟨rfl, by assumption⟩
end Go.Proofs.YtbghglkplbnnkaaGreatDoor
