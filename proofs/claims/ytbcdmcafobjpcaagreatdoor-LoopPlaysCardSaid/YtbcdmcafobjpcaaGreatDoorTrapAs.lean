/- The walks of errors.As and errors.as at the targets **Trap and **layer, over a chain of layers. Conditions: the cell of errors.errorType holds the type error's handle; the target is a variable of the caller's own. -/
import Derived.Test.YtbcdmcafobjpcaaGreatDoorTrapFacts
namespace Go.Proofs.YtbcdmcafobjpcaaGreatDoor
open Go.RowKit Go.Extern.Stop Go.Stop Go.Extern

/-- THE VARIABLE errors.errorType HOLDS THE TYPE error. -/
def ErrTy (w : World) : Prop := w.cell? ⟨0, 0, none⟩ = some (.iface 162 (.agg #[.pointer (some ⟨2, 66, none⟩)]))
theorem ErrTy.below {w w' : World} (h : ErrTy w) (hb : Below w.heap.size w w') : ErrTy w' := by
  unfold ErrTy at *; rw [hb.cell (cell_lt h)]; exact h

set_option maxHeartbeats 4000000 in
set_option maxRecDepth 100000 in
/-- errors.as AT A TARGET **Trap: a chain of whatever length comes to its Trap. -/
theorem asT (t va : Addr) (n at_ : Int) (a : Nat) (l : List ByteArray) (v tv : Value) (old : Value) (w : World) (hc : Chain w n at_ a l v) (hva : w.cell? va = some (.pointer (some t)))
    (ht : w.cell? t = some old) (hf : w.frozen? t = false) :
    Calls Tryz.prog 90 #[v, tv, .agg #[.pointer (some ⟨2, 125, none⟩), .pointer (some va), .int .u64 150], .iface 162 (.agg #[.pointer (some ⟨2, 91, none⟩)])] w
      fun e w' => e = .returned (.bool true) ∧ w' = ((w.alloc (.cells #[.pointer (some ⟨2, 125, none⟩), .pointer (some va), .int .u64 150] 145)).alloc (.cells #[.pointer (some ⟨a, 0, none⟩)] 91)).setCell t (.pointer (some ⟨a, 0, none⟩)) := by
  have hTO := @run_callFunc_extern Tryz.prog 99 _ ReflectliteType.typeOf Tryz.func99 (by kernel_rfl) (by kernel_rfl) (by kernel_rfl) (by kernel_rfl)
  have hAT := @run_callFunc_extern Tryz.prog 147 _ (ReflectliteType.relation "AssignableTo" ReflectliteType.assignableTo) Tryz.func147 (by kernel_rfl) (by kernel_rfl) (by kernel_rfl) (by kernel_rfl)
  have hEl := @run_callFunc_extern Tryz.prog 101 _ (ReflectliteValue.method (ReflectliteValue.valueError "reflectlite.Value.Elem" 0) ReflectliteValue.elem) Tryz.func101 (by kernel_rfl) (by kernel_rfl) (by kernel_rfl) (by kernel_rfl)
  have hSe := @run_callFunc_extern Tryz.prog 102 _ ReflectliteValue.set Tryz.func102 (by kernel_rfl) (by kernel_rfl) (by kernel_rfl) (by kernel_rfl)
  have hVO := @run_callFunc_extern Tryz.prog 87 _ (fun args => ReflectliteValue.unpack (args.getD 0 (.tuple #[]))) Tryz.func87 (by kernel_rfl) (by kernel_rfl) (by kernel_rfl) (by kernel_rfl)
  have tT := Tryz.typeOfET
  have tL := Tryz.typeOfEL
  have aT := Tryz.assignableT
  have aL := Tryz.assignableLT
  have mA := Tryz.mAssignableTo
  have mU := Tryz.mUnwrap
  have vE := Tryz.valueOfET
  have nAT := Tryz.noAsT
  have nAL := Tryz.noAsL
  have uT := Tryz.noUnwrapT
  have uL := Tryz.hasUnwrapL
  have HC : Aside (Chain w n at_ a l v) := hc
  have htl := cell_lt ht
  have hval := cell_lt hva
  have el := Tryz.elemVT va t (w.alloc (.cells #[.pointer (some ⟨2, 125, none⟩), .pointer (some va), .int .u64 150] 145)) (by rw [World.cell?_alloc_lt _ _ va hval]; exact hva)
  have st := Tryz.setT t ⟨w.heap.size + 1, 0, none⟩ ⟨a, 0, none⟩ old ((w.alloc (.cells #[.pointer (some ⟨2, 125, none⟩), .pointer (some va), .int .u64 150] 145)).alloc (.cells #[.pointer (some ⟨a, 0, none⟩)] 91))
    (by rw [World.cell?_alloc_at _ _ _ _ (by simp)]; rfl)
    (by rw [World.cell?_alloc_lt _ _ t (by simp; omega), World.cell?_alloc_lt _ _ t htl]; exact ht)
    (by rw [World.frozen?_alloc_old _ _ t (by simp; omega), World.frozen?_alloc_old _ _ t (Nat.ne_of_lt htl)]; exact hf)
  clear hc hva ht hf
  go_enter Tryz.func90, Tryz.ntmps90
  go_wp2
  go_loopg [0] l.length (fun k p wr => wr = w.alloc (.cells #[.pointer (some ⟨2, 125, none⟩), .pointer (some va), .int .u64 150] 145) ∧ ∃ r, Chain w n at_ a r p ∧ r.length = k)
  case atStart => exact ⟨rfl, l, HC.out, rfl⟩
  case round =>
    obtain ⟨rfl, r, hr, hk⟩ := hrel
    cases r with
    | nil =>
      obtain ⟨rfl, c0, c1⟩ := hr
      clear c0 c1
      go_wp2
      go_ret
      exact ⟨rfl, rfl⟩
    | cons s r =>
      obtain ⟨b, u, rfl, c0, c1, hr⟩ := hr
      obtain ⟨tu, vu, rfl⟩ := hr.iface
      have cu : (w.alloc (.cells #[.pointer (some ⟨2, 125, none⟩), .pointer (some va), .int .u64 150] 145)).cell? ⟨b, 1, none⟩ = some (.iface tu vu) := by
        rw [World.cell?_alloc_lt _ _ ⟨b, 1, none⟩ (cell_lt c1)]; exact c1
      have A1 : Aside (Chain w n at_ a r (.iface tu vu) ∧ (s :: r).length = gk) := ⟨hr, hk⟩
      clear c0 c1 hr hk st el
      go_wp2
      go_roundg r.length
      case measure => have := A1.out.2; simp at this; omega
      case rel => exact ⟨rfl, r, A1.out.1, rfl⟩

set_option maxHeartbeats 4000000 in
set_option maxRecDepth 100000 in
/-- errors.As AT A TARGET **Trap. -/
theorem As_T (t : Addr) (n at_ : Int) (a : Nat) (l : List ByteArray) (v : Value) (old : Value) (w : World) (hc : Chain w n at_ a l v) (hg : ErrTy w) (ht : w.cell? t = some old) (hf : w.frozen? t = false) :
    Calls Tryz.prog 77 #[v, .iface 125 (.pointer (some t))] w
      fun e w' => e = .returned (.bool true) ∧ w' = ((((w.alloc (.cells #[.pointer (some t)] 125)).alloc (.cells #[.pointer (some ⟨2, 125, none⟩), .pointer (some ⟨w.heap.size, 0, none⟩), .int .u64 150] 145)).alloc (.cells #[.pointer (some ⟨2, 125, none⟩), .pointer (some ⟨w.heap.size, 0, none⟩), .int .u64 150] 145)).alloc (.cells #[.pointer (some ⟨a, 0, none⟩)] 91)).setCell t (.pointer (some ⟨a, 0, none⟩)) := by
  unfold ErrTy at hg
  obtain ⟨tv, vv, rfl⟩ := hc.iface

  have hVO := @run_callFunc_extern Tryz.prog 87 _ (fun args => ReflectliteValue.unpack (args.getD 0 (.tuple #[]))) Tryz.func87 (by kernel_rfl) (by kernel_rfl) (by kernel_rfl) (by kernel_rfl)
  have hTy := @run_callFunc_extern Tryz.prog 88 _ (ReflectliteValue.methodAny (ReflectliteValue.valueError "reflectlite.Value.Type" 0) (fun t _ _ _ => ReflectliteType.toType t)) Tryz.func88 (by kernel_rfl) (by kernel_rfl) (by kernel_rfl) (by kernel_rfl)
  have hNi := @run_callFunc_extern Tryz.prog 89 _ (ReflectliteValue.method (ReflectliteValue.valueError "reflectlite.Value.IsNil" 0) ReflectliteValue.isNil) Tryz.func89 (by kernel_rfl) (by kernel_rfl) (by kernel_rfl) (by kernel_rfl)
  have hKi := @run_callFunc_extern Tryz.prog 135 _ (ReflectliteType.abiMethod fun t => do pure (.int .u8 (← Rtype.kind t))) Tryz.func135 (by kernel_rfl) (by kernel_rfl) (by kernel_rfl) (by kernel_rfl)
  have hEl := @run_callFunc_extern Tryz.prog 149 _ (ReflectliteType.method ReflectliteType.elem) Tryz.func149 (by kernel_rfl) (by kernel_rfl) (by kernel_rfl) (by kernel_rfl)
  have hIm := @run_callFunc_extern Tryz.prog 150 _ (ReflectliteType.relation "Implements" ReflectliteType.implements_) Tryz.func150 (by kernel_rfl) (by kernel_rfl) (by kernel_rfl) (by kernel_rfl)
  have f6 := Tryz.valueOfPT
  have f7 := Tryz.typePT
  have mK := Tryz.mKind
  have mE := Tryz.mElem
  have mI := Tryz.mImplements
  have kP := Tryz.kindPT
  have kE := Tryz.kindET
  have eP := Tryz.elemPT
  have iE := Tryz.implementsET
  have htl := cell_lt ht
  have hlt := cell_lt hg
  simp only at hlt
  have nil1 := Tryz.isNilPT ⟨w.heap.size, 0, none⟩ t ((w.alloc (.cells #[.pointer (some t)] 125)).alloc (.cells #[.pointer (some ⟨2, 125, none⟩), .pointer (some ⟨w.heap.size, 0, none⟩), .int .u64 150] 145)) (by simp)
  have hg2 : ((w.alloc (.cells #[.pointer (some t)] 125)).alloc (.cells #[.pointer (some ⟨2, 125, none⟩), .pointer (some ⟨w.heap.size, 0, none⟩), .int .u64 150] 145)).cell? ⟨0, 0, none⟩ = some (.iface 162 (.agg #[.pointer (some ⟨2, 66, none⟩)])) := by
    rw [World.cell?_alloc_lt _ _ ⟨0, 0, none⟩ (by simp <;> omega), World.cell?_alloc_lt _ _ ⟨0, 0, none⟩ hlt]; exact hg
  have s1 : ((w.alloc (.cells #[.pointer (some t)] 125)).alloc (.cells #[.pointer (some ⟨2, 125, none⟩), .pointer (some ⟨w.heap.size, 0, none⟩), .int .u64 150] 145)).cell? ⟨w.heap.size, 0, none⟩ = some (.pointer (some t)) := by rw [World.cell?_alloc_lt _ _ ⟨w.heap.size, 0, none⟩ (by simp)]; simp
  have s2 : ((w.alloc (.cells #[.pointer (some t)] 125)).alloc (.cells #[.pointer (some ⟨2, 125, none⟩), .pointer (some ⟨w.heap.size, 0, none⟩), .int .u64 150] 145)).cell? t = some old := by rw [World.cell?_alloc_lt _ _ t (by simp; omega), World.cell?_alloc_lt _ _ t htl]; exact ht
  have s3 : ((w.alloc (.cells #[.pointer (some t)] 125)).alloc (.cells #[.pointer (some ⟨2, 125, none⟩), .pointer (some ⟨w.heap.size, 0, none⟩), .int .u64 150] 145)).frozen? t = false := by rw [World.frozen?_alloc_old _ _ t (by simp; omega), World.frozen?_alloc_old _ _ t (Nat.ne_of_lt htl)]; exact hf
  have s4 : Chain ((w.alloc (.cells #[.pointer (some t)] 125)).alloc (.cells #[.pointer (some ⟨2, 125, none⟩), .pointer (some ⟨w.heap.size, 0, none⟩), .int .u64 150] 145)) n at_ a l (.iface tv vv) := hc.below (((Below.refl _ _).alloc (Nat.le_refl _) _).alloc (by simp) _)
  have HC : Aside (Chain ((w.alloc (.cells #[.pointer (some t)] 125)).alloc (.cells #[.pointer (some ⟨2, 125, none⟩), .pointer (some ⟨w.heap.size, 0, none⟩), .int .u64 150] 145)) n at_ a l (.iface tv vv) ∧ ((w.alloc (.cells #[.pointer (some t)] 125)).alloc (.cells #[.pointer (some ⟨2, 125, none⟩), .pointer (some ⟨w.heap.size, 0, none⟩), .int .u64 150] 145)).cell? ⟨w.heap.size, 0, none⟩ = some (.pointer (some t)) ∧ ((w.alloc (.cells #[.pointer (some t)] 125)).alloc (.cells #[.pointer (some ⟨2, 125, none⟩), .pointer (some ⟨w.heap.size, 0, none⟩), .int .u64 150] 145)).cell? t = some old ∧ ((w.alloc (.cells #[.pointer (some t)] 125)).alloc (.cells #[.pointer (some ⟨2, 125, none⟩), .pointer (some ⟨w.heap.size, 0, none⟩), .int .u64 150] 145)).frozen? t = false) := ⟨s4, s1, s2, s3⟩
  clear hc s1 s2 s3 s4 ht hf
  go_enter Tryz.func77, Tryz.ntmps77
  go_wp2_with (go_at_call 90; refine (asT t ⟨w.heap.size, 0, none⟩ n at_ a l _ _ old _ HC.out.1 HC.out.2.1 HC.out.2.2.1 HC.out.2.2.2).mono ?_; rintro e w' ⟨rfl, rfl⟩)
  go_ret
  exact ⟨rfl, rfl⟩

end Go.Proofs.YtbcdmcafobjpcaaGreatDoor
