/- Contracts of package trap's calls over a chain of layers: New, In, first, Errno, At, Unwrap. Conditions: the cell of errors.errorType holds the type error's handle. -/
import Derived.Test.YtbcdmcafobjpcaaGreatDoorTrapAs
import Derived.Defers
import Derived.Recover
import Derived.Handy
namespace Go.Proofs.YtbcdmcafobjpcaaGreatDoor
open Go.RowKit Go.Extern.Stop Go.Stop Go.Extern

theorem new_nil (at_ : Int) (w : World) : Calls Tryz.prog 60 #[.int .i64 0, .int .i64 at_] w fun e w' => e = .returned .nilIface ∧ w' = w := by
  go_enter Tryz.func60, Tryz.ntmps60
  go_wp2
  go_ret
  exact ⟨rfl, rfl⟩

/-- trap.New: a chain without a layer. -/
theorem new_chain (n at_ : Int) (hn : n ≠ 0) (w : World) : Calls Tryz.prog 60 #[.int .i64 n, .int .i64 at_] w
    fun e w' => e = .returned (.iface 91 (.pointer (some ⟨w.heap.size, 0, none⟩))) ∧ w' = w.alloc (.cells #[.int .i64 n, .int .i64 at_] 94) := by
  have hb : (n == 0) = false := by simpa using hn
  go_enter Tryz.func60, Tryz.ntmps60
  go_wp2
  go_ret
  exact ⟨rfl, rfl⟩

theorem in_nil (s : ByteArray) (w : World) : Calls Tryz.prog 59 #[.nilIface, .string s] w fun e w' => e = .returned .nilIface ∧ w' = w := by
  go_enter Tryz.func59, Tryz.ntmps59
  go_wp2
  go_ret
  exact ⟨rfl, rfl⟩

theorem in_some (tv : TypeId) (vv : Value) (s : ByteArray) (w : World) : Calls Tryz.prog 59 #[.iface tv vv, .string s] w
    fun e w' => e = .returned (.iface 127 (.pointer (some ⟨w.heap.size, 0, none⟩))) ∧ w' = w.alloc (.cells #[.string s, .iface tv vv] 129) := by
  go_enter Tryz.func59, Tryz.ntmps59
  go_wp2
  go_ret
  exact ⟨rfl, rfl⟩

/-- What New hands back is a chain without a layer. -/
theorem chain_new (n at_ : Int) (w : World) : Chain (w.alloc (.cells #[.int .i64 n, .int .i64 at_] 94)) n at_ w.heap.size [] (.iface 91 (.pointer (some ⟨w.heap.size, 0, none⟩))) :=
  ⟨rfl, by simp, by simp⟩
/-- What In hands back is the chain with one layer more. -/
theorem Chain.wrap {n at_ : Int} {a : Nat} {l : List ByteArray} {v : Value} {w : World} (h : Chain w n at_ a l v) (s : ByteArray) :
    Chain (w.alloc (.cells #[.string s, v] 129)) n at_ a (s :: l) (.iface 127 (.pointer (some ⟨w.heap.size, 0, none⟩))) :=
  ⟨w.heap.size, v, rfl, by simp, by simp, h.below ((Below.refl _ _).alloc (Nat.le_refl _) _)⟩

theorem catch_76 (w : World) : CallsD Tryz.prog 76 #[] .returning w fun e u' w' => e = .returned (.tuple #[]) ∧ u' = .returning ∧ w' = w := by
  refine callsD_of_wpS Tryz.func76 rfl fun c₀ cs hu => ?_
  apply wpS_region
  cases c₀
  simp_all [wpOpsS, go_sem, recoverD, Tryz.ntmps76, Exit.thenS, bodyPostS, results, Tryz.results76]
set_option maxHeartbeats 4000000 in
set_option maxRecDepth 100000 in
/-- first[*Trap] of a chain: its Trap. -/
theorem first_T (n at_ : Int) (a : Nat) (l : List ByteArray) (v : Value) (w : World) (hc : Chain w n at_ a l v) (hg : ErrTy w) :
    Calls Tryz.prog 57 #[v] w fun e w' => e = .returned (.pointer (some ⟨a, 0, none⟩)) ∧ Below w.heap.size w w' := by
  have hb : Below w.heap.size w (w.alloc (.cells #[.pointer none] 91)) := (Below.refl _ _).alloc (Nat.le_refl _) _
  have HC : Aside (Chain (w.alloc (.cells #[.pointer none] 91)) n at_ a l v ∧ ErrTy (w.alloc (.cells #[.pointer none] 91))) := ⟨hc.below hb, hg.below hb⟩
  clear hc hg hb
  go_enter_defers Tryz.func57, Tryz.ntmps57
  go_wp2_with (go_at_call 77; refine (As_T ⟨w.heap.size, 0, none⟩ n at_ a l v (.pointer none) _ HC.out.1 HC.out.2 (by simp) (by simp)).mono ?_; rintro e w' ⟨rfl, rfl⟩)
  refine leaves_cons (f := 76) (args := #[]) (by simp) (by simp [go_sem]) ?_
  refine (catch_76 _).mono ?_
  rintro e u' w'' ⟨rfl, rfl, rfl⟩
  exact ⟨_, results_tmp rfl _ _ _, rfl, by go_grown⟩

set_option maxHeartbeats 4000000 in
/-- first of nil: none. -/
theorem first_T_nil (w : World) :
    Calls Tryz.prog 57 #[.nilIface] w fun e w' => e = .returned (.pointer none) ∧ Below w.heap.size w w' := by
  go_enter_defers Tryz.func57, Tryz.ntmps57
  go_wp2_with (go_at_call 77; refine (as_nil _ _).mono ?_; rintro e w' ⟨rfl, rfl⟩)
  refine leaves_cons (f := 76) (args := #[]) (by simp) (by simp [go_sem]) ?_
  refine (catch_76 _).mono ?_
  rintro e u' w'' ⟨rfl, rfl, rfl⟩
  exact ⟨_, results_tmp rfl _ _ _, rfl, by go_grown⟩
set_option maxHeartbeats 4000000 in
/-- trap.Errno of a chain. -/
theorem Errno_chain (n at_ : Int) (a : Nat) (l : List ByteArray) (v : Value) (w : World) (hc : Chain w n at_ a l v) (hg : ErrTy w) :
    Calls Tryz.prog 26 #[v] w fun e w' => e = .returned (.int .i64 n) ∧ Below w.heap.size w w' := by
  obtain ⟨c0, c1⟩ := hc.cells
  go_enter Tryz.func26, Tryz.ntmps26
  go_wp2_with (go_at_call 57; refine (first_T n at_ a l v _ hc hg).mono ?_; rintro e w' ⟨rfl, hb⟩; have d0 := (hb.cell (cell_lt c0)).trans c0; have d1 := (hb.cell (cell_lt c1)).trans c1; clear c0 c1)
  go_ret
  exact ⟨rfl, hb⟩
set_option maxHeartbeats 4000000 in
/-- trap.Errno of nil. -/
theorem Errno_nil (w : World) :
    Calls Tryz.prog 26 #[.nilIface] w fun e w' => e = .returned (.int .i64 0) ∧ Below w.heap.size w w' := by
  go_enter Tryz.func26, Tryz.ntmps26
  go_wp2_with (go_at_call 57; refine (first_T_nil _).mono ?_; rintro e w' ⟨rfl, hb⟩)
  go_ret
  exact ⟨rfl, hb⟩
end Go.Proofs.YtbcdmcafobjpcaaGreatDoor
