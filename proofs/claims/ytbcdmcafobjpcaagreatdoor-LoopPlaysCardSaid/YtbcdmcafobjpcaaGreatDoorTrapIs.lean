/- trap.Is by its contract: errors.Is at two numbers, and at nil. -/
import Derived.Test.YtbcdmcafobjpcaaGreatDoorTrapCalls
namespace Go.Proofs.YtbcdmcafobjpcaaGreatDoor
open Go.RowKit Go.Extern.Stop Go.Stop Go.Extern

/-- '==' of two interface values of one integer type: as the numbers are. -/
theorem equalIn_ints {P : Program} (w : World) (d : Nat) {ti tn : TypeId} {ms : Array (String × TypeId)} {i : TypeInfo} {k : IntKind} (a b : Int)
    (hi : P.underlying ti = some (.interface ms)) (hn : P.underlying tn = some (.int k)) (hinfo : P.info? tn = some i) (hcomp : i.comparable = true) :
    (Op.equalIn (d + 2) ti (.iface tn (.int k a)) (.iface tn (.int k b))).run P w = .ok (a == b) w := by
  simp [Op.equalIn, run_underlying hi, run_underlying hn, typeInfo, hinfo, hcomp]
theorem eql_ints {P : Program} (w : World) {ti tn : TypeId} {ms : Array (String × TypeId)} {i : TypeInfo} {k : IntKind} (a b : Int)
    (hi : P.underlying ti = some (.interface ms)) (hn : P.underlying tn = some (.int k)) (hinfo : P.info? tn = some i) (hcomp : i.comparable = true) :
    (binOp .eql ti (.iface tn (.int k a)) (.iface tn (.int k b))).run P w = .ok (.bool (a == b)) w := by
  simp only [binOp]
  simp [Op.equal, Op.maxDepth, equalIn_ints w 9998 a b hi hn hinfo hcomp]

theorem Tryz.numComp : (Tryz.prog.info? 140).map (·.comparable) = some true := by kernel_rfl
theorem Tryz.typeOfNum (v : Value) (w : World) : (ReflectliteType.typeOf #[.iface 140 v]).run Tryz.prog w = .ok (.iface 162 (.agg #[.pointer (some ⟨2, 140, none⟩)])) w := by kernel_rfl
theorem Tryz.compNum (w : World) : (callFunc 148 #[.agg #[.pointer (some ⟨2, 140, none⟩)]]).run Tryz.prog w = .ok (.value (.bool true)) w := by kernel_rfl
theorem Tryz.noIsN (v : Value) (xT : TypeId) (w : World) : (Instr.typeAssert (.iface 140 v) xT 180 true).run Tryz.prog w = .ok (.tuple #[.nilIface, .bool false]) w := run_typeAssert_lacksB Tryz.underlying180 (by kernel_rfl) (by kernel_rfl) v xT w
theorem Tryz.noUnwrapN (v : Value) (xT : TypeId) (w : World) : (Instr.typeAssert (.iface 140 v) xT 169 true).run Tryz.prog w = .ok (.tuple #[.nilIface, .bool false]) w := run_typeAssert_lacksB Tryz.underlying169 (by kernel_rfl) (by kernel_rfl) v xT w
theorem Tryz.noUnwrapsN (v : Value) (xT : TypeId) (w : World) : (Instr.typeAssert (.iface 140 v) xT 171 true).run Tryz.prog w = .ok (.tuple #[.nilIface, .bool false]) w := run_typeAssert_lacksB Tryz.underlying171 (by kernel_rfl) (by kernel_rfl) v xT w

set_option maxHeartbeats 4000000 in
set_option maxRecDepth 100000 in
/-- errors.Is at two numbers. -/
theorem is_nums (a b : Int) (w : World) : Calls Tryz.prog 85 #[.iface 140 (.int .i64 a), .iface 140 (.int .i64 b)] w fun e w' => e = .returned (.bool (a == b)) ∧ w' = w := by
  obtain ⟨i, hi, hcmp⟩ := Option.map_eq_some_iff.1 Tryz.numComp
  have hTO := @run_callFunc_extern Tryz.prog 99 _ ReflectliteType.typeOf Tryz.func99 (by kernel_rfl) (by kernel_rfl) (by kernel_rfl) (by kernel_rfl)
  have tT := Tryz.typeOfNum
  have cT := Tryz.compNum
  have mC := Tryz.mComparable
  have nI := Tryz.noIsN
  have nU := Tryz.noUnwrapN
  have nV := Tryz.noUnwrapsN
  have heq := eql_ints (P := Tryz.prog) w a b Tryz.underlying66 Tryz.underlying140 hi hcmp
  by_cases hab : a = b
  · subst hab
    simp only [beq_self_eq_true] at heq ⊢
    go_enter Tryz.func85, Tryz.ntmps85
    go_wp2
    refine wp_loop_rounds 1 ?_
    rw [rounds_succ]
    go_wp2
    go_ret
    exact ⟨rfl, rfl⟩
  · have hF : (a == b) = false := by simpa using hab
    rw [hF] at heq ⊢
    clear hF hab
    go_enter Tryz.func85, Tryz.ntmps85
    go_wp2
    refine wp_loop_rounds 1 ?_
    rw [rounds_succ]
    go_wp2
    go_ret
    exact ⟨rfl, rfl⟩

/-- WHY trap.Is(nil, OK), written as errors.Is(err, nil), HAS NO ANSWER IN THE MODEL: 'err == target' of the library's errors.Is holds two nil errors against each other, and the model's guard on '==' ends the run there. -/
theorem guard_nil_nil (w : World) : (match (eqGuard .eql 66 (.tmp 12) (.tmp 13) .nilIface .nilIface).run Tryz.prog w with | .ok _ _ => false | .halt _ _ => true) = true := by kernel_rfl

set_option maxHeartbeats 4000000 in
/-- trap.Is of an error that is not nil, at OK. -/
theorem Is_some_ok (tv : TypeId) (vv : Value) (w : World) : Calls Tryz.prog 63 #[.iface tv vv, .int .i64 0] w fun e w' => e = .returned (.bool false) ∧ w' = w := by
  go_enter Tryz.func63, Tryz.ntmps63
  go_wp2
  go_ret
  exact ⟨rfl, rfl⟩

set_option maxHeartbeats 4000000 in
/-- trap.Is of nil, at a number. -/
theorem Is_nil_num (x : Int) (hx : x ≠ 0) (w : World) : Calls Tryz.prog 63 #[.nilIface, .int .i64 x] w fun e w' => e = .returned (.bool false) ∧ Below w.heap.size w w' := by
  have hb : (x == 0) = false := by simpa using hx
  have hx0 : (0 == x) = false := by simpa using fun h => hx h.symm
  have HX : Aside ((0 == x) = false) := hx0
  clear hx0
  go_enter Tryz.func63, Tryz.ntmps63
  go_wp2_with (first | (go_at_call 26; refine (Errno_nil _).mono ?_; rintro e w' ⟨rfl, hb⟩) | (go_at_call 85; refine (is_nums _ _ _).mono ?_; rintro e w' ⟨rfl, rfl⟩; rw [HX.out]))
  go_ret
  exact ⟨rfl, by assumption⟩

set_option maxHeartbeats 4000000 in
/-- trap.Is of a chain, at a number. -/
theorem Is_chain (n at_ : Int) (a : Nat) (l : List ByteArray) (v : Value) (x : Int) (hx : x ≠ 0) (w : World) (hc : Chain w n at_ a l v) (hg : ErrTy w) :
    Calls Tryz.prog 63 #[v, .int .i64 x] w fun e w' => e = .returned (.bool (n == x)) ∧ Below w.heap.size w w' := by
  have hb : (x == 0) = false := by simpa using hx
  go_enter Tryz.func63, Tryz.ntmps63
  go_wp2_with (first | (go_at_call 26; refine (Errno_chain n at_ a l v _ hc hg).mono ?_; rintro e w' ⟨rfl, hb⟩) | (go_at_call 85; refine (is_nums _ _ _).mono ?_; rintro e w' ⟨rfl, rfl⟩))
  go_ret
  exact ⟨rfl, by assumption⟩
end Go.Proofs.YtbcdmcafobjpcaaGreatDoor
