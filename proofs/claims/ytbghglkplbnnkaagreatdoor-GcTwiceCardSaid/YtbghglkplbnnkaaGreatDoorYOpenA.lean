import Derived.ChangeArms
import Derived.ChangeMaps5
import Derived.OpenShut
import Derived.Test.YtbghglkplbnnkaaGreatDoorYGeo
set_option linter.unusedVariables false
set_option linter.unusedSimpArgs false
namespace Go.Proofs.YtbghglkplbnnkaaGreatDoor
open Go.ChangeShapes Go.WideShapes Go.ChangeAt Go.RowKit

set_option maxRecDepth 100000 in
theorem geo_fields : ∃ fs : Array Field, Tryz.prog.underlying 23 = some (.struct fs) ∧ fs.toList.map (fun f => (f.offset, f.type)) = [(0, 3), (1, 3)] :=
  ⟨_, Tryz.underlying23, rfl⟩
theorem geo_cells : Tryz.prog.cellsOf 23 = 2 := by kernel_rfl
theorem geo_int : Tryz.prog.cellsOf 3 = 1 := by kernel_rfl
set_option maxRecDepth 100000 in
theorem open_geo {H : Type} {enc : TypeId × Value → H} {W : World} {base b0 : Nat} {spare : Nat → Bool} {held : Bool} {r : Reach} {v : Value} {d : DataW H} {p : List MemPlace}
    (hv : Value.okWide Tryz.prog W r b0 23 v) (h : DataW.Trod enc Tryz.prog W base spare held 23 v d p) : ∃ h l : Int, v = .agg #[.int .i64 h, .int .i64 l] := by
  obtain ⟨fs, hs, hf⟩ := geo_fields
  obtain ⟨cs, rfl, hsz⟩ := okWide_struct hs hv
  rw [geo_cells] at hsz
  obtain ⟨fuel, hx⟩ := h
  obtain ⟨xs, n, _, _, hcl, hxl, hg⟩ := DataW.trod_struct hs hx
  have hfl : fs.size = 2 := by
    have := congrArg List.length hf
    simpa using this
  have one : ∀ j, j < 2 → ∃ z : Int, cs[j]? = some (.int .i64 z) := fun j hj => by
    have hfj : (fs.toList.map (fun f => (f.offset, f.type)))[j]? = some (j, 3) := by
      rw [hf]
      match j, hj with
      | 0, _ => rfl
      | 1, _ => rfl
    rw [List.getElem?_map] at hfj
    obtain ⟨f, f1, f2⟩ := Option.map_eq_some_iff.1 hfj
    simp only [Prod.mk.injEq] at f2
    have g := hg j f (by simpa using f1)
    rw [f2.1, f2.2, geo_int, List.getElem?_eq_getElem (show j < xs.length by omega)] at g
    obtain ⟨z, e, _⟩ := DataW.trod_int Tryz.underlying3 g
    refine ⟨z, ?_⟩
    have hjc : j < cs.size := by omega
    have e2 : (Value.agg cs).cells.toList = cs.toList := by simp [Value.cells]
    have e1 : ((Value.agg cs).cells.toList.drop j).take 1 = [cs[j]] := by
      rw [e2, List.drop_eq_getElem_cons (by simpa using hjc)]
      simp
    have e3 : [cs[j]] = [Value.int .i64 z] := e1.symm.trans e
    rw [Array.getElem?_eq_getElem hjc]
    simpa using e3
  obtain ⟨z0, e0⟩ := one 0 (by omega)
  obtain ⟨z1, e1⟩ := one 1 (by omega)
  refine ⟨z0, z1, ?_⟩
  congr 1
  apply Array.ext'
  apply List.ext_getElem?
  intro i
  match i with
  | 0 => simpa using e0
  | 1 => simpa using e1
  | i + 2 => simp [hsz]
end Go.Proofs.YtbghglkplbnnkaaGreatDoor
