/- Rows of structs of numbers as arguments: opened (whatever the struct). -/
import Derived.ChangeArms
import Derived.ChangeMaps5
import Derived.OpenShut
import Derived.Deep.Slices
import Derived.Test.YtooligoacgemlaaGreatDoorZBook
set_option linter.unusedVariables false
set_option linter.unusedSimpArgs false
namespace Go.Proofs.YtooligoacgemlaaGreatDoor
open Go.ChangeShapes Go.WideShapes Go.ChangeAt Go.RowKit Go.Deep
open Go.Proofs.YtooligoacgemlaaGreatDoor.Bk

section
variable {H : Type} {enc : TypeId × Value → H} {P : Program} {W : World} {base : Nat} {spare : Nat → Bool} {held : Bool}
/-- The cells of a struct of k numbers. -/
theorem trod_nums {e ti : TypeId} {fs : Array Field} {k n : Nat} {cs : List Value} {y : DataW H × List MemPlace} (he : P.underlying e = some (.struct fs)) (hti : P.underlying ti = some (.int .i64)) (ci : P.cellsOf ti = 1)
    (hf : fs.toList.map (fun f => (f.offset, f.type)) = (List.range k).map (fun j => (j, ti))) (hcl : cs.length = k) (h : DataW.trod enc P W base spare held n e cs = some y) : ∃ zs : List Int, zs.length = k ∧ cs = zs.map (Value.int .i64) ∧ ∀ z ∈ zs, (Lit.int .i64 z).wf = true := by
  obtain ⟨xs, n', _, _, _, hxl, hg⟩ := DataW.trod_struct he h
  have hfl : fs.size = k := by
    have := congrArg List.length hf
    simpa using this
  have one : ∀ j, ∃ z : Int, j < k → cs[j]? = some (.int .i64 z) ∧ (Lit.int .i64 z).wf = true := fun j => by
    by_cases hj : j < k
    · have hfj : (fs.toList.map (fun f => (f.offset, f.type)))[j]? = some (j, ti) := by
        rw [hf]; simp [hj]
      rw [List.getElem?_map] at hfj
      obtain ⟨f, f1, f2⟩ := Option.map_eq_some_iff.1 hfj
      simp only [Prod.mk.injEq] at f2
      have g := hg j f (by simpa using f1)
      rw [f2.1, f2.2, ci, List.getElem?_eq_getElem (show j < xs.length by omega)] at g
      obtain ⟨z, e, _, wz⟩ := DataW.trod_int hti g
      have e1 : (cs.drop j).take 1 = [cs[j]'(by omega)] := by
        rw [List.drop_eq_getElem_cons (by omega)]; rfl
      have e3 : [cs[j]'(by omega)] = [Value.int .i64 z] := e1.symm.trans e
      refine ⟨z, fun _ => ⟨?_, wz⟩⟩
      rw [List.getElem?_eq_getElem (by omega)]
      simpa using e3
    · exact ⟨0, fun q => absurd q hj⟩
  obtain ⟨f, hf'⟩ := Classical.axiomOfChoice one
  refine ⟨(List.range k).map f, by simp, List.ext_getElem? fun i => ?_, fun z hz => ?_⟩
  · rcases Nat.lt_or_ge i k with q | q
    · rw [(hf' i q).1]; simp [q]
    · rw [List.getElem?_eq_none (by omega), List.getElem?_eq_none (by simpa using q)]
  · obtain ⟨j, hj, rfl⟩ := List.mem_map.1 hz
    exact (hf' j (by simpa using hj)).2
/-- A slice of such structs. -/
theorem open_rowsAt {t e ti : TypeId} {fs : Array Field} {k : Nat} {a0 : Option Addr} {len cap : Nat} {d : DataW H} {p : List MemPlace} (ht : P.underlying t = some (.slice e)) (he : P.underlying e = some (.struct fs)) (hC : P.cellsOf e = k)
    (hti : P.underlying ti = some (.int .i64)) (ci : P.cellsOf ti = 1) (hf : fs.toList.map (fun f => (f.offset, f.type)) = (List.range k).map (fun j => (j, ti))) (h0 : 0 < k)
    (h : DataW.Trod enc P W base spare held t (.slice a0 len cap) d p) : ∃ l : List (List Int), l.length = len ∧ (∀ z ∈ l, z.length = k) ∧ LiesAt W a0 (l.flatMap (fun z => z.map (Value.int .i64))) ∧ len ≤ maxLen ∧ (len ≤ cap) := by
  obtain ⟨fuel, hx⟩ := h
  rcases open_slice ht hx with ⟨hcs, _⟩ | ⟨a, len', cap', m, n, D, Pl, hcs, hlc, hl, hm, hmm, _, hi⟩
  · simp [Value.cells] at hcs
    obtain ⟨rfl, rfl, rfl⟩ := hcs
    exact ⟨[], rfl, fun i ho => by simp at ho, fun j u hu => by simp at hu, Nat.zero_le _, Nat.le_refl _⟩
  · simp [Value.cells] at hcs
    obtain ⟨rfl, rfl, rfl⟩ := hcs
    have hge : len ≤ m := by split at hmm <;> omega
    have one : ∀ i, ∃ z : List Int, z.length = k ∧ (i < len → ∀ j, j < k → W.cell? ((a.add (i * k)).add j) = (z.map (Value.int .i64))[j]?) := fun i => by
      by_cases hil : i < len
      · obtain ⟨cs', hc, ht'⟩ := hi i (by omega)
        rw [hC] at hc
        obtain ⟨_, hcl, hat⟩ := World.cells?_some hc
        obtain ⟨zs, hz, rfl, _⟩ := trod_nums he hti ci hf hcl ht'
        exact ⟨zs, hz, fun _ j hj => hat j hj⟩
      · exact ⟨List.replicate k 0, by simp, fun q => absurd q hil⟩
    obtain ⟨f, hf'⟩ := Classical.axiomOfChoice one
    have hlen : ∀ l : List Nat, (l.flatMap (fun i => (f i).map (Value.int .i64))).length = l.length * k := fun l => by
      induction l with
      | nil => simp
      | cons i r ih => rw [List.flatMap_cons, List.length_append, ih, List.length_map, (hf' i).1, List.length_cons, Nat.add_mul]; omega
    refine ⟨(List.range len).map f, by simp, fun z hz => ?_, fun j u hu => ?_, by omega, by omega⟩
    · obtain ⟨i, _, rfl⟩ := List.mem_map.1 hz
      exact (hf' i).1
    · rw [List.flatMap_map] at hu
      have hj : j < len * k := by
        have := (List.getElem?_eq_some_iff.1 hu).1
        rw [hlen] at this
        simpa using this
      have hq : j / k < len := Nat.div_lt_of_lt_mul (by rw [Nat.mul_comm]; exact hj)
      have hr : j % k < k := Nat.mod_lt _ h0
      have hg : (flat (fun i => (f i).map (Value.int .i64)) (List.range len))[j / k * k + j % k]? = ((f (j / k)).map (Value.int .i64))[j % k]? := flat_get (fun i => by rw [List.length_map, (hf' i).1]) (by simp [hq]) _ hr
      rw [Nat.div_add_mod'] at hg
      have hc := (hf' (j / k)).2 hq (j % k) hr
      rw [← hg, Addr.add_add, Nat.div_add_mod'] at hc
      have hu' : (flat (fun i => (f i).map (Value.int .i64)) (List.range len))[j]? = some u := hu
      rw [hu'] at hc
      refine ⟨a, rfl, ?_, hc⟩
      have := World.block_lt_of_cell? W _ hc
      rwa [add_block] at this
end
theorem int_cells : Tryz.prog.cellsOf 3 = 1 := by kernel_rfl
theorem rows_to {α : Type} {c : α → List Value} {k : Nat} (h : ∀ zs : List Int, zs.length = k → ∃ s : α, zs.map (Value.int .i64) = c s) : ∀ l : List (List Int), (∀ z ∈ l, z.length = k) → ∃ m : List α, m.length = l.length ∧ l.flatMap (fun z => z.map (Value.int .i64)) = flat c m
  | [], _ => ⟨[], rfl, rfl⟩
  | z :: r, hz => by
    obtain ⟨s, hs⟩ := h z (hz z (by simp))
    obtain ⟨m, hm, hf⟩ := rows_to h r (fun y hy => hz y (by simp [hy]))
    exact ⟨s :: m, by simp [hm], by rw [List.flatMap_cons, hs, hf, flat_cons]⟩
end Go.Proofs.YtooligoacgemlaaGreatDoor
