import Derived.ChangeArms
import Derived.ChangeMaps5
import Derived.OpenShut
import Derived.Deep.Slices
import Derived.SliceStrings
import Derived.Test.YtiiioeodanmieaaGreatDoorYBook
import Derived.Test.YtiiioeodanmieaaGreatDoorYGeo
import Derived.Test.YtiiioeodanmieaaGreatDoorYLawT
set_option linter.unusedVariables false
set_option linter.unusedSimpArgs false
-- RowsOpen
namespace Go.Proofs.YtiiioeodanmieaaGreatDoor
open Go.ChangeShapes Go.WideShapes Go.ChangeAt Go.RowKit Go.Deep
open Go.Proofs.YtiiioeodanmieaaGreatDoor.Bk

section
variable {H : Type} {enc : TypeId × Value → H} {P : Program} {W : World} {base : Nat} {spare : Nat → Bool} {held : Bool}
theorem trod_nums {e ti : TypeId} {fs : Array Field} {k n : Nat} {cs : List Value} {y : DataW H × List MemPlace} (he : P.underlying e = some (.struct fs)) (hti : P.underlying ti = some (.int .i64)) (ci : P.cellsOf ti = 1)
    (hf : fs.toList.map (fun f => (f.offset, f.type)) = (List.range k).map (fun j => (j, ti))) (hcl : cs.length = k) (h : DataW.trod enc P W base spare held n e cs = some y) : ∃ zs : List Int, zs.length = k ∧ cs = zs.map (Value.int .i64) ∧ ∀ z ∈ zs, (Lit.int .i64 z).wf = true := by
  obtain ⟨xs, n', _, _, _, hxl, hg⟩ := DataW.trod_struct he h
  have hfl : fs.size = k := by
    have := congrArg List.length hf
    simpa using this
  have one : ∀ j, ∃ z : Int, j < k → cs[j]? = some (.int .i64 z) ∧ (Lit.int .i64 z).wf = true := fun j => by
    by_cases hj : j < k
    · have hfj : (fs.toList.map (fun f => (f.offset, f.type)))[j]? = some (j, ti) := by
        rw [hf]; simp [hj]
      rw [List.getElem?_map] at hfj
      obtain ⟨f, f1, f2⟩ := Option.map_eq_some_iff.1 hfj
      simp only [Prod.mk.injEq] at f2
      have g := hg j f (by simpa using f1)
      rw [f2.1, f2.2, ci, List.getElem?_eq_getElem (show j < xs.length by omega)] at g
      obtain ⟨z, e, _, wz⟩ := DataW.trod_int hti g
      have e1 : (cs.drop j).take 1 = [cs[j]'(by omega)] := by
        rw [List.drop_eq_getElem_cons (by omega)]; rfl
      have e3 : [cs[j]'(by omega)] = [Value.int .i64 z] := e1.symm.trans e
      refine ⟨z, fun _ => ⟨?_, wz⟩⟩
      rw [List.getElem?_eq_getElem (by omega)]
      simpa using e3
    · exact ⟨0, fun q => absurd q hj⟩
  obtain ⟨f, hf'⟩ := Classical.axiomOfChoice one
  refine ⟨(List.range k).map f, by simp, List.ext_getElem? fun i => ?_, fun z hz => ?_⟩
  · rcases Nat.lt_or_ge i k with q | q
    · rw [(hf' i q).1]; simp [q]
    · rw [List.getElem?_eq_none (by omega), List.getElem?_eq_none (by simpa using q)]
  · obtain ⟨j, hj, rfl⟩ := List.mem_map.1 hz
    exact (hf' j (by simpa using hj)).2
theorem open_rowsAt {t e ti : TypeId} {fs : Array Field} {k : Nat} {a0 : Option Addr} {len cap : Nat} {d : DataW H} {p : List MemPlace} (ht : P.underlying t = some (.slice e)) (he : P.underlying e = some (.struct fs)) (hC : P.cellsOf e = k)
    (hti : P.underlying ti = some (.int .i64)) (ci : P.cellsOf ti = 1) (hf : fs.toList.map (fun f => (f.offset, f.type)) = (List.range k).map (fun j => (j, ti))) (h0 : 0 < k)
    (h : DataW.Trod enc P W base spare held t (.slice a0 len cap) d p) : ∃ l : List (List Int), l.length = len ∧ (∀ z ∈ l, z.length = k) ∧ LiesAt W a0 (l.flatMap (fun z => z.map (Value.int .i64))) ∧ len ≤ maxLen ∧ (len ≤ cap) := by
  obtain ⟨fuel, hx⟩ := h
  rcases open_slice ht hx with ⟨hcs, _⟩ | ⟨a, len', cap', m, n, D, Pl, hcs, hlc, hl, hm, hmm, _, hi⟩
  · simp [Value.cells] at hcs
    obtain ⟨rfl, rfl, rfl⟩ := hcs
    exact ⟨[], rfl, fun i ho => by simp at ho, fun j u hu => by simp at hu, Nat.zero_le _, Nat.le_refl _⟩
  · simp [Value.cells] at hcs
    obtain ⟨rfl, rfl, rfl⟩ := hcs
    have hge : len ≤ m := by split at hmm <;> omega
    have one : ∀ i, ∃ z : List Int, z.length = k ∧ (i < len → ∀ j, j < k → W.cell? ((a.add (i * k)).add j) = (z.map (Value.int .i64))[j]?) := fun i => by
      by_cases hil : i < len
      · obtain ⟨cs', hc, ht'⟩ := hi i (by omega)
        rw [hC] at hc
        obtain ⟨_, hcl, hat⟩ := World.cells?_some hc
        obtain ⟨zs, hz, rfl, _⟩ := trod_nums he hti ci hf hcl ht'
        exact ⟨zs, hz, fun _ j hj => hat j hj⟩
      · exact ⟨List.replicate k 0, by simp, fun q => absurd q hil⟩
    obtain ⟨f, hf'⟩ := Classical.axiomOfChoice one
    have hlen : ∀ l : List Nat, (l.flatMap (fun i => (f i).map (Value.int .i64))).length = l.length * k := fun l => by
      induction l with
      | nil => simp
      | cons i r ih => rw [List.flatMap_cons, List.length_append, ih, List.length_map, (hf' i).1, List.length_cons, Nat.add_mul]; omega
    refine ⟨(List.range len).map f, by simp, fun z hz => ?_, fun j u hu => ?_, by omega, by omega⟩
    · obtain ⟨i, _, rfl⟩ := List.mem_map.1 hz
      exact (hf' i).1
    · rw [List.flatMap_map] at hu
      have hj : j < len * k := by
        have := (List.getElem?_eq_some_iff.1 hu).1
        rw [hlen] at this
        simpa using this
      have hq : j / k < len := Nat.div_lt_of_lt_mul (by rw [Nat.mul_comm]; exact hj)
      have hr : j % k < k := Nat.mod_lt _ h0
      have hg : (flat (fun i => (f i).map (Value.int .i64)) (List.range len))[j / k * k + j % k]? = ((f (j / k)).map (Value.int .i64))[j % k]? := flat_get (fun i => by rw [List.length_map, (hf' i).1]) (by simp [hq]) _ hr
      rw [Nat.div_add_mod'] at hg
      have hc := (hf' (j / k)).2 hq (j % k) hr
      rw [← hg, Addr.add_add, Nat.div_add_mod'] at hc
      have hu' : (flat (fun i => (f i).map (Value.int .i64)) (List.range len))[j]? = some u := hu
      rw [hu'] at hc
      refine ⟨a, rfl, ?_, hc⟩
      have := World.block_lt_of_cell? W _ hc
      rwa [add_block] at this
end
theorem int_cells : Tryz.prog.cellsOf 3 = 1 := by kernel_rfl
theorem rows_to {α : Type} {c : α → List Value} {k : Nat} (h : ∀ zs : List Int, zs.length = k → ∃ s : α, zs.map (Value.int .i64) = c s) : ∀ l : List (List Int), (∀ z ∈ l, z.length = k) → ∃ m : List α, m.length = l.length ∧ l.flatMap (fun z => z.map (Value.int .i64)) = flat c m
  | [], _ => ⟨[], rfl, rfl⟩
  | z :: r, hz => by
    obtain ⟨s, hs⟩ := h z (hz z (by simp))
    obtain ⟨m, hm, hf⟩ := rows_to h r (fun y hy => hz y (by simp [hy]))
    exact ⟨s :: m, by simp [hm], by rw [List.flatMap_cons, hs, hf, flat_cons]⟩
end Go.Proofs.YtiiioeodanmieaaGreatDoor
-- PairOpen
namespace Go.Proofs.YtiiioeodanmieaaGreatDoor
open Go.ChangeShapes Go.WideShapes Go.ChangeAt Go.RowKit Go.Deep
open Go.Proofs.YtiiioeodanmieaaGreatDoor.Bk

section
variable {H : Type} {enc : TypeId × Value → H} {P : Program} {W : World} {base : Nat} {spare : Nat → Bool} {held : Bool}
end
structure Two where
  a : Int
  b : Int
def Two.cells (x : Two) : List Value := [.int .i64 x.a, .int .i64 x.b]
theorem Two.len (x : Two) : x.cells.length = 2 := rfl
def Two.wf (x : Two) : Prop := (Lit.int .i64 x.a).wf = true ∧ (Lit.int .i64 x.b).wf = true
theorem two_rows : ∀ l : List (List Int), (∀ z ∈ l, z.length = 2 ∧ ∀ x ∈ z, (Lit.int .i64 x).wf = true) → ∃ m : List Two, m.length = l.length ∧ l.flatMap (fun z => z.map (Value.int .i64)) = flat Two.cells m ∧ ∀ x ∈ m, x.wf
  | [], _ => ⟨[], rfl, rfl, fun x hx => by simp at hx⟩
  | z :: r, hz => by
    obtain ⟨m, hm, hf, hw⟩ := two_rows r (fun y hy => hz y (by simp [hy]))
    obtain ⟨h2, hzw⟩ := hz z (by simp)
    match z, h2, hzw with
    | [a, b], _, hzw => exact ⟨⟨a, b⟩ :: m, by simp [hm], by rw [List.flatMap_cons, hf, flat_cons]; rfl, fun x hx => by
        rcases List.mem_cons.1 hx with rfl | q
        · exact ⟨hzw a (by simp), hzw b (by simp)⟩
        · exact hw x q⟩
end Go.Proofs.YtiiioeodanmieaaGreatDoor
-- GcOps
namespace Go.Proofs.YtiiioeodanmieaaGreatDoor
open Go.ChangeShapes Go.WideShapes Go.ChangeAt Go.RowKit Go.Deep
open Go.Proofs.YtiiioeodanmieaaGreatDoor.Bk

section
variable {H : Type} {enc : TypeId × Value → H} {P : Program} {W : World} {base : Nat} {spare : Nat → Bool} {held : Bool}
theorem open_rowsW {t e ti : TypeId} {fs : Array Field} {k : Nat} {a0 : Option Addr} {len cap : Nat} {d : DataW H} {p : List MemPlace} (ht : P.underlying t = some (.slice e)) (he : P.underlying e = some (.struct fs)) (hC : P.cellsOf e = k)
    (hti : P.underlying ti = some (.int .i64)) (ci : P.cellsOf ti = 1) (hf : fs.toList.map (fun f => (f.offset, f.type)) = (List.range k).map (fun j => (j, ti))) (h0 : 0 < k)
    (h : DataW.Trod enc P W base spare held t (.slice a0 len cap) d p) : ∃ l : List (List Int), l.length = len ∧ (∀ z ∈ l, z.length = k ∧ ∀ x ∈ z, (Lit.int .i64 x).wf = true) ∧ LiesAt W a0 (l.flatMap (fun z => z.map (Value.int .i64))) ∧ len ≤ maxLen ∧ (len ≤ cap) := by
  obtain ⟨fuel, hx⟩ := h
  rcases open_slice ht hx with ⟨hcs, _⟩ | ⟨a, len', cap', m, n, D, Pl, hcs, hlc, hl, hm, hmm, _, hi⟩
  · simp [Value.cells] at hcs
    obtain ⟨rfl, rfl, rfl⟩ := hcs
    exact ⟨[], rfl, fun i ho => by simp at ho, fun j u hu => by simp at hu, Nat.zero_le _, Nat.le_refl _⟩
  · simp [Value.cells] at hcs
    obtain ⟨rfl, rfl, rfl⟩ := hcs
    have hge : len ≤ m := by split at hmm <;> omega
    have one : ∀ i, ∃ z : List Int, (z.length = k ∧ ∀ x ∈ z, (Lit.int .i64 x).wf = true) ∧ (i < len → ∀ j, j < k → W.cell? ((a.add (i * k)).add j) = (z.map (Value.int .i64))[j]?) := fun i => by
      by_cases hil : i < len
      · obtain ⟨cs', hc, ht'⟩ := hi i (by omega)
        rw [hC] at hc
        obtain ⟨_, hcl, hat⟩ := World.cells?_some hc
        obtain ⟨zs, hz, rfl, hw⟩ := trod_nums he hti ci hf hcl ht'
        exact ⟨zs, ⟨hz, hw⟩, fun _ j hj => hat j hj⟩
      · exact ⟨List.replicate k 0, ⟨by simp, fun x hx => by
          obtain rfl := (List.mem_replicate.1 hx).2
          decide⟩, fun q => absurd q hil⟩
    obtain ⟨f, hf'⟩ := Classical.axiomOfChoice one
    have hlen : ∀ l : List Nat, (l.flatMap (fun i => (f i).map (Value.int .i64))).length = l.length * k := fun l => by
      induction l with
      | nil => simp
      | cons i r ih => rw [List.flatMap_cons, List.length_append, ih, List.length_map, (hf' i).1.1, List.length_cons, Nat.add_mul]; omega
    refine ⟨(List.range len).map f, by simp, fun z hz => ?_, fun j u hu => ?_, by omega, by omega⟩
    · obtain ⟨i, _, rfl⟩ := List.mem_map.1 hz
      exact (hf' i).1
    · rw [List.flatMap_map] at hu
      have hj : j < len * k := by
        have := (List.getElem?_eq_some_iff.1 hu).1
        rw [hlen] at this
        simpa using this
      have hq : j / k < len := Nat.div_lt_of_lt_mul (by rw [Nat.mul_comm]; exact hj)
      have hr : j % k < k := Nat.mod_lt _ h0
      have hg : (flat (fun i => (f i).map (Value.int .i64)) (List.range len))[j / k * k + j % k]? = ((f (j / k)).map (Value.int .i64))[j % k]? := flat_get (fun i => by rw [List.length_map, (hf' i).1.1]) (by simp [hq]) _ hr
      rw [Nat.div_add_mod'] at hg
      have hc := (hf' (j / k)).2 hq (j % k) hr
      rw [← hg, Addr.add_add, Nat.div_add_mod'] at hc
      have hu' : (flat (fun i => (f i).map (Value.int .i64)) (List.range len))[j]? = some u := hu
      rw [hu'] at hc
      refine ⟨a, rfl, ?_, hc⟩
      have := World.block_lt_of_cell? W _ hc
      rwa [add_block] at this
end
set_option maxRecDepth 100000 in
theorem gcop_fields : ∃ fs : Array Field, Tryz.prog.underlying 43 = some (.struct fs) ∧ fs.toList.map (fun f => (f.offset, f.type)) = (List.range 2).map (fun j => (j, 3)) :=
  ⟨_, Tryz.underlying43, rfl⟩
set_option maxRecDepth 100000 in
theorem gcop_cells : Tryz.prog.cellsOf 43 = 2 := by kernel_rfl
theorem open_gcopsAt {H : Type} {enc : TypeId × Value → H} {W : World} {base : Nat} {spare : Nat → Bool} {held : Bool} {a0 : Option Addr} {len cap : Nat} {d : DataW H} {p : List MemPlace}
    (h : DataW.Trod enc Tryz.prog W base spare held 26 (.slice a0 len cap) d p) : ∃ l : List Two, l.length = len ∧ LiesAt W a0 (flat Two.cells l) ∧ len ≤ maxLen ∧ (∀ x ∈ l, x.wf) := by
  obtain ⟨fs, hs, hf⟩ := gcop_fields
  obtain ⟨l, h1, h2, h3, h4, _⟩ := open_rowsW Tryz.underlying26 hs gcop_cells Tryz.underlying3 int_cells hf (by decide) h
  obtain ⟨m, hm, hfl, hw⟩ := two_rows l h2
  exact ⟨m, by omega, by rw [← hfl]; exact h3, h4, hw⟩
end Go.Proofs.YtiiioeodanmieaaGreatDoor
-- GeoOpen
namespace Go.Proofs.YtiiioeodanmieaaGreatDoor
open Go.ChangeShapes Go.WideShapes Go.ChangeAt Go.RowKit

set_option maxRecDepth 100000 in
theorem geo_fields : ∃ fs : Array Field, Tryz.prog.underlying 23 = some (.struct fs) ∧ fs.toList.map (fun f => (f.offset, f.type)) = [(0, 3), (1, 3)] :=
  ⟨_, Tryz.underlying23, rfl⟩
theorem geo_cells : Tryz.prog.cellsOf 23 = 2 := by kernel_rfl
theorem geo_int : Tryz.prog.cellsOf 3 = 1 := by kernel_rfl
set_option maxRecDepth 100000 in
theorem open_geo {H : Type} {enc : TypeId × Value → H} {W : World} {base b0 : Nat} {spare : Nat → Bool} {held : Bool} {r : Reach} {v : Value} {d : DataW H} {p : List MemPlace}
    (hv : Value.okWide Tryz.prog W r b0 23 v) (h : DataW.Trod enc Tryz.prog W base spare held 23 v d p) : ∃ h l : Int, v = .agg #[.int .i64 h, .int .i64 l] := by
  obtain ⟨fs, hs, hf⟩ := geo_fields
  obtain ⟨cs, rfl, hsz⟩ := okWide_struct hs hv
  rw [geo_cells] at hsz
  obtain ⟨fuel, hx⟩ := h
  obtain ⟨xs, n, _, _, hcl, hxl, hg⟩ := DataW.trod_struct hs hx
  have hfl : fs.size = 2 := by
    have := congrArg List.length hf
    simpa using this
  have one : ∀ j, j < 2 → ∃ z : Int, cs[j]? = some (.int .i64 z) := fun j hj => by
    have hfj : (fs.toList.map (fun f => (f.offset, f.type)))[j]? = some (j, 3) := by
      rw [hf]
      match j, hj with
      | 0, _ => rfl
      | 1, _ => rfl
    rw [List.getElem?_map] at hfj
    obtain ⟨f, f1, f2⟩ := Option.map_eq_some_iff.1 hfj
    simp only [Prod.mk.injEq] at f2
    have g := hg j f (by simpa using f1)
    rw [f2.1, f2.2, geo_int, List.getElem?_eq_getElem (show j < xs.length by omega)] at g
    obtain ⟨z, e, _⟩ := DataW.trod_int Tryz.underlying3 g
    refine ⟨z, ?_⟩
    have hjc : j < cs.size := by omega
    have e2 : (Value.agg cs).cells.toList = cs.toList := by simp [Value.cells]
    have e1 : ((Value.agg cs).cells.toList.drop j).take 1 = [cs[j]] := by
      rw [e2, List.drop_eq_getElem_cons (by simpa using hjc)]
      simp
    have e3 : [cs[j]] = [Value.int .i64 z] := e1.symm.trans e
    rw [Array.getElem?_eq_getElem hjc]
    simpa using e3
  obtain ⟨z0, e0⟩ := one 0 (by omega)
  obtain ⟨z1, e1⟩ := one 1 (by omega)
  refine ⟨z0, z1, ?_⟩
  congr 1
  apply Array.ext'
  apply List.ext_getElem?
  intro i
  match i with
  | 0 => simpa using e0
  | 1 => simpa using e1
  | i + 2 => simp [hsz]
end Go.Proofs.YtiiioeodanmieaaGreatDoor
-- BookOpen
namespace Go.Proofs.YtiiioeodanmieaaGreatDoor.Bk
open Go.ChangeShapes Go.WideShapes Go.ChangeAt Go.RowKit

section
variable {H : Type} {enc : TypeId × Value → H} {P : Program} {W : World} {base : Nat} {spare : Nat → Bool} {held : Bool}
theorem cell_block_lt {a : Addr} {v : Value} (h : W.cell? a = some v) : a.block < W.heap.size := World.block_lt_of_cell? W a h
theorem lies_vals {a : Option Addr} {l : List Int} (h : ∀ (j : Nat) (s : Int), l[j]? = some s → ∃ b : Addr, a = some b ∧ b.block < W.heap.size ∧ W.cell? (b.add j) = some (.int .i64 s)) : LiesAt W a (vals l) := fun j u hu => by
  rw [vals, List.getElem?_map, Option.map_eq_some_iff] at hu
  obtain ⟨x, hx, rfl⟩ := hu
  exact h j x hx
theorem open_intsAt {t e : TypeId} {a0 : Option Addr} {len cap : Nat} {d : DataW H} {p : List MemPlace} (ht : P.underlying t = some (.slice e)) (he : P.underlying e = some (.int .i64)) (hc : P.cellsOf e = 1)
    (h : DataW.Trod enc P W base spare held t (.slice a0 len cap) d p) : ∃ l : List Int, l.length = len ∧ LiesAt W a0 (vals l) ∧ (∀ x ∈ l, (Lit.int .i64 x).wf = true) ∧ len ≤ maxLen := by
  obtain ⟨fuel, hf⟩ := h
  rcases open_ints ht he hc hf with ⟨hcs, _⟩ | ⟨a, len', cap', zs, hcs, _, hl, hm, hz, _, hcell, hws⟩
  · simp [Value.cells] at hcs
    obtain ⟨rfl, rfl, rfl⟩ := hcs
    exact ⟨[], rfl, lies_vals (fun j s hs => by simp at hs), fun s hs => by simp at hs, Nat.zero_le _⟩
  · simp [Value.cells] at hcs
    obtain ⟨rfl, rfl, rfl⟩ := hcs
    have hge : len ≤ zs.length := by split at hz <;> omega
    refine ⟨zs.take len, by simp; omega, lies_vals (fun j s hs => ?_), fun s hs => hws s (List.mem_of_mem_take hs), by omega⟩
    have hj : j < len := by have := (List.getElem?_eq_some_iff.1 hs).1; simp at this; omega
    have hs' : zs[j]? = some s := by rw [List.getElem?_take_of_lt hj] at hs; exact hs
    have := hcell j (by omega)
    rw [List.getD, hs'] at this
    exact ⟨a, rfl, by have := cell_block_lt this; rwa [add_block] at this, this⟩
end

theorem cellsInt : Tryz.prog.cellsOf 3 = 1 := by kernel_rfl
end Go.Proofs.YtiiioeodanmieaaGreatDoor.Bk
-- EntryOpen
namespace Go.Proofs.YtiiioeodanmieaaGreatDoor
open Go.ChangeShapes Go.WideShapes Go.ChangeAt Go.RowKit Go.Deep
open Go.Proofs.YtiiioeodanmieaaGreatDoor.Bk

theorem chg_fields : ∃ fs : Array Field, Tryz.prog.underlying 98 = some (.struct fs) ∧ fs.toList.map (fun f => (f.offset, f.type)) = (List.range 2).map (fun j => (j, 3)) := ⟨_, Tryz.underlying98, rfl⟩
theorem chg_cells : Tryz.prog.cellsOf 98 = 2 := by kernel_rfl
theorem chg_of_nums (zs : List Int) (h : zs.length = 2) : ∃ s : Chg, zs.map (Value.int .i64) = s.cells := by
  match zs, h with
  | [a, b], _ => exact ⟨⟨a, b⟩, rfl⟩
theorem open_chgsAt {H : Type} {enc : TypeId × Value → H} {W : World} {base : Nat} {spare : Nat → Bool} {held : Bool} {a0 : Option Addr} {len cap : Nat} {d : DataW H} {p : List MemPlace}
    (h : DataW.Trod enc Tryz.prog W base spare held 24 (.slice a0 len cap) d p) : ∃ l : List Chg, l.length = len ∧ LiesAt W a0 (flat Chg.cells l) ∧ len ≤ maxLen ∧ len ≤ cap := by
  obtain ⟨fs, hs, hf⟩ := chg_fields
  obtain ⟨l, h1, h2, h3, h4, h5⟩ := open_rowsAt Tryz.underlying24 hs chg_cells Tryz.underlying3 int_cells hf (by omega) h
  obtain ⟨m, hm, hfl⟩ := rows_to chg_of_nums l h2
  exact ⟨m, by omega, by rw [← hfl]; exact h3, h4, h5⟩
end Go.Proofs.YtiiioeodanmieaaGreatDoor
