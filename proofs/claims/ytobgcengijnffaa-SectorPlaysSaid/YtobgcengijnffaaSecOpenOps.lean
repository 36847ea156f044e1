/- SectorPlays' ops: the argument opened. -/
import Derived.Test.YtobgcengijnffaaSecOps
import Derived.Test.YtobgcengijnffaaSecOpen
import Derived.Deep.Slices
import Derived.ChangeArms
namespace Go.Proofs.Ytobgcengijnffaa
open Go.ChangeShapes Go.WideShapes Go.ChangeAt Go.RowKit Go.Deep

instance : Inhabited OpV := ⟨⟨0, 0, ByteArray.empty, false, none, [], 0⟩⟩
/-- One op as it lies. -/
def OpIs (w : World) (a0 : Option Addr) (i : Nat) (o : OpV) : Prop :=
  ∃ a : Addr, a0 = some a ∧ (∀ j v, o.cells[j]? = some v → w.cell? ((a.add (i * 5)).add j) = some v) ∧ IntsAt w o.ka o.kl ∧ o.k < 2 ^ 63 ∧ o.b.size ≤ maxLen
section
variable {H : Type} {enc : TypeId × Value → H} {P : Program} {W : World} {base : Nat} {spare : Nat → Bool} {held : Bool}
theorem open_opsAt {t e ti ts tb tl : TypeId} {fs : Array Field} {a0 : Option Addr} {len cap : Nat} {d : DataW H} {p : List MemPlace} (ht : P.underlying t = some (.slice e)) (he : P.underlying e = some (.struct fs)) (hC : P.cellsOf e = 5)
    (hti : P.underlying ti = some (.int .i64)) (hts : P.underlying ts = some .string) (htb : P.underlying tb = some .bool) (htl : P.underlying tl = some (.slice ti)) (ci : P.cellsOf ti = 1) (cs : P.cellsOf ts = 1) (cb : P.cellsOf tb = 1) (cl : P.cellsOf tl = 1)
    (hf : fs.toList.map (fun f => (f.offset, f.type)) = [(0, ti), (1, ti), (2, ts), (3, tb), (4, tl)])
    (h : DataW.Trod enc P W base spare held t (.slice a0 len cap) d p) : ∃ l : List OpV, l.length = len ∧ (∀ i o, l[i]? = some o → OpIs W a0 i o) ∧ len ≤ maxLen := by
  obtain ⟨fuel, hx⟩ := h
  have fld : ∀ (j : Nat) (x : Nat × TypeId), ([(0, ti), (1, ti), (2, ts), (3, tb), (4, tl)] : List (Nat × TypeId))[j]? = some x → ∃ f : Field, fs[j]? = some f ∧ f.offset = x.1 ∧ f.type = x.2 := fun j x hx => by
    rw [← hf, List.getElem?_map] at hx
    obtain ⟨f, h1, h2⟩ := Option.map_eq_some_iff.1 hx
    exact ⟨f, by simpa using h1, by rw [← h2], by rw [← h2]⟩
  rcases open_slice ht hx with ⟨hcs, _⟩ | ⟨a, len', cap', m, n, D, Pl, hcs, _, hl, hm, hmm, _, hi⟩
  · simp [Value.cells] at hcs
    obtain ⟨rfl, rfl, rfl⟩ := hcs
    exact ⟨[], rfl, fun i o ho => by simp at ho, Nat.zero_le _⟩
  · simp [Value.cells] at hcs
    obtain ⟨rfl, rfl, rfl⟩ := hcs
    have hge : len ≤ m := by split at hmm <;> omega
    have one : ∀ i, ∃ o : OpV, i < len → OpIs W (some a) i o := fun i => by
      by_cases hil : i < len
      · obtain ⟨cs', hc, ht'⟩ := hi i (by omega)
        rw [hC] at hc
        obtain ⟨_, hcl, hat⟩ := World.cells?_some hc
        obtain ⟨xs, n', _, _, _, hxl, hfd⟩ := DataW.trod_struct he ht'
        have get : ∀ (j : Nat) (x : Nat × TypeId), ([(0, ti), (1, ti), (2, ts), (3, tb), (4, tl)] : List (Nat × TypeId))[j]? = some x → ∀ (h1 : P.cellsOf x.2 = 1) (hj : j < 5) (hxj : x.1 = j), ∃ (v : Value) (y : DataW H × List MemPlace), cs'[j]? = some v ∧ DataW.trod enc P W base spare held n' x.2 [v] = some y := fun j x hx h1 hj hxj => by
          obtain ⟨f, f1, f2, f3⟩ := fld j x hx
          have g := hfd j f f1
          rw [f2, f3, h1, hxj] at g
          have hv : cs'[j]? = some (cs'[j]'(by omega)) := List.getElem?_eq_getElem (by omega)
          have e1 : (cs'.drop j).take 1 = [cs'[j]'(by omega)] := by
            rw [List.drop_eq_getElem_cons (by omega)]; rfl
          rw [e1] at g
          have hjx : j < xs.length := by
            have := (Array.getElem?_eq_some_iff.1 f1).1
            omega
          rw [List.getElem?_eq_getElem hjx] at g
          exact ⟨_, _, hv, g⟩
        obtain ⟨v0, y0, g0, r0⟩ := get 0 _ rfl ci (by omega) rfl
        obtain ⟨v1, y1, g1, r1⟩ := get 1 _ rfl ci (by omega) rfl
        obtain ⟨v2, y2, g2, r2⟩ := get 2 _ rfl cs (by omega) rfl
        obtain ⟨v3, y3, g3, r3⟩ := get 3 _ rfl cb (by omega) rfl
        obtain ⟨v4, y4, g4, r4⟩ := get 4 _ rfl cl (by omega) rfl
        obtain ⟨z0, e0, _, _⟩ := DataW.trod_int hti r0
        obtain ⟨z1, e1, _, w1⟩ := DataW.trod_int hti r1
        obtain ⟨z2, e2, _, w2⟩ := DataW.trod_string hts r2
        obtain ⟨z3, e3, _⟩ := DataW.trod_bool htb r3
        have h4 : ∃ a4 len4 cap4, v4 = .slice a4 len4 cap4 := by
          rcases open_slice htl r4 with ⟨q, _⟩ | ⟨b, l4, c4, _, _, _, _, q, _⟩
          · exact ⟨none, 0, 0, by simpa using q⟩
          · exact ⟨some b, l4, c4, by simpa using q⟩
        obtain ⟨a4, len4, cap4, rfl⟩ := h4
        obtain ⟨kl, rfl, hk, _⟩ := open_intsAt htl hti ci ⟨n', r4⟩
        obtain rfl : v0 = _ := by simpa using e0
        obtain rfl : v1 = _ := by simpa using e1
        obtain rfl : v2 = _ := by simpa using e2
        obtain rfl : v3 = _ := by simpa using e3
        refine ⟨⟨z0, z1, z2, z3, a4, kl, cap4⟩, fun _ => ⟨a, rfl, fun j v hv => ?_, hk, ?_, w2⟩⟩
        · have hj : j < 5 := by have := (List.getElem?_eq_some_iff.1 hv).1; simpa [OpV.cells] using this
          rw [hat j hj]
          have : j = 0 ∨ j = 1 ∨ j = 2 ∨ j = 3 ∨ j = 4 := by omega
          rcases this with rfl | rfl | rfl | rfl | rfl
          · rw [g0]; exact hv
          · rw [g1]; exact hv
          · rw [g2]; exact hv
          · rw [g3]; exact hv
          · rw [g4]; exact hv
        · have := w1
          simp [Lit.wf] at this
          show z1 < 2 ^ 63
          omega
      · exact ⟨default, fun q => absurd q hil⟩
    obtain ⟨f, hf'⟩ := Classical.axiomOfChoice one
    refine ⟨(List.range len).map f, by simp, fun i o ho => ?_, by omega⟩
    rw [List.getElem?_map] at ho
    obtain ⟨x, h1, rfl⟩ := Option.map_eq_some_iff.1 ho
    have hxl : i < len := by have := (List.getElem?_eq_some_iff.1 h1).1; simpa using this
    rw [List.getElem?_range hxl] at h1
    obtain rfl : i = x := by simpa using h1
    exact hf' i hxl
end
theorem cell_spot {w : World} {a : Addr} {v : Value} (h : w.cell? a = some v) : a.spot = none := by
  unfold World.cell? at h
  split at h
  · cases hs : a.spot with
    | none => rfl
    | some x => rw [hs] at h; simp at h
  · cases h
theorem IntsAt.low {w : World} {a : Option Addr} {l : List Int} (h : IntsAt w a l) : Low w.heap.size w a l := h
theorem ops_at {w : World} {a0 : Option Addr} {l : List OpV} (h : ∀ i o, l[i]? = some o → OpIs w a0 i o) : OpsAt w.heap.size w a0 l := fun i o ho => by
  have hi : 0 < l.length := by have := (List.getElem?_eq_some_iff.1 ho).1; omega
  obtain ⟨a, ha, hc, hk, h1, h2⟩ := h i o ho
  obtain ⟨a', ha', hc', _⟩ := h 0 _ (List.getElem?_eq_getElem hi)
  obtain rfl : a = a' := by rw [ha] at ha'; simpa using ha'
  have h0 : w.cell? a = some (.int .i64 (l[0]).kind) := hc' 0 _ rfl
  have hs := cell_spot h0
  obtain ⟨g, f, s⟩ := a
  obtain rfl : s = none := hs
  refine ⟨g, f, ha, World.block_lt_of_cell? w _ h0, fun j v hv => ?_, hk.low, h1, h2⟩
  have := hc j v hv
  rwa [Addr.add_mid, Addr.add_mid] at this
end Go.Proofs.Ytobgcengijnffaa
