import Derived.OpenShut
import Derived.Deep.Slices
import Derived.BigRegion
import Derived.BigQuiet
import Derived.Test.YtbghglkplbnnkaaGreatDoorYBookOpen
import Derived.Test.YtbghglkplbnnkaaGreatDoorYBook
set_option linter.unusedVariables false
set_option linter.unusedSimpArgs false
-- GraphOpen
namespace Go.Proofs.YtbghglkplbnnkaaGreatDoor
open Go.ChangeShapes Go.WideShapes Go.ChangeAt Go.RowKit Go.Deep
open Go.Proofs.YtbghglkplbnnkaaGreatDoor.Bk

structure IArg where
  a : Option Addr
  l : List Int
  c : Nat
def IArg.val (x : IArg) : Value := .slice x.a x.l.length x.c
def IArg.At (W : World) (x : IArg) : Prop := LiesAt W x.a (vals x.l) ∧ (∀ z ∈ x.l, (Lit.int .i64 z).wf = true) ∧ x.l.length ≤ maxLen
structure NArg where
  s : IArg
  w : IArg
def NArg.cells (x : NArg) : List Value := [x.s.val, x.w.val]
theorem NArg.len (x : NArg) : x.cells.length = 2 := rfl
def NArg.At (W : World) (x : NArg) : Prop := x.s.At W ∧ x.w.At W
structure GArg where
  r : IArg
  a : Option Addr
  n : List NArg
  c : Nat
def GArg.val (x : GArg) : Value := .agg #[x.r.val, .slice x.a x.n.length x.c]
def GArg.At (W : World) (x : GArg) : Prop := x.r.At W ∧ LiesAt W x.a (flat NArg.cells x.n) ∧ (∀ z ∈ x.n, z.At W) ∧ x.n.length ≤ maxLen

section
variable {H : Type} {enc : TypeId × Value → H} {W : World} {base b0 : Nat} {spare : Nat → Bool} {held : Bool}
set_option maxRecDepth 100000 in
theorem gr_int : Tryz.prog.cellsOf 3 = 1 := by kernel_rfl
theorem gr_ints : Tryz.prog.cellsOf 24 = 1 := by kernel_rfl
theorem gr_nodes : Tryz.prog.cellsOf 25 = 1 := by kernel_rfl
theorem gr_node : Tryz.prog.cellsOf 61 = 2 := by kernel_rfl
theorem gr_graph : Tryz.prog.cellsOf 27 = 2 := by kernel_rfl
set_option maxRecDepth 100000 in
theorem open_iarg {n : Nat} {cs : List Value} {y : DataW H × List MemPlace} (h : DataW.trod enc Tryz.prog W base spare held n 24 cs = some y) : ∃ x : IArg, cs = [x.val] ∧ x.At W := by
  have h4 : ∃ a4 len4 cap4, cs = [.slice a4 len4 cap4] := by
    rcases open_slice Tryz.underlying24 h with ⟨q, _⟩ | ⟨b, l4, c4, _, _, _, _, q, _⟩
    · exact ⟨none, 0, 0, by simpa using q⟩
    · exact ⟨some b, l4, c4, by simpa using q⟩
  obtain ⟨a4, len4, cap4, rfl⟩ := h4
  obtain ⟨l, rfl, h1, h2, h3⟩ := open_intsAt Tryz.underlying24 Tryz.underlying3 gr_int (p := y.2) (d := y.1) ⟨n, h⟩
  exact ⟨⟨a4, l, cap4⟩, rfl, h1, h2, h3⟩
set_option maxRecDepth 100000 in
theorem node_fields : ∃ fs : Array Field, Tryz.prog.underlying 61 = some (.struct fs) ∧ fs.toList.map (fun f => (f.offset, f.type)) = [(0, 24), (1, 24)] :=
  ⟨_, Tryz.underlying61, rfl⟩
set_option maxRecDepth 100000 in
theorem graph_fields : ∃ fs : Array Field, Tryz.prog.underlying 27 = some (.struct fs) ∧ fs.toList.map (fun f => (f.offset, f.type)) = [(0, 24), (1, 25)] :=
  ⟨_, Tryz.underlying27, rfl⟩
set_option maxRecDepth 100000 in
theorem two_fields {t t0 t1 : TypeId} {fs : Array Field} {n : Nat} {cs : List Value} {y : DataW H × List MemPlace} (hs : Tryz.prog.underlying t = some (.struct fs)) (hf : fs.toList.map (fun f => (f.offset, f.type)) = [(0, t0), (1, t1)])
    (c0 : Tryz.prog.cellsOf t0 = 1) (c1 : Tryz.prog.cellsOf t1 = 1) (hl : cs.length = 2) (h : DataW.trod enc Tryz.prog W base spare held n t cs = some y) : ∃ v0 v1 m y0 y1, cs = [v0, v1] ∧ DataW.trod enc Tryz.prog W base spare held m t0 [v0] = some y0 ∧ DataW.trod enc Tryz.prog W base spare held m t1 [v1] = some y1 := by
  obtain ⟨xs, m, _, _, _, hxl, hg⟩ := DataW.trod_struct hs h
  have hfl : fs.size = 2 := by
    have := congrArg List.length hf
    simpa using this
  match cs, hl with
  | [v0, v1], _ =>
    have one : ∀ j (hj : j < 2), ∃ f : Field, fs[j]? = some f ∧ (f.offset, f.type) = [(0, t0), (1, t1)][j] := fun j hj => by
      have hfj : (fs.toList.map (fun f => (f.offset, f.type)))[j]? = some ([(0, t0), (1, t1)][j]) := by
        rw [hf]
        exact List.getElem?_eq_getElem hj
      rw [List.getElem?_map] at hfj
      obtain ⟨f, f1, f2⟩ := Option.map_eq_some_iff.1 hfj
      exact ⟨f, by simpa using f1, f2⟩
    obtain ⟨f0, a0, b0⟩ := one 0 (by decide)
    obtain ⟨f1, a1, b1⟩ := one 1 (by decide)
    have g0 := hg 0 f0 a0
    have g1 := hg 1 f1 a1
    have e0 : f0.offset = 0 ∧ f0.type = t0 := by simpa using b0
    have e1 : f1.offset = 1 ∧ f1.type = t1 := by simpa using b1
    rw [e0.1, e0.2, c0, List.getElem?_eq_getElem (show 0 < xs.length by omega)] at g0
    rw [e1.1, e1.2, c1, List.getElem?_eq_getElem (show 1 < xs.length by omega)] at g1
    exact ⟨v0, v1, m, _, _, rfl, g0, g1⟩
set_option maxRecDepth 100000 in
theorem open_ncells {n : Nat} {cs : List Value} {y : DataW H × List MemPlace} (hl : cs.length = 2) (h : DataW.trod enc Tryz.prog W base spare held n 61 cs = some y) : ∃ x : NArg, cs = x.cells ∧ x.At W := by
  obtain ⟨fs, hs, hf⟩ := node_fields
  obtain ⟨v0, v1, m, y0, y1, rfl, g0, g1⟩ := two_fields hs hf gr_ints gr_ints hl h
  obtain ⟨x0, e0, k0⟩ := open_iarg g0
  obtain ⟨x1, e1, k1⟩ := open_iarg g1
  obtain rfl : v0 = x0.val := by simpa using e0
  obtain rfl : v1 = x1.val := by simpa using e1
  exact ⟨⟨x0, x1⟩, rfl, k0, k1⟩
set_option maxRecDepth 100000 in
theorem open_nodes {a0 : Option Addr} {len cap n : Nat} {y : DataW H × List MemPlace} (h : DataW.trod enc Tryz.prog W base spare held n 25 [.slice a0 len cap] = some y) : ∃ l : List NArg, l.length = len ∧ LiesAt W a0 (flat NArg.cells l) ∧ (∀ z ∈ l, z.At W) ∧ len ≤ maxLen := by
  rcases open_slice Tryz.underlying25 h with ⟨hcs, _⟩ | ⟨a, len', cap', m, n, D, Pl, hcs, hlc, hl, hm, hmm, _, hi⟩
  · simp at hcs
    obtain ⟨rfl, rfl, rfl⟩ := hcs
    exact ⟨[], rfl, fun j u hu => by simp [flat] at hu, fun z hz => by simp at hz, Nat.zero_le _⟩
  · simp at hcs
    obtain ⟨rfl, rfl, rfl⟩ := hcs
    have hge : len ≤ m := by split at hmm <;> omega
    have one : ∀ i, ∃ z : NArg, i < len → z.At W ∧ ∀ j, j < 2 → W.cell? ((a.add (i * 2)).add j) = z.cells[j]? := fun i => by
      by_cases hil : i < len
      · obtain ⟨cs', hc, ht'⟩ := hi i (by omega)
        rw [gr_node] at hc
        obtain ⟨_, hcl, hat⟩ := World.cells?_some hc
        obtain ⟨z, rfl, hz⟩ := open_ncells hcl ht'
        exact ⟨z, fun _ => ⟨hz, fun j hj => hat j hj⟩⟩
      · exact ⟨⟨⟨none, [], 0⟩, ⟨none, [], 0⟩⟩, fun q => absurd q hil⟩
    obtain ⟨f, hf'⟩ := Classical.axiomOfChoice one
    refine ⟨(List.range len).map f, by simp, fun j u hu => ?_, fun z hz => ?_, by omega⟩
    · have hu' : (flat (fun i => (f i).cells) (List.range len))[j]? = some u := by
        rw [← hu, flat, flat, List.flatMap_map]
      have hlen : (flat (fun i => (f i).cells) (List.range len)).length = len * 2 := by
        have : ∀ l : List Nat, (flat (fun i => (f i).cells) l).length = l.length * 2 := fun l => by
          induction l with
          | nil => rfl
          | cons i r ih => rw [flat_cons, List.length_append, ih, NArg.len, List.length_cons]; omega
        rw [this, List.length_range]
      have hj : j < len * 2 := by
        have := (List.getElem?_eq_some_iff.1 hu').1
        omega
      have hq : j / 2 < len := by omega
      have hr : j % 2 < 2 := by omega
      have hg : (flat (fun i => (f i).cells) (List.range len))[j / 2 * 2 + j % 2]? = ((f (j / 2)).cells)[j % 2]? := flat_get (fun i => (f i).len) (by simp [hq]) _ hr
      rw [Nat.div_add_mod'] at hg
      have hc := (hf' (j / 2) hq).2 (j % 2) hr
      rw [← hg, Addr.add_add, Nat.div_add_mod', hu'] at hc
      refine ⟨a, rfl, ?_, hc⟩
      have := World.block_lt_of_cell? W _ hc
      rwa [add_block] at this
    · obtain ⟨i, hi', rfl⟩ := List.mem_map.1 hz
      exact (hf' i (by simpa using hi')).1
set_option maxRecDepth 100000 in
theorem open_graph {r : Reach} {v : Value} {d : DataW H} {p : List MemPlace} (hv : Value.okWide Tryz.prog W r b0 27 v) (h : DataW.Trod enc Tryz.prog W base spare held 27 v d p) : ∃ x : GArg, v = x.val ∧ x.At W := by
  obtain ⟨fs, hs, hf⟩ := graph_fields
  obtain ⟨cs, rfl, hsz⟩ := okWide_struct hs hv
  rw [gr_graph] at hsz
  obtain ⟨fuel, hx⟩ := h
  have e2 : (Value.agg cs).cells.toList = cs.toList := by simp [Value.cells]
  rw [e2] at hx
  obtain ⟨v0, v1, m, y0, y1, hc, g0, g1⟩ := two_fields hs hf gr_ints gr_nodes (by simpa using hsz) hx
  obtain ⟨x0, q0, k0⟩ := open_iarg g0
  obtain rfl : v0 = x0.val := by simpa using q0
  have h4 : ∃ a4 len4 cap4, v1 = .slice a4 len4 cap4 := by
    rcases open_slice Tryz.underlying25 g1 with ⟨q, _⟩ | ⟨b, l4, c4, _, _, _, _, q, _⟩
    · exact ⟨none, 0, 0, by simpa using q⟩
    · exact ⟨some b, l4, c4, by simpa using q⟩
  obtain ⟨a4, len4, cap4, rfl⟩ := h4
  obtain ⟨l, rfl, k1, k2, k3⟩ := open_nodes g1
  refine ⟨⟨x0, a4, l, cap4⟩, ?_, k0, k1, k2, k3⟩
  have : cs = #[x0.val, .slice a4 l.length cap4] := by apply Array.ext'; rw [hc]
  rw [this]
  rfl
end
end Go.Proofs.YtbghglkplbnnkaaGreatDoor
-- GraphRef
namespace Go.Proofs.YtbghglkplbnnkaaGreatDoor
open Go.RowKit
open Go.Proofs.YtbghglkplbnnkaaGreatDoor.Bk

set_option maxHeartbeats 400000 in
theorem rints_is (l1 l2 : List Int) (a1 a2 : Option Addr) (c1 c2 : Nat) (w : World) (h1 : LiesAt w a1 (vals l1)) (h2 : LiesAt w a2 (vals l2)) (m1 : l1.length ≤ maxLen) (m2 : l2.length ≤ maxLen) (t : Bool) (ht : t = true ↔ l1 = l2) :
    Calls Tryz.prog 42 #[.slice a1 l1.length c1, .slice a2 l2.length c2] w fun e w' => e = .returned (.bool t) ∧ ∃ m, w' = w.drewN m := by
  unfold maxLen at m1 m2
  have H := Lib.hid (And.intro h1 h2)
  have HT := Lib.hid ht
  clear h1 h2 ht
  by_cases hl : l1.length = l2.length
  · have hle : (l1.length : Int) = (l2.length : Int) := by omega
    have HL := Lib.hid hl
    clear hl
    go_enter Tryz.func42, Tryz.ntmps42
    go_wp2
    have HLE := Lib.hid hle
    clear hle
    go_loopw [5] (fun i wr => ∃ (k m : Nat), k ≤ l1.length ∧ i = .int .i64 (k : Int) ∧ wr = w.drewN m ∧ Hid (l1.take k = l2.take k)) (fun i _ => l1.length - (intOf i).toNat)
    case atStart => exact ⟨0, 0, Nat.zero_le _, rfl, rfl, Lib.hid rfl⟩
    case round =>
      obtain ⟨k, m, hk, rfl, rfl, hp⟩ := hrel
      by_cases hlt : k < l1.length
      · have hlt2 : k < l2.length := by have := HL.out; omega
        obtain ⟨b1, rfl, _, e1⟩ := H.out.1.at_ (k := k) (v := Value.int .i64 l1[k]) (by simp [vals, hlt])
        obtain ⟨b2, rfl, _, e2⟩ := H.out.2.at_ (k := k) (v := Value.int .i64 l2[k]) (by simp [vals, hlt2])
        have hi1 : (k : Int) < (l1.length : Int) := by omega
        have hi2 : (k : Int) < (l2.length : Int) := by omega
        by_cases hxy : l1[k] = l2[k]
        · have HN := Lib.hid (take_next hp.out hlt hlt2 hxy)
          rw [← hxy] at e2
          clear hxy
          generalize l1[k] = x at *
          go_wp2_with fail
          go_quiet (fail)
          go_wp2
          exact ⟨⟨k + 1, m + nq, by omega, by go_num, rfl, HN⟩, by simp [intOf]; omega⟩
        · have hf : t = false := by
            cases t
            · rfl
            · have := HT.out.1 rfl
              subst this
              exact absurd rfl hxy
          have hne := ne_int hxy
          subst hf
          clear hxy
          generalize l1[k] = x at *
          generalize l2[k] = y at *
          go_wp2_with fail
          go_quiet (fail)
          go_wp2
          go_ret
          exact ⟨rfl, drewN_add w m nq⟩
      · obtain rfl : k = l1.length := by omega
        have hf : t = true := HT.out.2 (by
          have := hp.out
          rwa [List.take_of_length_le (Nat.le_refl _), List.take_of_length_le (by rw [HL.out]; exact Nat.le_refl _)] at this)
        subst hf
        have hn : ¬ (l1.length : Int) < (l1.length : Int) := by omega
        clear hlt hk
        go_wp2
        go_ret
        exact ⟨rfl, m, rfl⟩
  · have hf : t = false := by
      cases t
      · rfl
      · exact absurd (congrArg List.length (HT.out.1 rfl)) hl
    subst hf
    have hne : ((l1.length : Int) == (l2.length : Int)) = false := by simp; omega
    have hne2 : ((l1.length : Int) != (l2.length : Int)) = true := by simp; omega
    go_enter Tryz.func42, Tryz.ntmps42
    go_wp2
    all_goals
      go_ret
      exact ⟨rfl, 0, rfl⟩

def nSize : List NArg → Int
  | [] => 0
  | x :: r => 1 + x.s.l.length + x.w.l.length + nSize r
theorem nSize_app : ∀ a b : List NArg, nSize (a ++ b) = nSize a + nSize b
  | [], b => by rw [List.nil_append, nSize]; omega
  | x :: a, b => by rw [List.cons_append, nSize, nSize, nSize_app a b]; omega
theorem nSize_le : ∀ l : List NArg, (∀ z ∈ l, z.s.l.length ≤ 1000 ∧ z.w.l.length ≤ 1000) → 0 ≤ nSize l ∧ nSize l ≤ 2001 * l.length
  | [], _ => by rw [nSize]; exact ⟨Int.le_refl _, by simp⟩
  | x :: r, h => by
    have h1 := h x (by simp)
    have h2 := nSize_le r (fun z hz => h z (by simp [hz]))
    rw [nSize, List.length_cons]
    omega
set_option maxRecDepth 100000 in
set_option maxHeartbeats 1000000 in
theorem rsize_is (g : GArg) (w : World) (h : LiesAt w g.a (flat NArg.cells g.n)) (hl : g.n.length ≤ 1000) (hs : ∀ z ∈ g.n, z.s.l.length ≤ 1000 ∧ z.w.l.length ≤ 1000) : Calls Tryz.prog 19 #[g.val] w fun e w' => e = .returned (.int .i64 (nSize g.n)) ∧ Below w.heap.size w w' := by
  obtain ⟨gr, ga, gn, gc⟩ := g
  have H := Lib.hid h
  have HB : Hid (∀ k, 0 ≤ nSize (gn.take k) ∧ nSize (gn.take k) ≤ 2001000) := Lib.hid (fun k => by
    have := nSize_le (gn.take k) (fun z hz => hs z (List.mem_of_mem_take hz))
    have hk : (gn.take k).length ≤ 1000 := by
      rw [List.length_take]
      exact Nat.le_trans (Nat.min_le_right _ _) hl
    omega)
  have hl' : gn.length ≤ 1000 := hl
  have HS := Lib.hid hs
  clear h hl hs
  unfold GArg.val IArg.val
  go_enter Tryz.func19, Tryz.ntmps19
  go_wp2
  go_loopw [3, 4] (fun n i wr => ∃ k : Nat, k ≤ gn.length ∧ i = .int .i64 (k : Int) ∧ n = .int .i64 (nSize (gn.take k)) ∧ Hid (Below w.heap.size w wr ∧ wr.cell? ⟨w.heap.size, 1, none⟩ = some (.slice ga gn.length gc) ∧ w.heap.size < wr.heap.size)) (fun _ i _ => gn.length - (intOf i).toNat)
  case atStart => exact ⟨0, Nat.zero_le _, rfl, rfl, Lib.hid ⟨(Below.refl _ _).alloc (Nat.le_refl _) _, by simp, by simp⟩⟩
  case round =>
    obtain ⟨k, hk, rfl, rfl, HR⟩ := hrel
    have c1 := HR.out.2.1
    by_cases hlt : k < gn.length
    · have hx : gn[k]? = some gn[k] := List.getElem?_eq_getElem hlt
      obtain ⟨g1, o1, rfl, hg1, e1⟩ := (H.out.below HR.out.1).elem NArg.len (by omega) hx
      have e1_0 := e1 0 _ rfl
      have e1_1 := e1 1 _ rfl
      rw [Nat.add_zero] at e1_0
      unfold IArg.val at e1_0 e1_1
      clear e1
      have hi1 : (k : Int) < (gn.length : Int) := by omega
      have hb := HB.out k
      have hs1 := HS.out gn[k] (List.getElem_mem hlt)
      have hstep : nSize (gn.take (k + 1)) = nSize (gn.take k) + 1 + gn[k].s.l.length + gn[k].w.l.length := by
        rw [List.take_succ_eq_append_getElem hlt, nSize_app, nSize, nSize]
        omega
      have HT := Lib.hid hstep
      clear hstep
      generalize nSize (gn.take k) = z at *
      generalize gn[k].s.l.length = p at *
      generalize gn[k].w.l.length = q at *
      obtain ⟨hb0, hb1⟩ := hb
      obtain ⟨hs1, hs2⟩ := hs1
      go_wp2_with fail
      go_quiet (fail)
      go_wp2_with fail
      refine ⟨⟨k + 1, by omega, by go_num, by rw [HT.out], Lib.hid ⟨bel_drewN HR.out.1 _, HR.out.2.1, HR.out.2.2⟩⟩, by simp [intOf]; omega⟩
    · obtain rfl : k = gn.length := by omega
      have hn : ¬ (gn.length : Int) < (gn.length : Int) := by omega
      go_wp2_with fail
      go_ret
      exact ⟨rfl, HR.out.1⟩

def NArg.data (x : NArg) : List Int × List Int := (x.s.l, x.w.l)
def gAlike (A B : GArg) : Bool := decide (A.r.l = B.r.l ∧ A.n.map NArg.data = B.n.map NArg.data)
theorem take_map_next {A B : List NArg} {k : Nat} (h : (A.take k).map NArg.data = (B.take k).map NArg.data) (h1 : k < A.length) (h2 : k < B.length) (e : A[k].data = B[k].data) : (A.take (k + 1)).map NArg.data = (B.take (k + 1)).map NArg.data := by
  rw [List.take_succ_eq_append_getElem h1, List.take_succ_eq_append_getElem h2, List.map_append, List.map_append, h, List.map_cons, List.map_cons, e]
theorem map_ne {A B : List NArg} {k : Nat} (h1 : k < A.length) (h2 : k < B.length) (e : A[k].data ≠ B[k].data) : A.map NArg.data ≠ B.map NArg.data := fun q => e (by
  have := congrArg (fun l => l[k]?) q
  simp only [List.getElem?_map, List.getElem?_eq_getElem h1, List.getElem?_eq_getElem h2, Option.map_some] at this
  exact Option.some.inj this)
theorem IArg.At.below {w w' : World} {x : IArg} (h : x.At w) (b : Below w.heap.size w w') : x.At w' := ⟨h.1.below b, h.2⟩
theorem NArg.At.below {w w' : World} {x : NArg} (h : x.At w) (b : Below w.heap.size w w') : x.At w' := ⟨h.1.below b, h.2.below b⟩
theorem GArg.At.below {w w' : World} {x : GArg} (h : x.At w) (b : Below w.heap.size w w') : x.At w' := ⟨h.1.below b, h.2.1.below b, fun z hz => (h.2.2.1 z hz).below b, h.2.2.2⟩
set_option maxRecDepth 100000 in
set_option maxHeartbeats 4000000 in
theorem ralike_is (A B : GArg) (w : World) (hA : A.At w) (hB : B.At w) : Calls Tryz.prog 17 #[A.val, B.val] w fun e w' => e = .returned (.bool (gAlike A B)) ∧ Below w.heap.size w w' := by
  have HA := Lib.hid hA
  have HB := Lib.hid hB
  have HI : Hid (∀ (x y : IArg) (u : World) (t : Bool), x.At u → y.At u → (t = true ↔ x.l = y.l) → Calls Tryz.prog 42 #[.slice x.a x.l.length x.c, .slice y.a y.l.length y.c] u fun e w' => e = .returned (.bool t) ∧ ∃ m, w' = u.drewN m) := Lib.hid (fun x y u t h1 h2 ht => rints_is x.l y.l x.a y.a x.c y.c u h1.1 h2.1 h1.2.2 h2.2.2 t ht)
  clear hA hB
  obtain ⟨ar, aa, an, ac⟩ := A
  obtain ⟨br, ba, bn, bc⟩ := B
  have HBX : Hid (Below w.heap.size w ((w.alloc (.cells #[ar.val, .slice aa an.length ac] 27)).alloc (.cells #[br.val, .slice ba bn.length bc] 27))) := Lib.hid (((Below.refl _ _).alloc (Nat.le_refl _) _).alloc (by simp) _)
  unfold GArg.val IArg.val at *
  by_cases hr : ar.l = br.l
  · by_cases hn : an.length = bn.length
    · obtain ⟨t, ht⟩ : ∃ t, t = gAlike ⟨ar, aa, an, ac⟩ ⟨br, ba, bn, bc⟩ := ⟨_, rfl⟩
      rw [← ht]
      have HT := Lib.hid ht
      clear ht
      have HR1 := Lib.hid (fun u (y : Below w.heap.size w u) => HI.out ar br u true (HA.out.below y).1 (HB.out.below y).1 (by simp [hr]))
      have hni : (an.length : Int) = (bn.length : Int) := by omega
      have hmx : an.length ≤ maxLen := HA.out.2.2.2
      unfold maxLen at hmx
      have HN := Lib.hid hn
      have HRR := Lib.hid hr
      clear hr hn
      have hcell : Hid (∀ u, Below ((w.alloc (.cells #[ar.val, .slice aa an.length ac] 27)).alloc (.cells #[br.val, .slice ba bn.length bc] 27)).heap.size ((w.alloc (.cells #[ar.val, .slice aa an.length ac] 27)).alloc (.cells #[br.val, .slice ba bn.length bc] 27)) u → u.cell? ⟨w.heap.size, 1, none⟩ = some (.slice aa an.length ac) ∧ u.cell? ⟨w.heap.size + 1, 1, none⟩ = some (.slice ba bn.length bc)) := Lib.hid (fun u y => ⟨(y.cell (p := ⟨w.heap.size, 1, none⟩) (by simp <;> omega)).trans (by simp), (y.cell (p := ⟨w.heap.size + 1, 1, none⟩) (by simp)).trans (by simp)⟩)
      go_enter Tryz.func17, Tryz.ntmps17
      go_wp2_with (go_at_call 42; refine (HR1.out _ HBX.out).mono ?_; rintro e w1 ⟨rfl, m, rfl⟩)
      have HNI := Lib.hid hni
      clear hni
      go_loopw [5] (fun i wr => ∃ k : Nat, k ≤ an.length ∧ i = .int .i64 (k : Int) ∧ Hid ((an.take k).map NArg.data = (bn.take k).map NArg.data) ∧ Hid (Below w.heap.size w wr ∧ wr.cell? ⟨w.heap.size, 1, none⟩ = some (.slice aa an.length ac) ∧ wr.cell? ⟨w.heap.size + 1, 1, none⟩ = some (.slice ba bn.length bc))) (fun i _ => an.length - (intOf i).toNat)
      case atStart => exact ⟨0, Nat.zero_le _, rfl, Lib.hid rfl, Lib.hid ⟨bel_drewN HBX.out _, (hcell.out _ (bel_drewN (Below.refl _ _) _)).1, (hcell.out _ (bel_drewN (Below.refl _ _) _)).2⟩⟩
      case round =>
        clear HR1 HBX hcell
        obtain ⟨k, hk, rfl, HK, HW⟩ := hrel
        obtain ⟨_, c1, c2⟩ := HW.out
        by_cases hlt : k < an.length
        · have hlt2 : k < bn.length := by rw [← HN.out]; exact hlt
          have hAr := HA.out.below HW.out.1
          have hBr := HB.out.below HW.out.1
          obtain ⟨g1, o1, rfl, hg1, e1⟩ := hAr.2.1.elem NArg.len (by omega) (List.getElem?_eq_getElem hlt)
          obtain ⟨g2, o2, rfl, hg2, e2⟩ := hBr.2.1.elem NArg.len (by omega) (List.getElem?_eq_getElem hlt2)
          have e1_0 := e1 0 _ rfl
          have e1_1 := e1 1 _ rfl
          have e2_0 := e2 0 _ rfl
          have e2_1 := e2 1 _ rfl
          rw [Nat.add_zero] at e1_0 e2_0
          unfold IArg.val at e1_0 e1_1 e2_0 e2_1
          clear e1 e2
          have hx := hAr.2.2.1 an[k] (List.getElem_mem hlt)
          have hy := hBr.2.2.1 bn[k] (List.getElem_mem hlt2)
          have hi1 : (k : Int) < (an.length : Int) := by omega
          have hi2 : (k : Int) < (bn.length : Int) := by omega
          have HSn : Hid (an[k].data ≠ bn[k].data → t = false) := Lib.hid (fun q => HT.out.trans (decide_eq_false (fun z => map_ne hlt hlt2 q z.2)))
          have HSy : Hid (an[k].data = bn[k].data → (an.take (k + 1)).map NArg.data = (bn.take (k + 1)).map NArg.data) := Lib.hid (fun q => take_map_next HK.out hlt hlt2 q)
          have HXY := Lib.hid (And.intro hx hy)
          clear hx hy hAr hBr
          generalize an[k] = x at *
          generalize bn[k] = y at *
          by_cases hs : x.s.l = y.s.l
          · have HS1 := Lib.hid (fun u (z : Below wr.heap.size wr u) => HI.out x.s y.s u true (HXY.out.1.1.below z) (HXY.out.2.1.below z) (by simp [hs]))
            by_cases hw : x.w.l = y.w.l
            · have HS2 := Lib.hid (fun u (z : Below wr.heap.size wr u) => HI.out x.w y.w u true (HXY.out.1.2.below z) (HXY.out.2.2.below z) (by simp [hw]))
              have hxy : x.data = y.data := by rw [NArg.data, NArg.data, hs, hw]
              have HZ := Lib.hid (HSy.out hxy)
              clear hs hw hxy HSn HSy HXY
              go_wp2_with fail
              go_quiet (first
                | (go_at_call 42; with_reducible exact Calls.quiet_of (HS1.out _ (bel_drewN (Below.refl _ _) _)))
                | (go_at_call 42; with_reducible exact Calls.quiet_of (HS2.out _ (bel_drewN (Below.refl _ _) _))))
              go_wp2_with fail
              exact ⟨⟨k + 1, by omega, by go_num, HZ, Lib.hid ⟨bel_drewN HW.out.1 _, HW.out.2.1, HW.out.2.2⟩⟩, by simp [intOf]; omega⟩
            · have HS2 := Lib.hid (fun u (z : Below wr.heap.size wr u) => HI.out x.w y.w u false (HXY.out.1.2.below z) (HXY.out.2.2.below z) (by simp [hw]))
              have ht : t = false := HSn.out (fun q => hw (congrArg Prod.snd q))
              subst ht
              clear hs hw HSn HSy HXY
              go_wp2_with fail
              go_quiet (first
                | (go_at_call 42; with_reducible exact Calls.quiet_of (HS1.out _ (bel_drewN (Below.refl _ _) _)))
                | (go_at_call 42; with_reducible exact Calls.quiet_of (HS2.out _ (bel_drewN (Below.refl _ _) _))))
              go_wp2_with fail
              go_ret
              exact ⟨rfl, bel_drewN HW.out.1 _⟩
          · have HS1 := Lib.hid (fun u (z : Below wr.heap.size wr u) => HI.out x.s y.s u false (HXY.out.1.1.below z) (HXY.out.2.1.below z) (by simp [hs]))
            have ht : t = false := HSn.out (fun q => hs (congrArg Prod.fst q))
            subst ht
            clear hs HSn HSy HXY
            go_wp2_with fail
            go_quiet (first | (go_at_call 42; with_reducible exact Calls.quiet_of (HS1.out _ (bel_drewN (Below.refl _ _) _))))
            go_wp2_with fail
            go_ret
            exact ⟨rfl, bel_drewN HW.out.1 _⟩
        · obtain rfl : k = an.length := by omega
          have hnl : ¬ (an.length : Int) < (an.length : Int) := by omega
          have hres : gAlike ⟨ar, aa, an, ac⟩ ⟨br, ba, bn, bc⟩ = true := decide_eq_true ⟨HRR.out, by
            have := HK.out
            rw [List.take_length, HN.out, List.take_length] at this
            exact this⟩
          have h2 := HT.out.trans hres
          clear hres
          subst h2
          go_wp2_with fail
          go_ret
          exact ⟨rfl, HW.out.1⟩
    · rw [show gAlike ⟨ar, aa, an, ac⟩ ⟨br, ba, bn, bc⟩ = false from decide_eq_false (fun q => hn (by
        have := congrArg List.length q.2
        simpa using this))]
      have HF := Lib.hid (fun u (y : Below w.heap.size w u) => HI.out ar br u true (HA.out.below y).1 (HB.out.below y).1 (by simp [hr]))
      have hni : ((an.length : Int) == (bn.length : Int)) = false := by
        rw [beq_eq_false_iff_ne]
        omega
      clear hr hn
      go_enter Tryz.func17, Tryz.ntmps17
      go_wp2_with (go_at_call 42; refine (HF.out _ HBX.out).mono ?_; rintro e w1 ⟨rfl, m, rfl⟩)
      go_ret
      exact ⟨rfl, bel_drewN HBX.out _⟩
  · rw [show gAlike ⟨ar, aa, an, ac⟩ ⟨br, ba, bn, bc⟩ = false from decide_eq_false (fun q => hr q.1)]
    have HF := Lib.hid (fun u (y : Below w.heap.size w u) => HI.out ar br u false (HA.out.below y).1 (HB.out.below y).1 (by simp [hr]))
    clear hr
    go_enter Tryz.func17, Tryz.ntmps17
    go_wp2_with (go_at_call 42; refine (HF.out _ HBX.out).mono ?_; rintro e w1 ⟨rfl, m, rfl⟩)
    go_ret
    exact ⟨rfl, bel_drewN HBX.out _⟩
theorem all_no {α : Type} {p : α → Bool} {l : List α} {k : Nat} (h : k < l.length) (q : p l[k] = false) : l.all p = false := by
  cases e : l.all p
  · rfl
  · have := List.all_eq_true.1 e _ (List.getElem_mem h)
    rw [q] at this
    exact absurd this (by decide)
theorem all_next {α : Type} {p : α → Bool} {l : List α} {k : Nat} (h : k < l.length) (a : (l.take k).all p = true) (q : p l[k] = true) : (l.take (k + 1)).all p = true := by
  rw [List.take_succ_eq_append_getElem h, List.all_append, a, Bool.true_and, List.all_cons, q]
  rfl
end Go.Proofs.YtbghglkplbnnkaaGreatDoor
