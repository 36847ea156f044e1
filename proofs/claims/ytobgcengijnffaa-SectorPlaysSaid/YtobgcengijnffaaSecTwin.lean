/- Disk.Twin by its contract. -/
import Derived.Test.YtobgcengijnffaaSecClone
namespace Go.Proofs.Ytobgcengijnffaa
open Go.RowKit

/-- A slice's block, or another one where it is nil. -/
def blkOf (a : Option Addr) (p : Nat) : Nat := match a with
  | some b => b.block
  | none => p
/-- What a Clone handed back: nil, or a row of its own between two sizes of the heap. -/
def Cloned (W : World) (s0 s1 : Nat) (e : TypeId) (k : Nat) (a : Option Addr) (m c : Nat) (cs : List Value) : Prop :=
  (a = none ∧ m = 0 ∧ c = 0) ∨ ∃ g, a = some ⟨g, 0, none⟩ ∧ s0 ≤ g ∧ g < s1 ∧ W.ownsRow 0 e k (.slice (some ⟨g, 0, none⟩) m c) m cs
theorem owns_of_block {w w' : World} {base : Nat} {e : TypeId} {k g m c : Nat} {cs : List Value} (h : w.ownsRow base e k (.slice (some ⟨g, 0, none⟩) m c) m cs) (hb : w'.heap[g]? = w.heap[g]?) : w'.ownsRow base e k (.slice (some ⟨g, 0, none⟩) m c) m cs := by
  refine ⟨h.1, ?_⟩
  rcases h.2 with ⟨q, _⟩ | ⟨g', cap', cur, hv, hg, hh, r⟩
  · cases q
  · obtain ⟨rfl, rfl⟩ : g = g' ∧ c = cap' := by simpa using hv
    exact .inr ⟨g, c, cur, rfl, hg, by rw [hb]; exact hh, r⟩
theorem Cloned.kept {W W' : World} {s0 s1 : Nat} {e : TypeId} {k : Nat} {a : Option Addr} {m c : Nat} {cs : List Value} (h : Cloned W s0 s1 e k a m c cs) (hb : ∀ b, s0 ≤ b → b < s1 → W'.heap[b]? = W.heap[b]?) : Cloned W' s0 s1 e k a m c cs := by
  rcases h with h | ⟨g, ha, h0, h1, ho⟩
  · exact .inl h
  · exact .inr ⟨g, ha, h0, h1, owns_of_block ho (hb g h0 h1)⟩
theorem owns_range {W : World} {e : TypeId} {k g m c : Nat} {cs : List Value} (h : W.ownsRow 0 e k (.slice (some ⟨g, 0, none⟩) m c) m cs) : W.rangeAt g 0 cs ∧ W.there g 0 (m * k) := by
  refine ⟨fun j v hv => ?_, fun j hj => ?_⟩
  · have hj : j < m * k := by have := (List.getElem?_eq_some_iff.1 hv).1; rw [h.1] at this; exact this
    rw [Nat.zero_add, h.cellAt j hj]
    exact hv
  · rw [Nat.zero_add]
    refine ⟨?_, h.frozenAt j⟩
    rw [h.cellAt j hj, List.getElem?_eq_getElem (by rw [h.1]; exact hj)]
    rfl

/-- The twin, out of its parts. -/
theorem twin_is {W : World} {y : Lay} {D : Dsk} (s : Shp y D) (p s1 s2 s3 s4 s5 : Nat) (la na wa ka : Option Addr) (cL cN cW cK : Nat) (hp : p < s1) (h12 : s1 ≤ s2) (h23 : s2 ≤ s3) (h34 : s3 ≤ s4) (h45 : s4 ≤ s5) (hs5 : s5 ≤ W.heap.size)
    (hr : W.rangeAt p 0 [.bool true, .bool D.on, .slice la D.lasts.length cL, .slice na D.now.length cN, .slice wa D.waits.length cW, .int .i64 (D.deeds : Int), .bool D.lit, .int .i64 (D.left : Int), .slice ka D.keep.length cK]) (ht : W.there p 0 9)
    (kL : D.lasts.length ≤ cL) (kN : D.now.length ≤ cN) (kK : D.keep.length ≤ cK)
    (hL : Cloned W s1 s2 63 32 la D.lasts.length cL (D.lasts.map bcells).flatten) (hN : Cloned W s2 s3 63 32 na D.now.length cN (D.now.map bcells).flatten)
    (hW : Cloned W s3 s4 66 33 wa D.waits.length cW (D.waits.flatMap wcells)) (hK : Cloned W s4 s5 3 1 ka D.keep.length cK (D.keep.map (Value.int .i64))) :
    ∃ y' : Lay, y'.p = p ∧ IsD W y' D ∧ ∀ b, y'.foot b → p ≤ b := by
  have bL : p ≤ blkOf la p ∧ blkOf la p < s2 ∧ (0 < D.lasts.length → la = some ⟨blkOf la p, 0, none⟩ ∧ s1 ≤ blkOf la p) := by
    rcases hL with ⟨rfl, h0, _⟩ | ⟨g, rfl, q0, q1, _⟩
    · exact ⟨Nat.le_refl _, by show p < s2; omega, fun q => by omega⟩
    · exact ⟨by show p ≤ g; omega, q1, fun _ => ⟨rfl, q0⟩⟩
  have bN : p ≤ blkOf na p ∧ blkOf na p < s3 ∧ (0 < D.now.length → na = some ⟨blkOf na p, 0, none⟩ ∧ s2 ≤ blkOf na p) := by
    rcases hN with ⟨rfl, h0, _⟩ | ⟨g, rfl, q0, q1, _⟩
    · exact ⟨Nat.le_refl _, by show p < s3; omega, fun q => by omega⟩
    · exact ⟨by show p ≤ g; omega, q1, fun _ => ⟨rfl, q0⟩⟩
  have bW : p ≤ blkOf wa p ∧ blkOf wa p < s4 ∧ (wa = none ∨ wa = some ⟨blkOf wa p, 0, none⟩ ∧ s3 ≤ blkOf wa p) := by
    rcases hW with ⟨rfl, h0, _⟩ | ⟨g, rfl, q0, q1, _⟩
    · exact ⟨Nat.le_refl _, by show p < s4; omega, .inl rfl⟩
    · exact ⟨by show p ≤ g; omega, q1, .inr ⟨rfl, q0⟩⟩
  have bK : p ≤ blkOf ka p ∧ blkOf ka p < s5 ∧ (0 < D.keep.length → ka = some ⟨blkOf ka p, 0, none⟩ ∧ s4 ≤ blkOf ka p) := by
    rcases hK with ⟨rfl, h0, _⟩ | ⟨g, rfl, q0, q1, _⟩
    · exact ⟨Nat.le_refl _, by show p < s5; omega, fun q => by omega⟩
    · exact ⟨by show p ≤ g; omega, q1, fun _ => ⟨rfl, q0⟩⟩
  refine ⟨{ p := p, L := blkOf la p, N := blkOf na p, W := blkOf wa p, K := blkOf ka p, cL := cL, cN := cN, cW := cW, cK := cK, la := la, na := na, wa := wa, ka := ka }, rfl, ⟨⟨hr, ht⟩, ⟨?_, ?_, ?_, ?_, ?_, ?_⟩, ?_, ?_⟩, ?_⟩
  · rcases hL with ⟨_, h0, _⟩ | ⟨g, rfl, _, _, ho⟩
    · intro j x hx
      have := (List.getElem?_eq_some_iff.1 hx).1; simp at this; omega
    · exact rows_flat (bmap_len s.blkL) (owns_range ho).1
  · rcases hN with ⟨_, h0, _⟩ | ⟨g, rfl, _, _, ho⟩
    · intro j x hx
      have := (List.getElem?_eq_some_iff.1 hx).1; simp at this; omega
    · exact rows_flat (bmap_len s.blkN) (owns_range ho).1
  · rcases hW with ⟨rfl, h0, rfl⟩ | ⟨g, rfl, _, _, ho⟩
    · have hnil : D.waits = [] := List.eq_nil_of_length_eq_zero h0
      show W.ownsRow 0 _ 33 (.slice none D.waits.length 0) D.waits.length (D.waits.flatMap wcells)
      rw [hnil]
      exact World.ownsRow_nil _ _ _ _
    · exact ho
  · rcases hL with ⟨_, h0, _⟩ | ⟨g, rfl, _, _, ho⟩
    · intro j hj; omega
    · exact (owns_range ho).2
  · rcases hN with ⟨_, h0, _⟩ | ⟨g, rfl, _, _, ho⟩
    · intro j hj; have := s.len; omega
    · have := (owns_range ho).2
      rw [s.len] at this
      exact this
  · intro j z hz
    have hj : j < D.keep.length := (List.getElem?_eq_some_iff.1 hz).1
    rcases hK with ⟨_, h0, _⟩ | ⟨g, rfl, _, _, ho⟩
    · omega
    · show W.cell? ⟨g, j, none⟩ = _
      rw [ho.cellAt j (by omega)]
      simp [hz]
  · refine ⟨s.len, s.most, s.blkL, s.blkN, s.blkW, s.deedsB, s.leftB, s.waitsB, kL, kN, kK, s.keepB, fun q => (bL.2.2 q).1, fun q => (bN.2.2 (by rw [s.len]; exact q)).1, ?_, fun q => (bK.2.2 q).1, ?_, ?_, ?_⟩
    · rcases bW.2.2 with q | q
      · exact .inl q
      · exact .inr q.1
    · intro q
      have q1 := (bL.2.2 q).2
      have q2 := (bN.2.2 (by rw [s.len]; exact q)).2
      have := bL.2.1
      show blkOf la p ≠ p ∧ blkOf na p ≠ p ∧ blkOf la p ≠ blkOf na p
      exact ⟨by omega, by omega, by omega⟩
    · intro q
      rcases bW.2.2 with r | r
      · exact absurd r q
      · have := bL.2.1; have := bN.2.1; have := r.2
        show blkOf wa p ≠ p ∧ blkOf wa p ≠ blkOf la p ∧ blkOf wa p ≠ blkOf na p
        exact ⟨by omega, by omega, by omega⟩
    · intro q
      have := (bK.2.2 q).2
      have := bL.2.1; have := bN.2.1; have := bW.2.1
      show blkOf ka p ≠ p ∧ blkOf ka p ≠ blkOf la p ∧ blkOf ka p ≠ blkOf na p ∧ (wa ≠ none → blkOf ka p ≠ blkOf wa p)
      exact ⟨by omega, by omega, by omega, fun _ => by omega⟩
  · intro b q
    have := bL.2.1; have := bN.2.1; have := bW.2.1; have := bK.2.1
    rcases q with q | q | q | q | q
    · have q' : b = p := q; omega
    · have q' : b = blkOf la p := q; omega
    · have q' : b = blkOf na p := q; omega
    · have q' : b = blkOf wa p := q; omega
    · have q' : b = blkOf ka p := q; omega
  · intro b q
    rcases q with q | q | q | q | q
    · have q' : b = p := q; omega
    · have q' : b = blkOf la p := q; omega
    · have q' : b = blkOf na p := q; omega
    · have q' : b = blkOf wa p := q; omega
    · have q' : b = blkOf ka p := q; omega

/-- What a Clone reads of a disk. -/
theorem IsD.lasts_cells {w : World} {y : Lay} {D : Dsk} (h : IsD w y D) : (∀ j u, (D.lasts.map bcells).flatten[j]? = some u → ∃ b : Addr, y.la = some b ∧ b.block < w.heap.size ∧ w.cell? (b.add j) = some u) ∧ (y.la = none → D.lasts.length = 0) := by
  have hr := flat_rows (by omega) (bmap_len h.shp.blkL) h.bod.rL
  have hfl := flatten_len (bmap_len h.shp.blkL)
  rw [List.length_map] at hfl
  refine ⟨fun j u hu => ⟨⟨y.L, 0, none⟩, h.shp.laE ?_, h.small _ (.inr (.inl rfl)), ?_⟩, fun q => ?_⟩
  · have := (List.getElem?_eq_some_iff.1 hu).1; rw [hfl] at this; omega
  · rw [Addr.add_mid]; exact hr j u hu
  · rcases Nat.eq_zero_or_pos D.lasts.length with r | r
    · exact r
    · rw [h.shp.laE r] at q; cases q
theorem IsD.now_cells {w : World} {y : Lay} {D : Dsk} (h : IsD w y D) : (∀ j u, (D.now.map bcells).flatten[j]? = some u → ∃ b : Addr, y.na = some b ∧ b.block < w.heap.size ∧ w.cell? (b.add j) = some u) ∧ (y.na = none → D.now.length = 0) := by
  have hr := flat_rows (by omega) (bmap_len h.shp.blkN) h.bod.rN
  have hfl := flatten_len (bmap_len h.shp.blkN)
  rw [List.length_map] at hfl
  refine ⟨fun j u hu => ⟨⟨y.N, 0, none⟩, h.shp.naE ?_, h.small _ (.inr (.inr (.inl rfl))), ?_⟩, fun q => ?_⟩
  · have := (List.getElem?_eq_some_iff.1 hu).1; rw [hfl, h.shp.len] at this; omega
  · rw [Addr.add_mid]; exact hr j u hu
  · rw [h.shp.len]
    rcases Nat.eq_zero_or_pos D.lasts.length with r | r
    · exact r
    · rw [h.shp.naE r] at q; cases q
theorem IsD.waits_cells {w : World} {y : Lay} {D : Dsk} (h : IsD w y D) : (∀ j u, (D.waits.flatMap wcells)[j]? = some u → ∃ b : Addr, y.wa = some b ∧ b.block < w.heap.size ∧ w.cell? (b.add j) = some u) ∧ (y.wa = none → D.waits.length = 0) ∧ (D.waits.flatMap wcells).length = D.waits.length * 33 ∧ (y.wa = none → y.cW = 0) := by
  have o := h.bod.oW
  refine ⟨fun j u hu => ?_, fun q => ?_, o.1, fun q => ?_⟩
  · have hj : j < D.waits.length * 33 := by have := (List.getElem?_eq_some_iff.1 hu).1; rw [o.1] at this; exact this
    obtain ⟨g, cap, hv, _, hlt⟩ := o.form (by omega)
    obtain ⟨hwa, _, rfl⟩ : y.wa = some ⟨g, 0, none⟩ ∧ True ∧ y.cW = cap := by simpa using hv
    rw [hwa] at o
    exact ⟨⟨g, 0, none⟩, hwa, hlt, by rw [Addr.add_mid, Nat.zero_add, o.cellAt j hj]; exact hu⟩
  · rcases Nat.eq_zero_or_pos D.waits.length with r | r
    · exact r
    · obtain ⟨g, cap, hv, _⟩ := o.form r
      rw [q] at hv; simp at hv
  · rcases o.2 with ⟨q1, _⟩ | ⟨g, cap, cur, hv, _⟩
    · rw [q] at q1; simpa using (by simpa using q1 : D.waits.length = 0 ∧ y.cW = 0).2
    · rw [q] at hv; simp at hv
theorem IsD.keep_cells {w : World} {y : Lay} {D : Dsk} (h : IsD w y D) : (∀ j u, (D.keep.map (Value.int .i64))[j]? = some u → ∃ b : Addr, y.ka = some b ∧ b.block < w.heap.size ∧ w.cell? (b.add j) = some u) ∧ (y.ka = none → D.keep.length = 0) := by
  refine ⟨fun j u hu => ?_, fun q => ?_⟩
  · rw [List.getElem?_map] at hu
    obtain ⟨z, hz, rfl⟩ := Option.map_eq_some_iff.1 hu
    exact ⟨⟨y.K, 0, none⟩, h.shp.kaE (Nat.lt_of_le_of_lt (Nat.zero_le _) (List.getElem?_eq_some_iff.1 hz).1), h.small _ (.inr (.inr (.inr (.inr rfl)))), by rw [Addr.add_mid, Nat.zero_add]; exact h.bod.rK j z hz⟩
  · rcases Nat.eq_zero_or_pos D.keep.length with r | r
    · exact r
    · rw [h.shp.kaE r] at q; cases q
theorem owns_zero {w : World} {base : Nat} {e : TypeId} {k : Nat} {v : Value} {m : Nat} {cs : List Value} (h : w.ownsRow base e k v m cs) : w.ownsRow 0 e k v m cs := by
  refine ⟨h.1, ?_⟩
  rcases h.2 with q | ⟨g, cap, cur, hv, _, r⟩
  · exact .inl q
  · exact .inr ⟨g, cap, cur, hv, Nat.zero_le _, r⟩
theorem cloned_of {w w1 : World} {e : TypeId} {k : Nat} {a : Option Addr} {m c : Nat} {cs : List Value} (h : (a = none ∧ m = 0 ∧ c = 0) ∨ ∃ g, a = some ⟨g, 0, none⟩ ∧ w.heap.size ≤ g ∧ w1.ownsRow w.heap.size e k (.slice (some ⟨g, 0, none⟩) m c) m cs) :
    Cloned w1 w.heap.size w1.heap.size e k a m c cs := by
  rcases h with h | ⟨g, ha, hg, ho⟩
  · exact .inl h
  · exact .inr ⟨g, ha, hg, (ho.lt g rfl).2, owns_zero ho⟩
/-- What stands while a twin is made: the disk; the twin's struct so far. -/
structure TwinSt (w : World) (y : Lay) (D : Dsk) (p : Nat) (u : World) (vs : List Value) : Prop where
  isD : IsD u y D
  rng : u.rangeAt p 0 vs
  thr : u.there p 0 9
  only : Only (fun _ => False) w u
  lt : p < u.heap.size
theorem TwinSt.below {w u u' : World} {y : Lay} {D : Dsk} {p : Nat} {vs : List Value} (h : TwinSt w y D p u vs) (b : Below u.heap.size u u') : TwinSt w y D p u' vs :=
  ⟨h.isD.only (Only.of_below b) (fun k q r => by have := h.isD.small k q; omega), rangeAt_of_block (b.block p h.lt) h.rng, there_of_block (b.block p h.lt) h.thr,
    h.only.trans (Only.of_below b) (fun i hi q => by have := h.only.size; omega), Nat.lt_of_lt_of_le h.lt b.size⟩
theorem TwinSt.set {w u : World} {y : Lay} {D : Dsk} {p : Nat} {vs : List Value} (h : TwinSt w y D p u vs) (hw : w.heap.size ≤ p) (hy : ∀ b, y.foot b → b ≠ p) (k : Nat) (v : Value) : TwinSt w y D p (u.setCell ⟨p, k, none⟩ v) (vs.set k v) :=
  ⟨h.isD.of_blocks (by rw [size_setCell']; exact Nat.le_refl _) (fun b q => heap_setCell_ne _ _ _ _ (hy b q)), rangeAt_set h.rng v, there_set h.thr _ _, h.only.setCell (.inr hw) _, by rw [size_setCell']; exact h.lt⟩

set_option maxHeartbeats 1000000 in
theorem Twin_is (y : Lay) (D : Dsk) (w : World) (h : IsD w y D) (hkB2 : D.keep.length < 2 ^ 40) :
    Calls Try.prog 25 #[.pointer (some ⟨y.p, 0, none⟩)] w fun e w' => ∃ y' : Lay, e = .returned (.pointer (some ⟨y'.p, 0, none⟩)) ∧ IsD w' y' D ∧ (∀ b, y'.foot b → w.heap.size ≤ b) ∧ Only (fun _ => False) w w' := by
  have c0 := h.head.c0
  have c1 := h.head.c1
  have c2 := h.head.c2
  have c3 := h.head.c3
  have c4 := h.head.c4
  have c5 := h.head.c5
  have c6 := h.head.c6
  have c7 := h.head.c7
  have c8 := h.head.c8
  have hps := h.small y.p (.inl rfl)
  have H := Lib.hid h
  clear h
  go_enter Try.func25, Try.ntmps25
  go_wp2_with (first
    | (go_at_call 37; refine (none_is y D _ H.out).mono ?_; rintro e w' ⟨rfl, rfl⟩)
    | (refine wpList_store_new rfl 56 (.tmp 3) (.tmp 8) rfl _ #[.bool true, .bool D.on, .slice y.la D.lasts.length y.cL, .slice y.na D.now.length y.cN, .slice y.wa D.waits.length y.cW, .int .i64 (D.deeds : Int), .bool D.lit, .int .i64 (D.left : Int), .slice y.ka D.keep.length y.cK] rfl rfl (by kernel_rfl) (by rfl) (by rfl) ?_))
  clear c0 c1 c2 c3 c4 c5 c6 c7 c8 hps
  have S0 : TwinSt w' y D w'.heap.size (w'.alloc (.cells #[.bool true, .bool D.on, .slice y.la D.lasts.length y.cL, .slice y.na D.now.length y.cN, .slice y.wa D.waits.length y.cW, .int .i64 (D.deeds : Int), .bool D.lit, .int .i64 (D.left : Int), .slice y.ka D.keep.length y.cK] 56)) [.bool true, .bool D.on, .slice y.la D.lasts.length y.cL, .slice y.na D.now.length y.cN, .slice y.wa D.waits.length y.cW, .int .i64 (D.deeds : Int), .bool D.lit, .int .i64 (D.left : Int), .slice y.ka D.keep.length y.cK] := by
    have hb := heap_alloc_last w' (.cells #[.bool true, .bool D.on, .slice y.la D.lasts.length y.cL, .slice y.na D.now.length y.cN, .slice y.wa D.waits.length y.cW, .int .i64 (D.deeds : Int), .bool D.lit, .int .i64 (D.left : Int), .slice y.ka D.keep.length y.cK] 56)
    refine ⟨H.out.alloc _, fun j v hv => ?_, fun j hj => ⟨?_, ?_⟩, (Only.refl _ _).alloc _, by simp⟩
    · rw [Nat.zero_add, cell_of_row _ _ _ _ _ _ hb]
      simpa using hv
    · rw [Nat.zero_add, cell_of_row _ _ _ _ _ _ hb, Array.getElem?_eq_getElem (by simpa using hj)]; rfl
    · simp
  have hpf : ∀ b, y.foot b → b ≠ w'.heap.size := fun b q e => by have := H.out.small b q; omega
  have hPle : w'.heap.size ≤ w'.heap.size := Nat.le_refl _
  generalize w'.alloc (.cells #[.bool true, .bool D.on, .slice y.la D.lasts.length y.cL, .slice y.na D.now.length y.cN, .slice y.wa D.waits.length y.cW, .int .i64 (D.deeds : Int), .bool D.lit, .int .i64 (D.left : Int), .slice y.ka D.keep.length y.cK] 56) = u0 at *
  clear hPle
  generalize hPe : w'.heap.size = P at S0 hpf ⊢
  have hPle : w'.heap.size ≤ P := Nat.le_of_eq hPe
  have HP := Lib.hid (And.intro hPe hpf)
  clear hPe hpf
  refine (clone_block y.la D.lasts.length y.cL (D.lasts.map bcells).flatten u0 (by have := H.out.shp.most; omega) (by have := flatten_len (bmap_len H.out.shp.blkL); rw [List.length_map] at this; exact this) S0.isD.lasts_cells.1 flat_one S0.isD.lasts_cells.2).mono ?_
  rintro e v0 ⟨la', cL', rfl, b0, k0, q0⟩
  have T0 := S0.below b0
  have C0 := cloned_of q0
  have d0 := T0.rng 2 _ rfl
  have f0 := (T0.thr 2 (by omega)).2
  rw [Nat.zero_add] at d0 f0
  have g0 := T0.isD.head.c3
  have z0 : y.p ≠ P := HP.out.2 _ (.inl rfl)
  have S1 := T0.set hPle HP.out.2 2 (.slice la' D.lasts.length cL')
  have X0 := Lib.hid (And.intro S1 (And.intro C0 (And.intro k0 (And.intro b0 S0.lt))))
  clear S0 T0 C0 k0 b0 q0 S1
  go_wp2_with fail
  have S1 := X0.out.1
  change TwinSt w' y D P (v0.setCell ⟨P, 2, none⟩ (.slice la' D.lasts.length cL')) [.bool true, .bool D.on, .slice la' D.lasts.length cL', .slice y.na D.now.length y.cN, .slice y.wa D.waits.length y.cW, .int .i64 (D.deeds : Int), .bool D.lit, .int .i64 (D.left : Int), .slice y.ka D.keep.length y.cK] at S1
  have En0 := Lib.hid (show ∀ b, b ≠ P → (v0.setCell ⟨P, 2, none⟩ (.slice la' D.lasts.length cL')).heap[b]? = v0.heap[b]? from fun b hb => heap_setCell_ne _ _ _ _ hb)
  have sz0 : (v0.setCell ⟨P, 2, none⟩ (.slice la' D.lasts.length cL')).heap.size = v0.heap.size := size_setCell' _ _ _
  generalize v0.setCell ⟨P, 2, none⟩ (.slice la' D.lasts.length cL') = u1 at *
  clear d0 f0 g0 z0
  refine (clone_block y.na D.now.length y.cN (D.now.map bcells).flatten u1 (by have := H.out.shp.most; have := H.out.shp.len; omega) (by have := flatten_len (bmap_len H.out.shp.blkN); rw [List.length_map] at this; exact this) S1.isD.now_cells.1 flat_one S1.isD.now_cells.2).mono ?_
  rintro e v1 ⟨na', cN', rfl, b1, k1, q1⟩
  have T1 := S1.below b1
  have C1 := cloned_of q1
  have d1 := T1.rng 3 _ rfl
  have f1 := (T1.thr 3 (by omega)).2
  rw [Nat.zero_add] at d1 f1
  have g1 := T1.isD.head.c4
  have z1 : y.p ≠ P := HP.out.2 _ (.inl rfl)
  have S2 := T1.set hPle HP.out.2 3 (.slice na' D.now.length cN')
  have X1 := Lib.hid (And.intro S2 (And.intro C1 (And.intro k1 (And.intro b1 S1.lt))))
  clear S1 T1 C1 k1 b1 q1 S2
  go_wp2_with fail
  have S2 := X1.out.1
  change TwinSt w' y D P (v1.setCell ⟨P, 3, none⟩ (.slice na' D.now.length cN')) [.bool true, .bool D.on, .slice la' D.lasts.length cL', .slice na' D.now.length cN', .slice y.wa D.waits.length y.cW, .int .i64 (D.deeds : Int), .bool D.lit, .int .i64 (D.left : Int), .slice y.ka D.keep.length y.cK] at S2
  have En1 := Lib.hid (show ∀ b, b ≠ P → (v1.setCell ⟨P, 3, none⟩ (.slice na' D.now.length cN')).heap[b]? = v1.heap[b]? from fun b hb => heap_setCell_ne _ _ _ _ hb)
  have sz1 : (v1.setCell ⟨P, 3, none⟩ (.slice na' D.now.length cN')).heap.size = v1.heap.size := size_setCell' _ _ _
  generalize v1.setCell ⟨P, 3, none⟩ (.slice na' D.now.length cN') = u2 at *
  clear d1 f1 g1 z1
  refine (clone_write y.wa D.waits.length y.cW (D.waits.flatMap wcells) u2 H.out.shp.waitsB H.out.waits_cells.2.2.1 S2.isD.waits_cells.1 (fun u hu => by obtain ⟨x, _, hx⟩ := List.mem_flatMap.1 hu; exact wcells_one x u hx) S2.isD.waits_cells.2.1).mono ?_
  rintro e v2 ⟨wa', cW', rfl, b2, k2, q2⟩
  have T2 := S2.below b2
  have C2 := cloned_of q2
  have d2 := T2.rng 4 _ rfl
  have f2 := (T2.thr 4 (by omega)).2
  rw [Nat.zero_add] at d2 f2
  have g2 := T2.isD.head.c8
  have z2 : y.p ≠ P := HP.out.2 _ (.inl rfl)
  have S3 := T2.set hPle HP.out.2 4 (.slice wa' D.waits.length cW')
  have X2 := Lib.hid (And.intro S3 (And.intro C2 (And.intro k2 (And.intro b2 S2.lt))))
  clear S2 T2 C2 k2 b2 q2 S3
  go_wp2_with fail
  have S3 := X2.out.1
  change TwinSt w' y D P (v2.setCell ⟨P, 4, none⟩ (.slice wa' D.waits.length cW')) [.bool true, .bool D.on, .slice la' D.lasts.length cL', .slice na' D.now.length cN', .slice wa' D.waits.length cW', .int .i64 (D.deeds : Int), .bool D.lit, .int .i64 (D.left : Int), .slice y.ka D.keep.length y.cK] at S3
  have En2 := Lib.hid (show ∀ b, b ≠ P → (v2.setCell ⟨P, 4, none⟩ (.slice wa' D.waits.length cW')).heap[b]? = v2.heap[b]? from fun b hb => heap_setCell_ne _ _ _ _ hb)
  have sz2 : (v2.setCell ⟨P, 4, none⟩ (.slice wa' D.waits.length cW')).heap.size = v2.heap.size := size_setCell' _ _ _
  generalize v2.setCell ⟨P, 4, none⟩ (.slice wa' D.waits.length cW') = u3 at *
  clear d2 f2 g2 z2
  refine (clone_int y.ka D.keep.length y.cK (D.keep.map (Value.int .i64)) u3 hkB2 (by simp) S3.isD.keep_cells.1 (fun u hu => by obtain ⟨z, _, rfl⟩ := List.mem_map.1 hu; rfl) S3.isD.keep_cells.2).mono ?_
  rintro e v3 ⟨ka', cK', rfl, b3, k3, q3⟩
  have T3 := S3.below b3
  have C3 := cloned_of q3
  have d3 := T3.rng 8 _ rfl
  have f3 := (T3.thr 8 (by omega)).2
  rw [Nat.zero_add] at d3 f3
  have S4 := T3.set hPle HP.out.2 8 (.slice ka' D.keep.length cK')
  have X3 := Lib.hid (And.intro S4 (And.intro C3 (And.intro k3 (And.intro b3 S3.lt))))
  clear S3 T3 C3 k3 b3 q3 S4
  go_wp2_with fail
  go_ret
  obtain ⟨S4, C3, k3, b3, l3⟩ := X3.out
  obtain ⟨S3, C2, k2, b2, l2⟩ := X2.out
  obtain ⟨S2, C1, k1, b1, l1⟩ := X1.out
  obtain ⟨S1, C0, k0, b0, l0⟩ := X0.out
  have t0 := b0.size
  have t1 := b1.size
  have t2 := b2.size
  have t3 := b3.size
  have e3 : ∀ b, b ≠ P → (v3.setCell ⟨P, 8, none⟩ (.slice ka' D.keep.length cK')).heap[b]? = v3.heap[b]? := fun b hb => heap_setCell_ne _ _ _ _ hb
  have sz3 : (v3.setCell ⟨P, 8, none⟩ (.slice ka' D.keep.length cK')).heap.size = v3.heap.size := size_setCell' _ _ _
  have K3 : ∀ b, b ≠ P → b < v3.heap.size → (v3.setCell ⟨P, 8, none⟩ (.slice ka' D.keep.length cK')).heap[b]? = v3.heap[b]? := fun b hb _ => e3 b hb
  have K2 : ∀ b, b ≠ P → b < v2.heap.size → (v3.setCell ⟨P, 8, none⟩ (.slice ka' D.keep.length cK')).heap[b]? = v2.heap[b]? := fun b hb hl => by
    rw [K3 b hb (by omega), b3.block b (by omega)]; exact En2.out b hb
  have K1 : ∀ b, b ≠ P → b < v1.heap.size → (v3.setCell ⟨P, 8, none⟩ (.slice ka' D.keep.length cK')).heap[b]? = v1.heap[b]? := fun b hb hl => by
    rw [K2 b hb (by omega), b2.block b (by omega)]; exact En1.out b hb
  have K0 : ∀ b, b ≠ P → b < v0.heap.size → (v3.setCell ⟨P, 8, none⟩ (.slice ka' D.keep.length cK')).heap[b]? = v0.heap[b]? := fun b hb hl => by
    rw [K1 b hb (by omega), b1.block b (by omega)]; exact En0.out b hb
  obtain ⟨y', hp, hi, hf⟩ := twin_is H.out.shp P u0.heap.size v0.heap.size v1.heap.size v2.heap.size v3.heap.size la' na' wa' ka' cL' cN' cW' cK' l0 t0 (by omega) (by omega) (by omega) (by omega) S4.rng S4.thr k0 k1 k3
    (C0.kept fun b q0 q1 => K0 b (by omega) q1)
    ((C1.kept fun b q0 q1 => K1 b (by omega) q1).imp id (fun ⟨g, ha, h0, h1, ho⟩ => ⟨g, ha, by omega, h1, ho⟩))
    ((C2.kept fun b q0 q1 => K2 b (by omega) q1).imp id (fun ⟨g, ha, h0, h1, ho⟩ => ⟨g, ha, by omega, h1, ho⟩))
    ((C3.kept fun b q0 q1 => K3 b (by omega) q1).imp id (fun ⟨g, ha, h0, h1, ho⟩ => ⟨g, ha, by omega, h1, ho⟩))
  exact ⟨y', by rw [hp]; rfl, hi, fun b q => Nat.le_trans hPle (hf b q), S4.only⟩
end Go.Proofs.Ytobgcengijnffaa
