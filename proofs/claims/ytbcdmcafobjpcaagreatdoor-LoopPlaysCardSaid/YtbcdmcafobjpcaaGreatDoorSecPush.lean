/- What a Write does to a disk: a sector of what was written last is set, a write more waits. Plain lemmas. -/
import Derived.Test.YtbcdmcafobjpcaaGreatDoorSecBlk
import Derived.Deep.AppendLies
namespace Go.Proofs.YtbcdmcafobjpcaaGreatDoor.Sec
open Go.RowKit

theorem wcells_len (x : Nat × ByteArray) : (wcells x).length = x.2.size + 1 := by simp [wcells, bcells_len]
theorem wcells_one (x : Nat × ByteArray) : ∀ v ∈ wcells x, v.oneCell' = true := by
  intro v hv
  rcases List.mem_cons.1 hv with rfl | hv
  · rfl
  · exact bcells_one _ v hv

section
variable {w w' : World} {y : Lay} {D : Dsk}

theorem bmap_len {l : List ByteArray} (h : ∀ b ∈ l, b.size = 32) : ∀ x ∈ l.map bcells, x.length = 32 := by
  intro x hx
  obtain ⟨b, hb, rfl⟩ := List.mem_map.1 hx
  rw [bcells_len, h b hb]
theorem mem_set_size {l : List ByteArray} {m : Nat} {b : ByteArray} (h : ∀ b ∈ l, b.size = 32) (hb : b.size = 32) : ∀ x ∈ l.set m b, x.size = 32 := by
  intro x hx
  rcases List.mem_or_eq_of_mem_set hx with q | rfl
  · exact h x q
  · exact hb

/-- A sector of what was written last is set. -/
theorem IsD.set_now (h : IsD w y D) (m : Nat) (hm : m < D.lasts.length) (b : ByteArray) (hb : b.size = 32) : IsD (w.setCells y.N (m * 32) (bcells b)) y { D with now := D.now.set m b } := by
  have hn := h.shp.nL (by omega)
  have o : ∀ k, k ≠ y.N → (w.setCells y.N (m * 32) (bcells b)).heap[k]? = w.heap[k]? := fun k hk => heap_setCells_ne _ _ _ _ _ hk
  have hW : y.wa ≠ none → (w.setCells y.N (m * 32) (bcells b)).heap[y.W]? = w.heap[y.W]? := fun q => o _ (h.shp.nW q).2.2
  have hK : 0 < D.keep.length → (w.setCells y.N (m * 32) (bcells b)).heap[y.K]? = w.heap[y.K]? := fun q => o _ (h.shp.nK q).2.2.1
  have hd := h.head.of_block (o _ (fun e => hn.2.1 e.symm))
  refine ⟨⟨?_, hd.thr⟩, ⟨rows_of_block (o _ hn.2.2) h.bod.rL, ?_, ?_, there_of_block (o _ hn.2.2) h.bod.tL, World.there_setCells h.bod.tN _ _ _, ?_⟩, ?_, fun k q => by rw [size_setCells']; exact h.small k q⟩
  · have := hd.rng
    simpa [headc] using this
  · have := rows_set h.bod.rN (bmap_len h.shp.blkN) h.bod.tN m hm (bcells b) (by rw [bcells_len, hb])
    simpa [List.map_set] using this
  · have := h.bod.oW
    refine ⟨this.1, ?_⟩
    rcases this.2 with q | ⟨g, cap, cur, hv, hg, hh, r⟩
    · exact .inl q
    · have hwa : y.wa = some ⟨g, 0, none⟩ := by simpa using congrArg (fun v => match v with | .slice a _ _ => a | _ => none) hv
      have hne : y.wa ≠ none := by rw [hwa]; simp
      have hg' : g = y.W := by
        rcases h.shp.waE with q | q
        · exact absurd q hne
        · rw [hwa] at q; simpa using q
      subst hg'
      exact .inr ⟨_, cap, cur, hv, hg, by rw [hW hne]; exact hh, r⟩
  · intro j z hz
    exact (World.cell?_of_block (w := w) (a := ⟨y.K, j, none⟩) (hK (Nat.lt_of_le_of_lt (Nat.zero_le _) (List.getElem?_eq_some_iff.1 hz).1))).trans (h.bod.rK j z hz)
  · have s := h.shp
    exact ⟨by simpa using s.len, s.most, s.blkL, mem_set_size s.blkN hb, s.blkW, s.deedsB, s.leftB, s.waitsB, s.capL, by simpa using s.capN, s.capK, s.keepB, s.laE, s.naE, s.waE, s.kaE, s.nL, s.nW, s.nK⟩

/-- A sector that lasts is set. -/
theorem IsD.set_lasts (h : IsD w y D) (m : Nat) (hm : m < D.lasts.length) (b : ByteArray) (hb : b.size = 32) : IsD (w.setCells y.L (m * 32) (bcells b)) y { D with lasts := D.lasts.set m b } := by
  have hn := h.shp.nL (by omega)
  have o : ∀ k, k ≠ y.L → (w.setCells y.L (m * 32) (bcells b)).heap[k]? = w.heap[k]? := fun k hk => heap_setCells_ne _ _ _ _ _ hk
  have hW : y.wa ≠ none → (w.setCells y.L (m * 32) (bcells b)).heap[y.W]? = w.heap[y.W]? := fun q => o _ (h.shp.nW q).2.1
  have hK : 0 < D.keep.length → (w.setCells y.L (m * 32) (bcells b)).heap[y.K]? = w.heap[y.K]? := fun q => o _ (h.shp.nK q).2.1
  have hd := h.head.of_block (o _ (fun e => hn.1 e.symm))
  have hNL : y.N ≠ y.L := fun e => hn.2.2 e.symm
  refine ⟨⟨?_, hd.thr⟩, ⟨?_, rows_of_block (o _ hNL) h.bod.rN, ?_, by simpa using World.there_setCells h.bod.tL _ _ _, by simpa using there_of_block (o _ hNL) h.bod.tN, ?_⟩, ?_, fun k q => by rw [size_setCells']; exact h.small k q⟩
  · have := hd.rng
    simpa [headc] using this
  · have := rows_set h.bod.rL (bmap_len h.shp.blkL) h.bod.tL m hm (bcells b) (by rw [bcells_len, hb])
    simpa [List.map_set] using this
  · have := h.bod.oW
    refine ⟨this.1, ?_⟩
    rcases this.2 with q | ⟨g, cap, cur, hv, hg, hh, r⟩
    · exact .inl q
    · have hwa : y.wa = some ⟨g, 0, none⟩ := by simpa using congrArg (fun v => match v with | .slice a _ _ => a | _ => none) hv
      have hne : y.wa ≠ none := by rw [hwa]; simp
      have hg' : g = y.W := by
        rcases h.shp.waE with q | q
        · exact absurd q hne
        · rw [hwa] at q; simpa using q
      subst hg'
      exact .inr ⟨_, cap, cur, hv, hg, by rw [hW hne]; exact hh, r⟩
  · intro j z hz
    exact (World.cell?_of_block (w := w) (a := ⟨y.K, j, none⟩) (hK (Nat.lt_of_le_of_lt (Nat.zero_le _) (List.getElem?_eq_some_iff.1 hz).1))).trans (h.bod.rK j z hz)
  · have s := h.shp
    exact ⟨by simpa using s.len, by simpa using s.most, mem_set_size s.blkL hb, s.blkN, by simpa using s.blkW, s.deedsB, s.leftB, s.waitsB, by simpa using s.capL, s.capN, s.capK, s.keepB, by simpa using s.laE, by simpa using s.naE, s.waE, s.kaE, by simpa using s.nL, s.nW, s.nK⟩

/-- Where a disk lies behind an append to what waits. -/
def Lay.newW (y : Lay) (g cap : Nat) : Lay := { y with W := g, cW := cap, wa := some ⟨g, 0, none⟩ }

/-- A write more waits: behind the append, and the store into the struct. -/
theorem IsD.push_waits (h : IsD w y D) (x : Nat × ByteArray) (hx : x.2.size = 32 ∧ x.1 < D.lasts.length) (hB : D.waits.length + 1 < 2 ^ 40) (g cap : Nat)
    (hown : w'.ownsRow 0 77 33 (.slice (some ⟨g, 0, none⟩) (D.waits.length + 1) cap) (D.waits.length + 1) (D.waits.flatMap wcells ++ wcells x))
    (hgr : w.grownBy w' (Value.ownBlock (.slice y.wa D.waits.length y.cW))) (hat : Value.ownBlock (.slice y.wa D.waits.length y.cW) = some g ∨ w.heap.size ≤ g) (hlt : g < w'.heap.size) :
    IsD (w'.setCell ⟨y.p, 4, none⟩ (.slice (some ⟨g, 0, none⟩) (D.waits.length + 1) cap)) (y.newW g cap) { D with waits := D.waits ++ [x] } ∧
      (∀ b, (y.newW g cap).foot b → y.foot b ∨ w.heap.size ≤ b) ∧ Only y.foot w (w'.setCell ⟨y.p, 4, none⟩ (.slice (some ⟨g, 0, none⟩) (D.waits.length + 1) cap)) := by
  have s := h.shp
  have hob : ∀ k, Value.ownBlock (.slice y.wa D.waits.length y.cW) = some k → k = y.W ∧ y.wa ≠ none := fun k hk => by
    rcases s.waE with q | q
    · rw [q] at hk; simp [Value.ownBlock] at hk
    · rw [q] at hk ⊢; simp [Value.ownBlock] at hk; exact ⟨hk.symm, by simp⟩
  have hblk : ∀ k, k < w.heap.size → (y.wa ≠ none → k ≠ y.W) → w'.heap[k]? = w.heap[k]? := fun k hk hne => hgr.block k hk (fun e => by
    obtain ⟨e1, e2⟩ := hob k e.symm
    exact hne e2 e1)
  have hp := h.small y.p (.inl rfl)
  have hLs := h.small y.L (.inr (.inl rfl))
  have hNs := h.small y.N (.inr (.inr (.inl rfl)))
  have hKs := h.small y.K (.inr (.inr (.inr (.inr rfl))))
  have bp := hblk y.p hp (fun q e => (s.nW q).1 e.symm)
  have bL := hblk y.L hLs (fun q e => (s.nW q).2.1 e.symm)
  have bN := hblk y.N hNs (fun q e => (s.nW q).2.2 e.symm)
  have hd := h.head.of_block bp
  have gne : g ≠ y.p ∧ g ≠ y.L ∧ g ≠ y.N ∧ (0 < D.keep.length → y.K ≠ g) := by
    rcases hat with q | q
    · obtain ⟨rfl, e2⟩ := hob g q
      exact ⟨(s.nW e2).1, (s.nW e2).2.1, (s.nW e2).2.2, fun q => (s.nK q).2.2.2 e2⟩
    · exact ⟨by omega, by omega, by omega, fun _ => by omega⟩
  have o : ∀ k, k ≠ y.p → (w'.setCell ⟨y.p, 4, none⟩ (.slice (some ⟨g, 0, none⟩) (D.waits.length + 1) cap)).heap[k]? = w'.heap[k]? := fun k hk => heap_setCell_ne _ _ _ _ hk
  refine ⟨⟨⟨?_, there_set hd.thr _ _⟩, ⟨?_, ?_, ?_, ?_, ?_, ?_⟩, ?_, ?_⟩, ?_, ?_⟩
  · have := rangeAt_set (k := 4) hd.rng (.slice (some ⟨g, 0, none⟩) (D.waits.length + 1) cap)
    simpa [headc, Lay.newW] using this
  · intro j u hu
    exact rangeAt_of_block ((o _ (s.nL (by have := (List.getElem?_eq_some_iff.1 hu).1; simp at this; omega)).1).trans bL) (h.bod.rL j u hu)
  · intro j u hu
    exact rangeAt_of_block ((o _ (s.nL (by have := (List.getElem?_eq_some_iff.1 hu).1; have := s.len; simp at *; omega)).2.1).trans bN) (h.bod.rN j u hu)
  · have e : (D.waits ++ [x]).flatMap wcells = D.waits.flatMap wcells ++ wcells x := by simp
    refine ⟨by rw [e]; simpa using hown.1, ?_⟩
    rcases hown.2 with ⟨q, _⟩ | ⟨g', cap', cur, hv, hg, hh, r1, r2, r3, r4⟩
    · cases q
    · obtain ⟨rfl, rfl⟩ : g = g' ∧ cap = cap' := by simpa using hv
      refine .inr ⟨g, cap, cur, ?_, hg, by rw [o _ gne.1]; exact hh, by simpa using r1, r2, r3, ?_⟩
      · simp [Lay.newW]
      · rw [e]; simpa using r4
  · intro j hj
    exact there_of_block ((o _ (s.nL (by omega)).1).trans bL) h.bod.tL j hj
  · intro j hj
    exact there_of_block ((o _ (s.nL (by omega)).2.1).trans bN) h.bod.tN j hj
  · intro j z hz
    have h0 : 0 < D.keep.length := Nat.lt_of_le_of_lt (Nat.zero_le _) (List.getElem?_eq_some_iff.1 hz).1
    have hk := s.nK h0
    exact (World.cell?_of_block (w := w) (a := ⟨y.K, j, none⟩) ((o _ hk.1).trans (hblk _ hKs hk.2.2.2))).trans (h.bod.rK j z hz)
  · refine ⟨s.len, s.most, s.blkL, s.blkN, ?_, s.deedsB, s.leftB, by simpa using hB, s.capL, s.capN, s.capK, s.keepB, s.laE, s.naE, .inr rfl, s.kaE, s.nL, fun _ => ⟨gne.1, gne.2.1, gne.2.2.1⟩, fun q => ⟨(s.nK q).1, (s.nK q).2.1, (s.nK q).2.2.1, fun _ => gne.2.2.2 q⟩⟩
    intro u hu
    rcases List.mem_append.1 hu with q | q
    · exact s.blkW u q
    · obtain rfl : u = x := by simpa using q
      exact hx
  · intro k q
    rw [size_setCell']
    have hsz := hgr.size
    rcases q with q | q | q | q | q
    · have := h.small k (.inl q); omega
    · have := h.small k (.inr (.inl q)); omega
    · have := h.small k (.inr (.inr (.inl q))); omega
    · obtain rfl : k = g := q
      exact hlt
    · have := h.small k (.inr (.inr (.inr (.inr q)))); omega
  · intro k q
    rcases q with q | q | q | q | q
    · exact .inl (.inl q)
    · exact .inl (.inr (.inl q))
    · exact .inl (.inr (.inr (.inl q)))
    · obtain rfl : k = g := q
      rcases hat with q | q
      · exact .inl (.inr (.inr (.inr (.inl (hob _ q).1))))
      · exact .inr q
    · exact .inl (.inr (.inr (.inr (.inr q))))
  · exact ((Only.refl _ _).grown hgr (fun k hk => .inl (.inr (.inr (.inr (.inl (hob _ hk).1)))))).setCell (.inl (.inl rfl)) _
end

/-- WHAT A CALL LEAVES: the disk D', at the same struct; of what was there only its own blocks may have turned. -/
def Goes (y : Lay) (w : World) (D' : Dsk) (w' : World) : Prop :=
  ∃ y' : Lay, y'.p = y.p ∧ IsD w' y' D' ∧ (∀ b, y'.foot b → y.foot b ∨ w.heap.size ≤ b) ∧ Only y.foot w w'
theorem Goes.refl {y : Lay} {w : World} {D : Dsk} (h : IsD w y D) : Goes y w D w := ⟨y, rfl, h, fun _ q => .inl q, Only.refl _ _⟩
theorem Goes.of {y : Lay} {w w' : World} {D : Dsk} (h : IsD w' y D) (o : Only y.foot w w') : Goes y w D w' := ⟨y, rfl, h, fun _ q => .inl q, o⟩
theorem Goes.trans {y : Lay} {w w1 w2 : World} {D1 D2 : Dsk} (h : Goes y w D1 w1) (k : ∀ y1 : Lay, y1.p = y.p → IsD w1 y1 D1 → Goes y1 w1 D2 w2) : Goes y w D2 w2 := by
  obtain ⟨y1, hp, hi, hf, ho⟩ := h
  obtain ⟨y2, hp2, hi2, hf2, ho2⟩ := k y1 hp hi
  refine ⟨y2, hp2.trans hp, hi2, fun b q => ?_, ho.trans ho2 fun i hi q => ?_⟩
  · rcases hf2 b q with q | q
    · exact hf b q
    · exact .inr (Nat.le_trans ho.size q)
  · rcases hf i q with q | q
    · exact q
    · omega
end Go.Proofs.YtbcdmcafobjpcaaGreatDoor.Sec
