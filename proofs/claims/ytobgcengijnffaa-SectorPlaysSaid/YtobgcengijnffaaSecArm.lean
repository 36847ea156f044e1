/- Disk.Arm by its contract. -/
import Derived.Test.YtobgcengijnffaaSecClone
namespace Go.Proofs.Ytobgcengijnffaa
open Go.RowKit

/-- A disk that is armed. -/
def Dsk.arm (D : Dsk) (n : Nat) (kl : List Int) : Dsk := { D with lit := true, left := n, keep := kl }
/-- Where it lies. -/
def Lay.armed (y : Lay) (kl : List Int) (ka : Option Addr) (g cap : Nat) : Lay := { y with K := if 0 < kl.length then g else y.p, cK := cap, ka := ka }

section
variable {w : World} {y : Lay} {D : Dsk}
theorem IsD.armed (h : IsD w y D) (n : Nat) (hn : n < 2 ^ 63) (kl : List Int) (ka : Option Addr) (g cap : Nat) (hkl : kl.length < 2 ^ 62) (hc : kl.length ≤ cap) (hka : 0 < kl.length → ka = some ⟨g, 0, none⟩ ∧ g < w.heap.size ∧ g ≠ y.p ∧ g ≠ y.L ∧ g ≠ y.N ∧ g ≠ y.W)
    (hat : ∀ j z, kl[j]? = some z → w.cell? ⟨g, j, none⟩ = some (.int .i64 z)) :
    IsD (((w.setCell ⟨y.p, 6, none⟩ (.bool true)).setCell ⟨y.p, 7, none⟩ (.int .i64 (n : Int))).setCell ⟨y.p, 8, none⟩ (.slice ka kl.length cap)) (y.armed kl ka g cap) (D.arm n kl) := by
  have o : ∀ b, b ≠ y.p → (((w.setCell ⟨y.p, 6, none⟩ (.bool true)).setCell ⟨y.p, 7, none⟩ (.int .i64 (n : Int))).setCell ⟨y.p, 8, none⟩ (.slice ka kl.length cap)).heap[b]? = w.heap[b]? := fun b hb => by
    rw [heap_setCell_ne _ _ _ _ hb, heap_setCell_ne _ _ _ _ hb, heap_setCell_ne _ _ _ _ hb]
  have b := h.bod.off_p h.shp o
  have s := h.shp
  refine ⟨⟨?_, there_set (there_set (there_set h.head.thr _ _) _ _) _ _⟩, ⟨b.rL, b.rN, b.oW, b.tL, b.tN, ?_⟩, ?_, ?_⟩
  · exact rangeAt_set (k := 8) (rangeAt_set (k := 7) (rangeAt_set (k := 6) h.head.rng _) _) _
  · intro j z hz
    have h0 : 0 < kl.length := Nat.lt_of_le_of_lt (Nat.zero_le _) (List.getElem?_eq_some_iff.1 hz).1
    have hg := hka h0
    show World.cell? _ ⟨if 0 < kl.length then g else y.p, j, none⟩ = _
    rw [if_pos h0]
    exact (World.cell?_of_block (w := w) (a := ⟨g, j, none⟩) (o g hg.2.2.1)).trans (hat j z hz)
  · refine ⟨s.len, s.most, s.blkL, s.blkN, s.blkW, s.deedsB, hn, s.waitsB, s.capL, s.capN, hc, hkl, s.laE, s.naE, s.waE, ?_, s.nL, s.nW, ?_⟩
    · intro q
      have q' : 0 < kl.length := q
      show ka = some ⟨if 0 < kl.length then g else y.p, 0, none⟩
      rw [if_pos q']
      exact (hka q').1
    · intro q
      have q' : 0 < kl.length := q
      have hg := hka q'
      show (if 0 < kl.length then g else y.p) ≠ y.p ∧ (if 0 < kl.length then g else y.p) ≠ y.L ∧ (if 0 < kl.length then g else y.p) ≠ y.N ∧ (y.wa ≠ none → (if 0 < kl.length then g else y.p) ≠ y.W)
      rw [if_pos q']
      exact ⟨hg.2.2.1, hg.2.2.2.1, hg.2.2.2.2.1, fun _ => hg.2.2.2.2.2⟩
  · intro k q
    rw [size_setCell', size_setCell', size_setCell']
    rcases q with q | q | q | q | q
    · exact h.small k (.inl q)
    · exact h.small k (.inr (.inl q))
    · exact h.small k (.inr (.inr (.inl q)))
    · exact h.small k (.inr (.inr (.inr (.inl q))))
    · have q' : k = if 0 < kl.length then g else y.p := q
      split at q'
      · rename_i h0; rw [q']; exact (hka h0).2.1
      · exact h.small k (.inl q')
end

set_option maxHeartbeats 1000000 in
/-- Arm of a number that is not below 0. -/
theorem Arm_is (y : Lay) (D : Dsk) (w : World) (n : Nat) (hn : n < 2 ^ 63) (a : Option Addr) (kl : List Int) (c : Nat) (h : IsD w y D) (hk : IntsAt w a kl) (hoff : ∀ b : Addr, 0 < kl.length → a = some b → b.block ≠ y.p) (hkl : kl.length < 2 ^ 40) :
    Calls Try.prog 21 #[.pointer (some ⟨y.p, 0, none⟩), .int .i64 (n : Int), .slice a kl.length c] w fun e w' => e = .returned (.tuple #[]) ∧ Goes y w (D.arm n kl) w' := by
  have hn0 : (0 : Int) ≤ (n : Int) := Int.natCast_nonneg n
  have f6 := h.head.fz 6 (by omega)
  have f7 := h.head.fz 7 (by omega)
  have f8 := h.head.fz 8 (by omega)
  have c6 := h.head.c6
  have c7 := h.head.c7
  have c8 := h.head.c8
  have H := Lib.hid (And.intro h (And.intro hk hoff))
  clear h hk hoff
  go_enter Try.func21, Try.ntmps21
  go_wp2_with (go_at_call 37; refine (none_is y D _ H.out.1).mono ?_; rintro e w' ⟨rfl, rfl⟩)
  have I1 := H.out.1.set_noK
  have ks1 : ∀ j u, (kl.map (Value.int .i64))[j]? = some u → ∃ b : Addr, a = some b ∧ b.block < (((w'.setCell ⟨y.p, 6, none⟩ (.bool false)).setCell ⟨y.p, 7, none⟩ (.int .i64 0)).setCell ⟨y.p, 8, none⟩ (.slice none 0 0)).heap.size ∧
      (((w'.setCell ⟨y.p, 6, none⟩ (.bool false)).setCell ⟨y.p, 7, none⟩ (.int .i64 0)).setCell ⟨y.p, 8, none⟩ (.slice none 0 0)).cell? (b.add j) = some u := fun j u hu => by
    rw [List.getElem?_map] at hu
    obtain ⟨z, hz, rfl⟩ := Option.map_eq_some_iff.1 hu
    obtain ⟨b, hb, hlt, hc⟩ := H.out.2.1 j z hz
    have hne := H.out.2.2 b (Nat.lt_of_le_of_lt (Nat.zero_le _) (List.getElem?_eq_some_iff.1 hz).1) hb
    refine ⟨b, hb, by rw [size_setCell', size_setCell', size_setCell']; exact hlt, ?_⟩
    rw [World.cell?_of_block (w := w') (a := b.add j) (by rw [add_block, heap_setCell_ne _ _ _ _ hne, heap_setCell_ne _ _ _ _ hne, heap_setCell_ne _ _ _ _ hne])]
    exact hc
  have o1 : Only y.foot w' (((w'.setCell ⟨y.p, 6, none⟩ (.bool false)).setCell ⟨y.p, 7, none⟩ (.int .i64 0)).setCell ⟨y.p, 8, none⟩ (.slice none 0 0)) := (((Only.refl _ _).setCell (.inl (.inl rfl)) _).setCell (.inl (.inl rfl)) _).setCell (.inl (.inl rfl)) _
  have hnil : a = none → kl.length = 0 := fun q => by
    rcases Nat.eq_zero_or_pos kl.length with r | r
    · exact r
    · obtain ⟨b, hb, _⟩ := H.out.2.1 0 _ (List.getElem?_eq_getElem r)
      rw [q] at hb; cases hb
  clear f6 f7 f8 c6 c7 c8
  generalize ((w'.setCell ⟨y.p, 6, none⟩ (.bool false)).setCell ⟨y.p, 7, none⟩ (.int .i64 0)).setCell ⟨y.p, 8, none⟩ (.slice none 0 0) = w1 at *
  have hone : ∀ u ∈ kl.map (Value.int .i64), u.oneCell' = true := fun u hu => by
    obtain ⟨z, _, rfl⟩ := List.mem_map.1 hu
    rfl
  refine (clone_int a kl.length c (kl.map (Value.int .i64)) w1 hkl (by simp) ks1 hone hnil).mono ?_
  rintro e w2 ⟨a', c', rfl, hb2, hc2, hown⟩
  have I2 : IsD w2 y.noK D.disarm := I1.only (Only.of_below hb2) (fun b q r => by have := I1.small b q; omega)
  have c6 := I2.head.c6
  have c7 := I2.head.c7
  have c8 := I2.head.c8
  have f6 := I2.head.fz 6 (by omega)
  have f7 := I2.head.fz 7 (by omega)
  have f8 := I2.head.fz 8 (by omega)
  change w2.cell? ⟨y.p, 6, none⟩ = _ at c6
  change w2.cell? ⟨y.p, 7, none⟩ = _ at c7
  change w2.cell? ⟨y.p, 8, none⟩ = _ at c8
  change w2.frozen? ⟨y.p, 6, none⟩ = _ at f6
  change w2.frozen? ⟨y.p, 7, none⟩ = _ at f7
  change w2.frozen? ⟨y.p, 8, none⟩ = _ at f8
  have H2 := Lib.hid (And.intro I2 (And.intro hb2 (And.intro hc2 (And.intro hown (And.intro o1 I1)))))
  clear I2 hb2 hc2 hown o1 I1 ks1 hnil hone
  go_wp2
  refine bodyPost_end (results_none rfl _ _ _) rfl ?_
  obtain ⟨I2, hb2, hc2, hown, o1, I1⟩ := H2.out
  have hsz := hb2.size
  rcases hown with ⟨rfl, h0, _⟩ | ⟨g, rfl, hg, hown⟩
  · have hkn : kl = [] := List.eq_nil_of_length_eq_zero h0
    subst hkn
    have I3 := I2.armed n hn [] none 0 c' (by simp) hc2 (fun q => by simp at q) (fun j z hz => by simp at hz)
    refine ⟨rfl, y.noK.armed [] none 0 c', rfl, I3, ?_, ?_⟩
    · intro b q
      rcases q with q | q | q | q | q
      · exact .inl (.inl q)
      · exact .inl (.inr (.inl q))
      · exact .inl (.inr (.inr (.inl q)))
      · exact .inl (.inr (.inr (.inr (.inl q))))
      · exact .inl (.inl q)
    · exact (((o1.trans (Only.of_below hb2) (fun i hi q => by have := o1.size; omega)).setCell (.inl (.inl rfl)) _).setCell (.inl (.inl rfl)) _).setCell (.inl (.inl rfl)) _
  · have hlt : g < w2.heap.size := by
      have := hown.lt g rfl
      exact this.2
    have hgf : ∀ b, y.noK.foot b → g ≠ b := fun b q e => by have := I1.small b q; omega
    have I3 := I2.armed n hn kl (some ⟨g, 0, none⟩) g c' (by omega) hc2 (fun q => ⟨rfl, hlt, hgf _ (.inl rfl), hgf _ (.inr (.inl rfl)), hgf _ (.inr (.inr (.inl rfl))), hgf _ (.inr (.inr (.inr (.inl rfl))))⟩) (fun j z hz => by
      have hj : j < kl.length := (List.getElem?_eq_some_iff.1 hz).1
      rw [hown.cellAt j (by omega)]
      simp [hz])
    refine ⟨rfl, y.noK.armed kl (some ⟨g, 0, none⟩) g c', rfl, I3, ?_, ?_⟩
    · intro b q
      rcases q with q | q | q | q | q
      · exact .inl (.inl q)
      · exact .inl (.inr (.inl q))
      · exact .inl (.inr (.inr (.inl q)))
      · exact .inl (.inr (.inr (.inr (.inl q))))
      · have q' : b = if 0 < kl.length then g else y.p := q
        split at q'
        · have := o1.size; exact .inr (by omega)
        · exact .inl (.inl q')
    · exact (((o1.trans (Only.of_below hb2) (fun i hi q => by have := o1.size; omega)).setCell (.inl (.inl rfl)) _).setCell (.inl (.inl rfl)) _).setCell (.inl (.inl rfl)) _

theorem Arm_at {B p : Nat} {D : Dsk} (w : World) (n : Nat) (hn : n < 2 ^ 63) (a : Option Addr) (kl : List Int) (c : Nat) (h : At B w p D) (hk : IntsAt w a kl) (hoff : ∀ b : Addr, 0 < kl.length → a = some b → b.block < B) (hkl : kl.length < 2 ^ 40) :
    Calls Try.prog 21 #[.pointer (some ⟨p, 0, none⟩), .int .i64 (n : Int), .slice a kl.length c] w fun e w' => e = .returned (.tuple #[]) ∧ At B w' p (D.arm n kl) ∧ Below B w w' := by
  obtain ⟨y, rfl, hi, hft⟩ := h
  exact (Arm_is y D w n hn a kl c hi hk (fun b q r => by have := hoff b q r; have := hft y.p (.inl rfl); omega) hkl).mono fun e w' ⟨he, hg⟩ => ⟨he, At.of hi hft hg⟩
end Go.Proofs.Ytobgcengijnffaa
