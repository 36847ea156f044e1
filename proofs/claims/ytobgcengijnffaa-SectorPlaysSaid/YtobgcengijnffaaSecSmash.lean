/- Disk.Smash by its contract. -/
import Derived.Test.YtobgcengijnffaaSecWrite
namespace Go.Proofs.Ytobgcengijnffaa
open Go.RowKit

/-- May a sector be turned? -/
def Dsk.mayS (D : Dsk) (k : Int) (b : ByteArray) : Bool := !D.on && (D.has k && b.size == 32)

set_option maxHeartbeats 1000000 in
theorem Smash_not (y : Lay) (D : Dsk) (k : Int) (b : ByteArray) (w : World) (h : IsD w y D) (hm : D.mayS k b = false) :
    Calls Try.prog 23 #[.pointer (some ⟨y.p, 0, none⟩), .int .i64 k, .string b] w fun e w' => e = .returned (.bool false) ∧ w' = w := by
  have c1 := h.head.c1
  have H := Lib.hid h
  cases hon : D.on
  · rw [hon] at c1
    cases hh : D.has k
    · have HH := Lib.hid hh
      clear h hm hon hh
      go_enter Try.func23, Try.ntmps23
      go_wp2_with (first
        | (go_at_call 37; refine (none_is y D _ H.out).mono ?_; rintro e w' ⟨rfl, rfl⟩)
        | (go_at_call 39; refine (has_is y D _ _ H.out).mono ?_; rintro e w' ⟨rfl, rfl⟩; rw [HH.out]))
      go_ret
      exact ⟨rfl, rfl⟩
    · have HH := Lib.hid hh
      have HB := Lib.hid (show (b.size == 32) = false by simpa [Dsk.mayS, hon, hh] using hm)
      clear h hm hon hh
      go_enter Try.func23, Try.ntmps23
      go_wp2_with (first
        | (go_at_call 37; refine (none_is y D _ H.out).mono ?_; rintro e w' ⟨rfl, rfl⟩)
        | (go_at_call 39; refine (has_is y D _ _ H.out).mono ?_; rintro e w' ⟨rfl, rfl⟩; rw [HH.out])
        | (go_at_call 40; refine (fills_is b _).mono ?_; rintro e w' ⟨rfl, rfl⟩; rw [HB.out]))
      go_ret
      exact ⟨rfl, rfl⟩
  · rw [hon] at c1
    clear h hm hon
    go_enter Try.func23, Try.ntmps23
    go_wp2_with (first
      | (go_at_call 37; refine (none_is y D _ H.out).mono ?_; rintro e w' ⟨rfl, rfl⟩))
    go_ret
    exact ⟨rfl, rfl⟩

set_option maxHeartbeats 2000000 in
theorem Smash_ok (y : Lay) (D : Dsk) (m : Nat) (b : ByteArray) (hb : b.size = 32) (w : World) (h : IsD w y D) (hon : D.on = false) (hm : m < D.lasts.length) :
    Calls Try.prog 23 #[.pointer (some ⟨y.p, 0, none⟩), .int .i64 (m : Int), .string b] w fun e w' => e = .returned (.bool true) ∧ Goes y w { D with lasts := D.lasts.set m b, now := D.now.set m b } w' := by
  have c1 := h.head.c1
  rw [hon] at c1
  have HH := Lib.hid (show D.has (m : Int) = true by simp [Dsk.has]; omega)
  have HB := Lib.hid (show (b.size == 32) = true by simp [hb])
  have HBL := Lib.hid (show (bcells b).length = 32 by rw [bcells_len, hb])
  have c2 := h.head.c2
  rw [h.shp.laE (by omega)] at c2
  have t2 : w.there y.L (m * 32) 32 := fun j hj => by
    have := h.bod.tL (m * 32 + j) (by have := Nat.mul_le_mul_right 32 (show m + 1 ≤ D.lasts.length from hm); omega)
    rw [Nat.zero_add] at this
    exact this
  have hpL : y.p ≠ y.L := fun e => (h.shp.nL (by omega)).1 e.symm
  have hu63 := Try.underlying63
  have hi63 : (Try.prog.info? 63).map (·.size) = some (bcells b).length := by rw [HBL.out]; exact blockSize
  have h1b := bcells_one b
  have hlenb : (bcells b).length = 32 := HBL.out
  have hlm := h.shp.most
  have hps := h.small y.p (.inl rfl)
  have hLs := h.small y.L (.inr (.inl rfl))
  have H := Lib.hid (And.intro h hb)
  clear h hon hb
  go_enter Try.func23, Try.ntmps23
  go_wp2_with (first
    | (go_at_call 37; refine (none_is y D _ H.out.1).mono ?_; rintro e w' ⟨rfl, rfl⟩)
    | (go_at_call 39; refine (has_is y D _ _ H.out.1).mono ?_; rintro e w' ⟨rfl, rfl⟩; rw [HH.out])
    | (go_at_call 40; refine (fills_is b _).mono ?_; rintro e w' ⟨rfl, rfl⟩; rw [HB.out]))
  go_region_held3 (fun u => u.cell? ⟨y.p, 2, none⟩ = some (.slice (some ⟨y.L, 0, none⟩) D.lasts.length y.cL) ∧ u.there y.L (m * 32) 32) (first
    | (simp only [World.cell?_drew]; exact ⟨c2, t2⟩)
    | (go_split_ands; exact ⟨(World.cell?_of_block (a := ⟨y.p, 2, none⟩) (ho1.block _ hps (fun q => q))).trans (by assumption), there_of_block (ho1.block _ hLs (fun q => q)) (by assumption)⟩)
    | (go_split_ands; exact ⟨(World.cell?_setCells_out _ _ _ _ _ (fun e => absurd e hpL)).trans (by assumption), World.there_setCells (by assumption) _ _ _⟩)) (first | (go_at_call 33; refine (blockOf_is b H.out.2 _).mono ?_; rintro e w1 ⟨rfl, ho1⟩))
  have hb := H.out.2
  have I1 : IsD w1 y D := H.out.1.drew.only ho1 (fun _ _ q => q)
  have I2 := I1.set_lasts m hm b hb
  have o2 : Only y.foot w' (w1.setCells y.L (m * 32) (bcells b)) := Only.setCells (.inl (.inr (.inl rfl))) _ _ (((Only.refl y.foot w').drew).trans (ho1.mono (fun _ _ q => q.elim)) (fun _ _ q => q))
  rename_i hheld
  clear hheld ho1 I1 c1 c2 t2 hps hLs hpL
  generalize w1.setCells y.L (m * 32) (bcells b) = w2 at *
  have c2 := I2.head.c2
  change w2.cell? ⟨y.p, 2, none⟩ = some (.slice y.la (D.lasts.set m b).length y.cL) at c2
  rw [H.out.1.shp.laE (by omega), List.length_set] at c2
  have hlen := H.out.1.shp.len
  have c3 := I2.head.c3
  change w2.cell? ⟨y.p, 3, none⟩ = some (.slice y.na D.now.length y.cN) at c3
  rw [H.out.1.shp.naE (by omega), hlen] at c3
  have rL : w2.rangeAt y.L (m * 32) (bcells b) := I2.bod.rL m _ (by simp [hm])
  have tN : w2.there y.N (m * 32) 32 := fun j hj => by
    have := I2.bod.tN (m * 32 + j) (by
      show m * 32 + j < (D.lasts.set m b).length * 32
      rw [List.length_set]
      have := Nat.mul_le_mul_right 32 (show m + 1 ≤ D.lasts.length from hm); omega)
    rw [Nat.zero_add] at this
    exact this
  have hnL := H.out.1.shp.nL (by omega)
  have hpN : y.p ≠ y.N := fun e => hnL.2.1 e.symm
  have hLN : y.L ≠ y.N := hnL.2.2
  have HK := Lib.hid (And.intro I2 o2)
  clear I2 o2 hb hlen hnL
  go_wp2
  go_region_held3 (fun u => u.cell? ⟨y.p, 2, none⟩ = some (.slice (some ⟨y.L, 0, none⟩) D.lasts.length y.cL) ∧ u.cell? ⟨y.p, 3, none⟩ = some (.slice (some ⟨y.N, 0, none⟩) D.lasts.length y.cN) ∧ u.rangeAt y.L (m * 32) (bcells b) ∧ u.there y.N (m * 32) 32) (first
    | (simp only [World.cell?_drew]; go_keep_ranges)
    | (go_split_ands; exact ⟨(World.cell?_setCells_out _ _ _ _ _ (fun e => absurd e hpN)).trans (by assumption), (World.cell?_setCells_out _ _ _ _ _ (fun e => absurd e hpN)).trans (by assumption), World.rangeAt_setCells_apart (by assumption) _ _ _ (.inl hLN), World.there_setCells (by assumption) _ _ _⟩)) (first | fail)
  go_wp2
  go_ret
  have I3 := (HK.out.1.drew).set_now m (by show m < (D.lasts.set m b).length; rw [List.length_set]; exact hm) b H.out.2
  exact ⟨rfl, y, rfl, I3, fun _ q => .inl q, Only.setCells (.inl (.inr (.inr (.inl rfl)))) _ _ HK.out.2.drew⟩
end Go.Proofs.Ytobgcengijnffaa
