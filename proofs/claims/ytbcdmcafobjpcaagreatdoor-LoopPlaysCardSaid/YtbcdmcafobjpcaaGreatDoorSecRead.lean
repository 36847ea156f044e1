/- The calls of a Disk that only read it: none, has, fills, may, On, Len, Waits, Deeds. Conditions: none but the shape of the disk in memory. -/
import Derived.Test.YtbcdmcafobjpcaaGreatDoorSecMem
namespace Go.Proofs.YtbcdmcafobjpcaaGreatDoor.Sec
open Go.RowKit

set_option maxHeartbeats 400000 in
theorem none_is (y : Lay) (D : Dsk) (w : World) (h : IsD w y D) :
    Calls Tryz.prog 29 #[.pointer (some ⟨y.p, 0, none⟩)] w fun e w' => e = .returned (.bool false) ∧ w' = w := by
  have c0 := h.head.c0
  go_enter Tryz.func29, Tryz.ntmps29
  go_wp2
  go_ret
  exact ⟨rfl, rfl⟩

set_option maxHeartbeats 400000 in
theorem none_nil (w : World) :
    Calls Tryz.prog 29 #[.pointer none] w fun e w' => e = .returned (.bool true) ∧ w' = w := by
  go_enter Tryz.func29, Tryz.ntmps29
  go_wp2
  go_ret
  exact ⟨rfl, rfl⟩

set_option maxHeartbeats 400000 in
theorem fills_is (s : ByteArray) (w : World) :
    Calls Tryz.prog 105 #[.string s] w fun e w' => e = .returned (.bool (s.size == 32)) ∧ w' = w := by
  cases hb : (s.size == 32)
  all_goals
    have h1 : (((s.size : Nat) : Int) == 32) = (s.size == 32) := by
      rw [Bool.eq_iff_iff]; simp; omega
    rw [hb] at h1
    go_enter Tryz.func105, Tryz.ntmps105
    go_wp2
    go_ret
    exact ⟨rfl, rfl⟩

/-- Is there such a sector? -/
def Dsk.has (D : Dsk) (k : Int) : Bool := decide (0 ≤ k ∧ k < (D.lasts.length : Int))

set_option maxHeartbeats 400000 in
theorem has_is (y : Lay) (D : Dsk) (k : Int) (w : World) (h : IsD w y D) :
    Calls Tryz.prog 106 #[.pointer (some ⟨y.p, 0, none⟩), .int .i64 k] w fun e w' => e = .returned (.bool (D.has k)) ∧ w' = w := by
  have c2 := h.head.c2
  have hl := h.shp.most
  cases hb : D.has k
  · simp only [Dsk.has, decide_eq_false_iff_not] at hb
    by_cases h0 : 0 ≤ k
    · have h1 : ¬ k < (D.lasts.length : Int) := fun h => hb ⟨h0, h⟩
      clear hb h
      go_enter Tryz.func106, Tryz.ntmps106
      go_wp2
      go_ret
      exact ⟨rfl, rfl⟩
    · clear hb h
      go_enter Tryz.func106, Tryz.ntmps106
      go_wp2
      go_ret
      exact ⟨rfl, rfl⟩
  · simp only [Dsk.has, decide_eq_true_eq] at hb
    obtain ⟨h0, h1⟩ := hb
    clear h
    go_enter Tryz.func106, Tryz.ntmps106
    go_wp2
    go_ret
    exact ⟨rfl, rfl⟩

/-- What stands against a deed (0 a Write, 1 a Read, 2 a Barrier). -/
def Dsk.mayW (D : Dsk) (k : Int) (b : ByteArray) : Int := if D.on then (if D.has k && b.size == 32 then 0 else 1) else 3
def Dsk.mayR (D : Dsk) (k : Int) : Int := if D.on then (if D.has k then 0 else 1) else 3
def Dsk.mayB (D : Dsk) : Int := if D.on then 0 else 3

set_option maxHeartbeats 1000000 in
theorem mayW_is (y : Lay) (D : Dsk) (k : Int) (b : ByteArray) (w : World) (h : IsD w y D) :
    Calls Tryz.prog 94 #[.pointer (some ⟨y.p, 0, none⟩), .int .i64 0, .int .i64 k, .string b] w fun e w' => e = .returned (.int .i64 (D.mayW k b)) ∧ w' = w := by
  have c1 := h.head.c1
  unfold Dsk.mayW
  have H := Lib.hid h
  clear h
  cases ho : D.on <;> cases hh : D.has k <;> cases hb : (b.size == 32)
  all_goals
    rw [ho] at c1
    have HB := Lib.hid (And.intro hh hb)
    clear ho hh hb
    go_enter Tryz.func94, Tryz.ntmps94
    go_wp2_with (first | (go_at_call 29; refine (none_is y D _ H.out).mono ?_; rintro e w' ⟨rfl, rfl⟩) | (go_at_call 105; refine (fills_is b _).mono ?_; rintro e w' ⟨rfl, rfl⟩; rw [HB.out.2]) | (go_at_call 106; refine (has_is y D k _ H.out).mono ?_; rintro e w' ⟨rfl, rfl⟩; rw [HB.out.1]))
    go_ret
    exact ⟨rfl, rfl⟩

set_option maxHeartbeats 1000000 in
theorem mayR_is (y : Lay) (D : Dsk) (k : Int) (b : ByteArray) (w : World) (h : IsD w y D) :
    Calls Tryz.prog 94 #[.pointer (some ⟨y.p, 0, none⟩), .int .i64 1, .int .i64 k, .string b] w fun e w' => e = .returned (.int .i64 (D.mayR k)) ∧ w' = w := by
  have c1 := h.head.c1
  unfold Dsk.mayR
  have H := Lib.hid h
  clear h
  cases ho : D.on <;> cases hh : D.has k
  all_goals
    rw [ho] at c1
    have HB := Lib.hid hh
    clear ho hh
    go_enter Tryz.func94, Tryz.ntmps94
    go_wp2_with (first | (go_at_call 29; refine (none_is y D _ H.out).mono ?_; rintro e w' ⟨rfl, rfl⟩) | (go_at_call 106; refine (has_is y D k _ H.out).mono ?_; rintro e w' ⟨rfl, rfl⟩; rw [HB.out]))
    go_ret
    exact ⟨rfl, rfl⟩

set_option maxHeartbeats 1000000 in
theorem mayB_is (y : Lay) (D : Dsk) (k : Int) (b : ByteArray) (w : World) (h : IsD w y D) :
    Calls Tryz.prog 94 #[.pointer (some ⟨y.p, 0, none⟩), .int .i64 2, .int .i64 k, .string b] w fun e w' => e = .returned (.int .i64 D.mayB) ∧ w' = w := by
  have c1 := h.head.c1
  unfold Dsk.mayB
  have H := Lib.hid h
  clear h
  cases ho : D.on
  all_goals
    rw [ho] at c1
    clear ho
    go_enter Tryz.func94, Tryz.ntmps94
    go_wp2_with (go_at_call 29; refine (none_is y D _ H.out).mono ?_; rintro e w' ⟨rfl, rfl⟩)
    go_ret
    exact ⟨rfl, rfl⟩

set_option maxHeartbeats 400000 in
theorem On_is (y : Lay) (D : Dsk) (w : World) (h : IsD w y D) :
    Calls Tryz.prog 10 #[.pointer (some ⟨y.p, 0, none⟩)] w fun e w' => e = .returned (.bool D.on) ∧ w' = w := by
  have c1 := h.head.c1
  have H := Lib.hid h
  clear h
  cases ho : D.on
  all_goals
    rw [ho] at c1
    clear ho
    go_enter Tryz.func10, Tryz.ntmps10
    go_wp2_with (go_at_call 29; refine (none_is y D _ H.out).mono ?_; rintro e w' ⟨rfl, rfl⟩)
    go_ret
    exact ⟨rfl, rfl⟩

set_option maxHeartbeats 400000 in
theorem Len_is (y : Lay) (D : Dsk) (w : World) (h : IsD w y D) :
    Calls Tryz.prog 23 #[.pointer (some ⟨y.p, 0, none⟩)] w fun e w' => e = .returned (.int .i64 (D.lasts.length : Int)) ∧ w' = w := by
  have cc := h.head.c2
  have H := Lib.hid h
  clear h
  go_enter Tryz.func23, Tryz.ntmps23
  go_wp2_with (go_at_call 29; refine (none_is y D _ H.out).mono ?_; rintro e w' ⟨rfl, rfl⟩)
  go_ret
  exact ⟨rfl, rfl⟩
end Go.Proofs.YtbcdmcafobjpcaaGreatDoor.Sec
