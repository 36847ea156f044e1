/- falls, Power, Read of a Disk by their contracts. Conditions: none but the shape of the disk in memory. -/
import Derived.Test.YtbcdmcafobjpcaaGreatDoorSecRead
namespace Go.Proofs.YtbcdmcafobjpcaaGreatDoor.Sec
open Go.RowKit

/-- Does the power go at this deed? -/
def Dsk.fallsNow (D : Dsk) : Bool := D.lit && D.left == 0
/-- What is armed behind a deed at which it doesn't. -/
def Dsk.down (D : Dsk) : Dsk := if D.lit then { D with left := D.left - 1 } else D
theorem Only.foot_p {y : Lay} {w : World} (k : Nat) (v : Value) : Only y.foot w (w.setCell ⟨y.p, k, none⟩ v) := (Only.refl _ _).setCell (.inl (.inl rfl)) _

set_option maxHeartbeats 1000000 in
theorem falls_yes (y : Lay) (D : Dsk) (w : World) (h : IsD w y D) (hf : D.fallsNow = true) :
    Calls Tryz.prog 96 #[.pointer (some ⟨y.p, 0, none⟩)] w fun e w' => e = .returned (.bool true) ∧ w' = w := by
  have c6 := h.head.c6
  have c7 := h.head.c7
  simp only [Dsk.fallsNow, Bool.and_eq_true, beq_iff_eq] at hf
  obtain ⟨h1, h2⟩ := hf
  rw [h1] at c6
  rw [h2] at c7
  clear h h1 h2
  go_enter Tryz.func96, Tryz.ntmps96
  go_wp2
  go_ret
  exact ⟨rfl, rfl⟩

set_option maxHeartbeats 1000000 in
theorem falls_no (y : Lay) (D : Dsk) (w : World) (h : IsD w y D) (hf : D.fallsNow = false) :
    Calls Tryz.prog 96 #[.pointer (some ⟨y.p, 0, none⟩)] w fun e w' => e = .returned (.bool false) ∧ IsD w' y D.down ∧ Only y.foot w w' := by
  have c6 := h.head.c6
  have c7 := h.head.c7
  have f7 := h.head.fz 7 (by omega)
  have hB := h.shp.leftB
  cases hl : D.lit
  · rw [hl] at c6
    have HH := Lib.hid (And.intro h hl)
    clear h hl hf
    go_enter Tryz.func96, Tryz.ntmps96
    go_wp2
    go_ret
    refine ⟨rfl, ?_, Only.refl _ _⟩
    rw [Dsk.down, HH.out.2]
    exact HH.out.1
  · rw [hl] at c6
    have hn : 0 < D.left := by simp [Dsk.fallsNow, hl] at hf; omega
    have h0 : (((D.left : Nat) : Int) == 0) = false := by simp; omega
    have HH := Lib.hid (And.intro h hl)
    clear h hl hf
    go_enter Tryz.func96, Tryz.ntmps96
    go_wp2
    go_ret
    refine ⟨rfl, ?_, Only.foot_p _ _⟩
    rw [Dsk.down, if_pos HH.out.2]
    have := HH.out.1.set_left (D.left - 1) (by omega)
    rw [show ((D.left - 1 : Nat) : Int) = (D.left : Int) - 1 by omega] at this
    exact this

set_option maxHeartbeats 1000000 in
theorem Power_is (y : Lay) (D : Dsk) (w : World) (h : IsD w y D) :
    Calls Tryz.prog 12 #[.pointer (some ⟨y.p, 0, none⟩)] w fun e w' => e = .returned (.bool (!D.on)) ∧ IsD w' y { D with on := true } ∧ Only y.foot w w' := by
  have c1 := h.head.c1
  have f1 := h.head.fz 1 (by omega)
  cases ho : D.on
  · have H := Lib.hid h
    rw [ho] at c1
    clear h ho
    go_enter Tryz.func12, Tryz.ntmps12
    go_wp2_with (go_at_call 29; refine (none_is y D _ H.out).mono ?_; rintro e w' ⟨rfl, rfl⟩)
    go_ret
    exact ⟨rfl, H.out.set_on true, Only.foot_p _ _⟩
  · have H := Lib.hid (And.intro h ho)
    rw [ho] at c1
    clear h ho
    go_enter Tryz.func12, Tryz.ntmps12
    go_wp2_with (go_at_call 29; refine (none_is y D _ H.out.1).mono ?_; rintro e w' ⟨rfl, rfl⟩)
    go_ret
    refine ⟨rfl, ?_, Only.refl _ _⟩
    rw [show ({ D with on := true } : Dsk) = D by rw [← H.out.2]]
    exact H.out.1

theorem foldl_push (ns : List UInt8) : ∀ (s : ByteArray), (ns.map fun x => (x.toNat : Int)).foldl (fun r n => r.push (UInt8.ofNat n.toNat)) s = ⟨s.data ++ ns.toArray⟩ := by
  induction ns with
  | nil => intro s; simp
  | cons x ns ih =>
    intro s
    simp only [List.map_cons, List.foldl_cons, ih]
    simp [ByteArray.push]
/-- The bytes of a row as a string. -/
theorem run_bytes_is {P : Program} (w : World) (b o n cap : Nat) (s : ByteArray) (hn : s.size = n) (hr : w.rangeAt b o (bcells s)) :
    (Conv.bytesToString (.slice (some ⟨b, o, none⟩) n cap)).run P w = .ok (.string s) w := by
  have hl : (loadCells ⟨b, o, none⟩ n).run P w = .ok ((s.data.toList.map fun x => (x.toNat : Int)).map (Value.int .u8)).toArray w := by
    have := run_loadCells_list (P := P) w ⟨b, o, none⟩ (bcells s) (fun j v hv => by rw [Addr.add_mid]; exact hr j v hv)
    rw [bcells_len, hn] at this
    rw [this]
    simp [bcells, Function.comp_def]
  rw [run_bytesToString w _ n cap _ hl, foldl_push]
  simp

/-- What was written last in a sector. -/
def Dsk.at_ (D : Dsk) (k : Int) : ByteArray := D.now.getD k.toNat ByteArray.empty

set_option maxHeartbeats 1000000 in
theorem Read_is (y : Lay) (D : Dsk) (k : Int) (w : World) (h : IsD w y D) :
    Calls Tryz.prog 83 #[.pointer (some ⟨y.p, 0, none⟩), .int .i64 k] w fun e w' =>
      e = .returned (.tuple #[.string (if D.mayR k = 0 then D.at_ k else ByteArray.empty), .int .i64 (D.mayR k)]) ∧ w' = w := by
  have H := Lib.hid h
  have c3 := h.head.c3
  by_cases hm : D.mayR k = 0
  · rw [if_pos hm]
    have hk : 0 ≤ k ∧ k < (D.lasts.length : Int) := by
      unfold Dsk.mayR at hm
      split at hm
      · split at hm
        · rename_i hh; simpa [Dsk.has] using hh
        · cases hm
      · cases hm
    obtain ⟨hk0, hk1⟩ := hk
    obtain ⟨m, rfl⟩ := Int.eq_ofNat_of_zero_le hk0
    have hlen := h.shp.len
    have hmost := h.shp.most
    have hm1 : m < D.now.length := by omega
    have hat : D.at_ (m : Int) = D.now[m] := by simp [Dsk.at_, List.getD, hm1]
    rw [hat]
    have hr : w.rangeAt y.N (m * 32) (bcells D.now[m]) := h.bod.rN m _ (by simp [hm1])
    have hsz : (D.now[m]).size = 32 := h.shp.blkN _ (List.getElem_mem hm1)
    have hna := h.shp.naE (by omega)
    have hnl : D.now.length = D.lasts.length := hlen
    rw [hna] at c3
    generalize D.now[m] = s at *
    have hcv : (convert 157 9 (.slice (some ⟨y.N, m * 32, none⟩) 32 32)).run Tryz.prog w = .ok (.string s) w := by
      rw [run_convert_bytes_string w _ _ 5 _ _ _ (by kernel_rfl) (by kernel_rfl) (by kernel_rfl)]
      exact run_bytes_is w y.N (m * 32) 32 32 s hsz hr
    have HM := Lib.hid hm
    have hb : (m : Int) < (D.now.length : Int) := by omega
    clear hm hr hsz hna hat h hlen hnl
    go_enter Tryz.func83, Tryz.ntmps83
    go_wp2_with (go_at_call 94; refine (mayR_is y D _ _ _ H.out).mono ?_; rintro e w' ⟨rfl, rfl⟩; rw [HM.out])
    go_ret2
    rw [HM.out]
    exact ⟨rfl, rfl⟩
  · rw [if_neg hm]
    have hb : (D.mayR k == 0) = false := by simpa using hm
    have hb' : (D.mayR k != 0) = true := by simpa using hm
    clear h hm
    go_enter Tryz.func83, Tryz.ntmps83
    go_wp2_with (go_at_call 94; refine (mayR_is y D _ _ _ H.out).mono ?_; rintro e w' ⟨rfl, rfl⟩)
    go_ret2
    exact ⟨rfl, rfl⟩
end Go.Proofs.YtbcdmcafobjpcaaGreatDoor.Sec
