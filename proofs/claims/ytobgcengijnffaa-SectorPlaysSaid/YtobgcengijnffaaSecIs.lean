/- flittinglaw2.Is by its contract: two disks that agree are told so. -/
import Derived.Test.YtobgcengijnffaaSecSim
import Derived.Test.YtobgcengijnffaaSecAt
import Derived.Deep.QuietTactic
import Derived.BigQuiet
namespace Go.Proofs.Ytobgcengijnffaa
open Go.RowKit

theorem IsD.drewN {w : World} {y : Lay} {D : Dsk} (h : IsD w y D) (n : Nat) : IsD (w.drewN n) y D := h.of_blocks (by simp) fun _ _ => rfl
theorem IsR.drewN {w : World} {z : RLay} {R : Rsk} (h : IsR w z R) (n : Nat) : IsR (w.drewN n) z R := h.of_blocks (by simp) fun _ _ => rfl

def Rsk.readE (R : Rsk) (k : Int) : Int := if R.on then (if 0 ≤ k ∧ k < R.lasts.length then 0 else 1) else 3
def Rsk.readS (R : Rsk) (k : Int) : ByteArray := if R.readE k = 0 then (R.laidL R.waits.length).getD k.toNat ByteArray.empty else ByteArray.empty

theorem rRead_is (z : RLay) (R : Rsk) (w : World) (k : Int) (h : IsR w z R) :
    Calls Try.prog 31 #[.pointer (some ⟨z.p, 0, none⟩), .int .i64 k] w fun e w' => e = .returned (.tuple #[.string (R.readS k), .int .i64 (R.readE k)]) ∧ w' = w := by
  cases hon : R.on
  · have e1 : R.readE k = 3 := by simp [Rsk.readE, hon]
    have e2 : R.readS k = ⟨#[]⟩ := by rw [Rsk.readS, e1]; rfl
    rw [e1, e2]
    exact rRead_off z R w k h hon
  · by_cases hk : 0 ≤ k ∧ k < R.lasts.length
    · obtain ⟨hk0, hk1⟩ := hk
      obtain ⟨m, rfl⟩ := Int.eq_ofNat_of_zero_le hk0
      have e1 : R.readE (m : Int) = 0 := by rw [Rsk.readE, hon, if_pos rfl, if_pos ⟨hk0, hk1⟩]
      have e2 : R.readS (m : Int) = (R.laidL R.waits.length).getD m ByteArray.empty := by rw [Rsk.readS, e1, if_pos rfl]; rfl
      rw [e1, e2]
      exact rRead_in z R w m h hon (by omega)
    · have e1 : R.readE k = 1 := by rw [Rsk.readE, hon, if_pos rfl, if_neg hk]
      have e2 : R.readS k = ⟨#[]⟩ := by rw [Rsk.readS, e1]; rfl
      rw [e1, e2]
      exact rRead_out z R w k h hon (by omega)

theorem Read_sim (y : Lay) (D : Dsk) (R : Rsk) (s : Sim D R) (w : World) (k : Int) (h : IsD w y D) :
    Calls Try.prog 26 #[.pointer (some ⟨y.p, 0, none⟩), .int .i64 k] w fun e w' => e = .returned (.tuple #[.string (R.readS k), .int .i64 (R.readE k)]) ∧ w' = w := by
  have e1 : D.mayR k = R.readE k := by
    unfold Dsk.mayR Rsk.readE Dsk.has
    rw [s.on, s.lasts]
    congr 1
    by_cases h : 0 ≤ k ∧ k < R.lasts.length
    · rw [if_pos h, if_pos (by simp; omega)]
    · rw [if_neg h, if_neg (by simp; omega)]
  have e2 : (if D.mayR k = 0 then D.at_ k else ByteArray.empty) = R.readS k := by
    rw [e1, Rsk.readS, Dsk.at_, s.now]
  have h := Read_is y D k w h
  rw [e2, e1] at h
  exact h

theorem On_v (y : Lay) (D : Dsk) (w : World) (h : IsD w y D) (v : Bool) (hv : D.on = v) :
    Calls Try.prog 30 #[.pointer (some ⟨y.p, 0, none⟩)] w fun e w' => e = .returned (.bool v) ∧ w' = w := by
  subst hv; exact On_is y D w h
theorem Len_v (y : Lay) (D : Dsk) (w : World) (h : IsD w y D) (v : Nat) (hv : D.lasts.length = v) :
    Calls Try.prog 27 #[.pointer (some ⟨y.p, 0, none⟩)] w fun e w' => e = .returned (.int .i64 (v : Int)) ∧ w' = w := by
  subst hv; exact Len_is y D w h
theorem Waits_v (y : Lay) (D : Dsk) (w : World) (h : IsD w y D) (v : Nat) (hv : D.waits.length = v) :
    Calls Try.prog 28 #[.pointer (some ⟨y.p, 0, none⟩)] w fun e w' => e = .returned (.int .i64 (v : Int)) ∧ w' = w := by
  subst hv; exact Waits_is y D w h
theorem Deeds_v (y : Lay) (D : Dsk) (w : World) (h : IsD w y D) (v : Nat) (hv : D.deeds = v) :
    Calls Try.prog 29 #[.pointer (some ⟨y.p, 0, none⟩)] w fun e w' => e = .returned (.int .i64 (v : Int)) ∧ w' = w := by
  subst hv; exact Deeds_is y D w h

set_option maxHeartbeats 2000000 in
theorem Is_is (y : Lay) (D : Dsk) (z : RLay) (R : Rsk) (w : World) (h : IsD w y D) (hr : IsR w z R) (s : Sim D R) :
    Calls Try.prog 11 #[.pointer (some ⟨y.p, 0, none⟩), .pointer (some ⟨z.p, 0, none⟩)] w fun e w' => e = .returned (.bool true) ∧ ∃ m, w' = w.drewN m := by
  have key : ∀ o, R.on = o → Calls Try.prog 11 #[.pointer (some ⟨y.p, 0, none⟩), .pointer (some ⟨z.p, 0, none⟩)] w fun e w' => e = .returned (.bool true) ∧ ∃ m, w' = w.drewN m := by
    intro o ho
    have c0 := hr.c0
    have c1 := hr.c1
    have c2 := hr.c2
    rw [ho] at c2
    have c6 := hr.c6
    have hlS := hr.lenS
    have H := Lib.hid (And.intro h (And.intro hr s))
    have HO := Lib.hid (show D.on = o by rw [s.on, ho])
    clear h hr s ho
    cases o
    all_goals
      go_enter Try.func11, Try.ntmps11
      go_wp2
      go_quiet (first
        | (go_at_call 30; exact Calls.quiet_of_same (On_v y D _ (H.out.1.drewN _) _ HO.out))
        | (go_at_call 27; exact Calls.quiet_of_same (Len_v y D _ (H.out.1.drewN _) R.lasts.length (by rw [H.out.2.2.lasts])))
        | (go_at_call 28; exact Calls.quiet_of_same (Waits_v y D _ (H.out.1.drewN _) R.waits.length (by rw [H.out.2.2.waits])))
        | (go_at_call 29; exact Calls.quiet_of_same (Deeds_v y D _ (H.out.1.drewN _) R.deeds H.out.2.2.deeds)))
      go_wp2
      go_loopw [5] (fun i wr => ∃ k : Int, -1 ≤ k ∧ k ≤ R.lasts.length + 1 ∧ i = .int .i64 k ∧ ∃ m, wr = w.drewN m) (fun i _ => (R.lasts.length + 1 - intOf i).toNat)
      case atStart => exact ⟨-1, by omega, by omega, rfl, _, rfl⟩
      case round =>
        obtain ⟨k, hk0, hk1, rfl, m, rfl⟩ := hrel
        have d0 : (w.drewN m).cell? ⟨z.p, 0, none⟩ = some (.slice z.sa R.lasts.length z.cS) := c0
        by_cases hlt : k ≤ R.lasts.length
        · have hS : ∃ s, R.readS k = s := ⟨_, rfl⟩
          obtain ⟨s, hs⟩ := hS
          have hE : ∃ s, R.readE k = s := ⟨_, rfl⟩
          obtain ⟨e, he⟩ := hE
          have HH := Lib.hid (And.intro hs he)
          clear hs he
          go_wp2_with (first
            | (go_at_call 26; refine (Read_sim y D R H.out.2.2 _ k (H.out.1.drewN _)).mono ?_; rintro ee w' ⟨rfl, rfl⟩; rw [HH.out.1, HH.out.2])
            | (go_at_call 31; refine (rRead_is z R _ k (H.out.2.1.drewN _)).mono ?_; rintro ee w' ⟨rfl, rfl⟩; rw [HH.out.1, HH.out.2]))
          exact ⟨⟨k + 1, by omega, by omega, by go_num, _, rfl⟩, by simp [intOf]; omega⟩
        · have hn : ¬ k ≤ R.lasts.length := hlt
          go_wp2
          go_ret
          exact ⟨rfl, _, rfl⟩
  exact key _ rfl
end Go.Proofs.Ytobgcengijnffaa
