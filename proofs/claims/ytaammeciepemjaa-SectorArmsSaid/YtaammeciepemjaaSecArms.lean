/- SectorArms answers true: whatever is armed, and however many writes there are. -/
import Derived.Test.YtaammeciepemjaaSecArm
namespace Go.Proofs.Ytaammeciepemjaa
open Go.RowKit

/-- The disk ahead of the k-th write of the law, n being armed: with power, or, behind the n-th, without. -/
def armI (n k : Nat) (D : Dsk) : Prop :=
  D.lasts.length = 4 ∧ ((k ≤ n ∧ D.on = true ∧ D.lit = true ∧ D.left = n - k ∧ D.waits.length = k ∧ D.deeds = k) ∨ (n < k ∧ D.on = false ∧ D.deeds = n))
theorem armI_step {n k : Nat} {D : Dsk} (h : armI n k D) (hk : k < n) (j : Nat) (b : ByteArray) : armI n (k + 1) ((D.push j b).down.deed) := by
  obtain ⟨h0, h | h⟩ := h
  · obtain ⟨_, h1, h2, h3, h4, h5⟩ := h
    have e : (D.push j b).down = { D.push j b with left := D.left - 1 } := by unfold Dsk.down; rw [if_pos (show (D.push j b).lit = true from h2)]; rfl
    rw [e]
    refine ⟨h0, .inl ⟨by omega, h1, h2, ?_, ?_, ?_⟩⟩
    · show D.left - 1 = _; omega
    · show (D.waits ++ [(j, b)]).length = _; simp [h4]
    · show D.deeds + 1 = _; omega
  · omega
theorem armI_falls {n : Nat} {D : Dsk} (h : armI n n D) (j : Nat) (b : ByteArray) : armI n (n + 1) ((D.push j b).crash D.keep) := by
  obtain ⟨h0, h | h⟩ := h
  · obtain ⟨_, h1, h2, h3, h4, h5⟩ := h
    refine ⟨?_, .inr ⟨by omega, rfl, h5⟩⟩
    show ((D.push j b).crashL D.keep (D.push j b).waits.length).length = 4
    rw [crashL_len]
    exact h0
  · omega
theorem armI_off {n k : Nat} {D : Dsk} (h : armI n k D) (hk : n < k) : armI n (k + 1) D := by
  obtain ⟨h0, h | h⟩ := h
  · omega
  · exact ⟨h0, .inr ⟨by omega, h.2⟩⟩
theorem armI_may {n k : Nat} {D : Dsk} (h : armI n k D) (hk : k ≤ n) (j : Int) (hj0 : 0 ≤ j) (hj : j < 4) (b : ByteArray) (hb : b.size = 32) : D.mayW j b = 0 := by
  obtain ⟨h0, h | h⟩ := h
  · unfold Dsk.mayW Dsk.has
    rw [if_pos h.2.1, h0, hb, if_pos (by simp; omega)]
  · omega

set_option maxHeartbeats 1000000 in
/-- Where there is too much. -/
theorem Arms_much (n m : Int) (n2 : Nat) (a2 : Option Addr) (c2 : Nat) (w : World) (h : n < 0 ∨ 30 < n ∨ m < 0 ∨ 40 < m ∨ 60 < n2) (m2 : n2 ≤ maxLen) :
    Calls Try.prog 5 #[.int .i64 n, .int .i64 m, .slice a2 n2 c2] w fun e w' => e = .returned (.bool true) ∧ Below w.heap.size w w' := by
  unfold maxLen at m2
  by_cases h0 : n < 0
  · clear h
    go_enter Try.func5, Try.ntmps5
    go_wp2_with (go_at_call 8; refine (alive_is _).mono ?_; rintro e w1 ⟨rfl, b1⟩)
    go_ret
    exact ⟨rfl, b1⟩
  · by_cases h1 : 30 < n
    · clear h
      go_enter Try.func5, Try.ntmps5
      go_wp2_with (go_at_call 8; refine (alive_is _).mono ?_; rintro e w1 ⟨rfl, b1⟩)
      go_ret
      exact ⟨rfl, b1⟩
    · by_cases h2 : m < 0
      · clear h
        go_enter Try.func5, Try.ntmps5
        go_wp2_with (go_at_call 8; refine (alive_is _).mono ?_; rintro e w1 ⟨rfl, b1⟩)
        go_ret
        exact ⟨rfl, b1⟩
      · by_cases h3 : 40 < m
        · clear h
          go_enter Try.func5, Try.ntmps5
          go_wp2_with (go_at_call 8; refine (alive_is _).mono ?_; rintro e w1 ⟨rfl, b1⟩)
          go_ret
          exact ⟨rfl, b1⟩
        · have h4 : (60 : Int) < (n2 : Int) := by omega
          clear h
          go_enter Try.func5, Try.ntmps5
          go_wp2_with (go_at_call 8; refine (alive_is _).mono ?_; rintro e w1 ⟨rfl, b1⟩)
          go_ret
          exact ⟨rfl, b1⟩

set_option maxRecDepth 100000 in
set_option maxHeartbeats 2000000 in
theorem Arms_walk (n m : Nat) (kl : List Int) (a2 : Option Addr) (c2 : Nat) (w : World) (h2 : IntsAt w a2 kl) (hn : n ≤ 30) (hm : m ≤ 40) (hk : kl.length ≤ 60) :
    Calls Try.prog 5 #[.int .i64 (n : Int), .int .i64 (m : Int), .slice a2 kl.length c2] w fun e w' => e = .returned (.bool true) ∧ Below w.heap.size w w' := by
  have HA := Lib.hid h2
  have d0 : decide ((n : Int) < 0) = false := decide_eq_false (by omega)
  have d1 : decide ((30 : Int) < (n : Int)) = false := decide_eq_false (by omega)
  have d2 : decide ((m : Int) < 0) = false := decide_eq_false (by omega)
  have d3 : decide ((40 : Int) < (m : Int)) = false := decide_eq_false (by omega)
  have d4 : decide ((60 : Int) < (kl.length : Int)) = false := decide_eq_false (by omega)
  clear h2
  go_enter Try.func5, Try.ntmps5
  go_wp2_with (first
    | (go_at_call 8; refine (alive_is _).mono ?_; rintro e w1 ⟨rfl, b1⟩)
    | (go_at_call 9; refine (New_at 4 w.heap.size _ b1.size).mono ?_; rintro e w2 ⟨p, rfl, h2, b2⟩; have A2 : At w.heap.size w2 p (newD 4) := h2; have B2 := b1.trans b2; clear h2 b1 b2)
    | (go_at_call 21; refine (Arm_at _ n (by omega) a2 kl c2 A2 (HA.out.below B2) (fun b q r => by obtain ⟨b', q1, q2, _⟩ := HA.out 0 _ (List.getElem?_eq_getElem q); rw [r] at q1; simp at q1; rw [q1]; exact q2) (by omega)).mono ?_; rintro e w3 ⟨rfl, A3, b3⟩; have B3 := B2.trans b3; clear A2 B2 b3))
  have I0 : armI n 0 ((newD 4).arm n kl) := ⟨rfl, .inl ⟨by omega, rfl, rfl, rfl, rfl, rfl⟩⟩
  have HI := Lib.hid I0
  clear I0
  go_loopw [8] (fun i wr => ∃ (k : Nat) (D : Dsk), k ≤ m ∧ i = .int .i64 (k : Int) ∧ At w.heap.size wr p D ∧ Below w.heap.size w wr ∧ armI n k D) (fun i _ => m - (intOf i).toNat)
  case atStart => exact ⟨0, _, Nat.zero_le _, rfl, A3, B3, HI.out⟩
  case round =>
    obtain ⟨k, D, hkn, rfl, A, B, I⟩ := hrel
    clear A3 B3 HI
    by_cases hlt : k < m
    · have q0 : (0 : Int) ≤ (k : Int) % 4 := Int.emod_nonneg _ (by omega)
      have q4 : (k : Int) % 4 < 4 := Int.emod_lt_of_pos _ (by omega)
      have hlt' : (k : Int) < (m : Int) := by omega
      rcases Nat.lt_trichotomy k n with hk1 | hk1 | hk1
      · have hm1 := armI_may I (by omega) _ q0 q4 (pad32 ⟨#[119]⟩) (pad32_size _)
        have hst := armI_step I hk1 ((k : Int) % 4).toNat (pad32 ⟨#[119]⟩)
        obtain ⟨_, hI | hI⟩ := I
        · have hf : D.fallsNow = false := by unfold Dsk.fallsNow; rw [hI.2.2.2.1]; simp; intro _; omega
          have hw2 : D.waits.length + 1 < 2 ^ 40 := by rw [hI.2.2.2.2.1]; omega
          have hd2 : D.deeds + 1 < 2 ^ 60 := by rw [hI.2.2.2.2.2]; omega
          have hon : ((D.push ((k : Int) % 4).toNat (pad32 ⟨#[119]⟩)).down.deed).on = true := by
            obtain ⟨_, h | h⟩ := hst
            · exact h.2.1
            · omega
          have HX := Lib.hid (And.intro hm1 (And.intro hf (And.intro hw2 (And.intro hd2 (And.intro hst (And.intro A (And.intro B hon)))))))
          have hdk : decide ((k : Int) < (n : Int)) = true := decide_eq_true (by omega)
          have hdk2 : decide (k < n) = true := decide_eq_true hk1
          clear hm1 hst hI hf hw2 hd2 hon A B
          go_wp2_with (first
            | (go_at_call 12; refine (Full_is _ (by decide) _).mono ?_; rintro e w' ⟨rfl, rfl⟩)
            | (go_at_call 13; refine (Write_at _ (pad32 ⟨#[119]⟩) (pad32_size _) _ HX.out.2.2.2.2.2.1 HX.out.1 HX.out.2.1 HX.out.2.2.1 HX.out.2.2.2.1).mono ?_; rintro e w4 ⟨rfl, A4, b4⟩; have B4 := HX.out.2.2.2.2.2.2.1.trans b4; clear b4)
            | (go_at_call 30; refine (On_at _ A4).mono ?_; rintro e w' ⟨rfl, rfl⟩; rw [HX.out.2.2.2.2.2.2.2]))
          refine ⟨⟨k + 1, _, by omega, by go_num, A4, B4, HX.out.2.2.2.2.1⟩, by simp [intOf]; omega⟩
        · omega
      · subst hk1
        have hm1 := armI_may I (by omega) _ q0 q4 (pad32 ⟨#[119]⟩) (pad32_size _)
        have hst := armI_falls I ((k : Int) % 4).toNat (pad32 ⟨#[119]⟩)
        obtain ⟨_, hI | hI⟩ := I
        · have hf : D.fallsNow = true := by unfold Dsk.fallsNow; rw [hI.2.2.1, hI.2.2.2.1]; simp
          have hw2 : D.waits.length + 1 < 2 ^ 40 := by rw [hI.2.2.2.2.1]; omega
          have hd2 : D.deeds + 1 < 2 ^ 60 := by rw [hI.2.2.2.2.2]; omega
          have HX := Lib.hid (And.intro hm1 (And.intro hf (And.intro hw2 (And.intro hd2 (And.intro hst (And.intro A B))))))
          have hdk : decide ((k : Int) < (k : Int)) = false := decide_eq_false (by omega)
          have hdk2 : decide (k < k) = false := decide_eq_false (by omega)
          clear hm1 hst hI hf hw2 hd2 A B
          go_wp2_with (first
            | (go_at_call 12; refine (Full_is _ (by decide) _).mono ?_; rintro e w' ⟨rfl, rfl⟩)
            | (go_at_call 13; refine (Write_fall_at _ (pad32 ⟨#[119]⟩) (pad32_size _) _ HX.out.2.2.2.2.2.1 HX.out.1 HX.out.2.1 HX.out.2.2.1 HX.out.2.2.2.1).mono ?_; rintro e w4 ⟨rfl, A4, b4⟩; have B4 := HX.out.2.2.2.2.2.2.trans b4; clear b4)
            | (go_at_call 30; refine (On_at _ A4).mono ?_; rintro e w' ⟨rfl, rfl⟩; rw [show ((D.push ((k : Int) % 4).toNat (pad32 ⟨#[119]⟩)).crash D.keep).on = false from rfl]))
          refine ⟨⟨k + 1, _, by omega, by go_num, A4, B4, HX.out.2.2.2.2.1⟩, by simp [intOf]; omega⟩
        · omega
      · have hst := armI_off I hk1
        obtain ⟨_, hI | hI⟩ := I
        · omega
        · have hm3 : D.mayW ((k : Int) % 4) (pad32 ⟨#[119]⟩) = 3 := by unfold Dsk.mayW; rw [if_neg (by rw [hI.2.1]; simp)]
          have hne : D.mayW ((k : Int) % 4) (pad32 ⟨#[119]⟩) ≠ 0 := by rw [hm3]; decide
          have HX := Lib.hid (And.intro hm3 (And.intro hne (And.intro hst (And.intro A (And.intro B hI.2.1)))))
          have hdk : decide ((k : Int) < (n : Int)) = false := decide_eq_false (by omega)
          have hdk2 : decide (k < n) = false := decide_eq_false (by omega)
          clear hm3 hne hst hI A B
          go_wp2_with (first
            | (go_at_call 12; refine (Full_is _ (by decide) _).mono ?_; rintro e w' ⟨rfl, rfl⟩)
            | (go_at_call 13; refine (Write_not_at _ (pad32 ⟨#[119]⟩) _ HX.out.2.2.2.1 HX.out.2.1).mono ?_; rintro e w4 ⟨rfl, rfl⟩; rw [HX.out.1])
            | (go_at_call 30; refine (On_at _ HX.out.2.2.2.1).mono ?_; rintro e w' ⟨rfl, rfl⟩; rw [HX.out.2.2.2.2.2]))
          refine ⟨⟨k + 1, _, by omega, by go_num, HX.out.2.2.2.1, HX.out.2.2.2.2.1, HX.out.2.2.1⟩, by simp [intOf]; omega⟩
    · obtain rfl : k = m := by omega
      have hd : (D.deeds : Int) = min (n : Int) (k : Int) := by
        obtain ⟨_, h | h⟩ := I
        · omega
        · omega
      have HX := Lib.hid (And.intro A (And.intro B hd))
      clear A B I hd hlt
      have hself : ¬ (k : Int) < (k : Int) := by omega
      rcases Nat.lt_trichotomy n k with hc | hc | hc
      · have HM := Lib.hid (show min (n : Int) (k : Int) = n by omega)
        have hc' : (n : Int) < (k : Int) := by omega
        go_wp2_with (go_at_call 29; refine (Deeds_at _ HX.out.1).mono ?_; rintro e w' ⟨rfl, rfl⟩; rw [HX.out.2.2, HM.out])
        all_goals go_ret
        all_goals exact ⟨rfl, HX.out.2.1⟩
      · subst hc
        have HM := Lib.hid (show min (n : Int) (n : Int) = n by omega)
        go_wp2_with (go_at_call 29; refine (Deeds_at _ HX.out.1).mono ?_; rintro e w' ⟨rfl, rfl⟩; rw [HX.out.2.2, HM.out])
        all_goals go_ret
        all_goals exact ⟨rfl, HX.out.2.1⟩
      · have HM := Lib.hid (show min (n : Int) (k : Int) = k by omega)
        have hc' : (k : Int) < (n : Int) := by omega
        go_wp2_with (go_at_call 29; refine (Deeds_at _ HX.out.1).mono ?_; rintro e w' ⟨rfl, rfl⟩; rw [HX.out.2.2, HM.out])
        all_goals go_ret
        all_goals exact ⟨rfl, HX.out.2.1⟩
end Go.Proofs.Ytaammeciepemjaa
