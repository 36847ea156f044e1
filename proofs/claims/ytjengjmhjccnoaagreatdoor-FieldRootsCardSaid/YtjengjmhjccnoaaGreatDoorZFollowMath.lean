/- Plain facts of the document's Follow: what was followed stays where it is (FollowTwice); an object more behind all others (FollowShares). -/
import Derived.Test.YtjengjmhjccnoaaGreatDoorZHeapD
import Derived.Test.YtjengjmhjccnoaaGreatDoorZHeapC
set_option linter.unusedVariables false
set_option linter.unusedSimpArgs false
namespace Go.Proofs.YtjengjmhjccnoaaGreatDoor
open Go.RowKit Sec
open Go.Proofs.YtjengjmhjccnoaaGreatDoor.Bk

section
variable {h l : Int} {W : List Int} {a : Int}
theorem folE_ok (e : folE h l W a = 0) : hOk h l W = true ∧ (lk h l W a).2 = true := by
  cases q : hOk h l W
  · rw [folE, if_pos q] at e
    exact absurd e (by decide)
  · cases r : (lk h l W a).2
    · rw [folE, if_neg (by rw [q]; decide), if_pos r] at e
      exact absurd e (by decide)
    · exact ⟨rfl, rfl⟩
/-- What was followed lies where it was told, and stays there. -/
theorem fol_twice (hWl : (W.length : Int) = 16 + 2 * h) (e : folE h l W a = 0) :
    lk h l (folW h l W a) a = (folV h l W a, true) ∧ folE h l (folW h l W a) a = 0 ∧ folV h l (folW h l W a) a = folV h l W a ∧ folW h l (folW h l W a) a = folW h l W a := by
  obtain ⟨hk, hlk⟩ := folE_ok e
  by_cases q : folM h l W a = true
  · obtain ⟨n, f, z, m⟩ := fol_mov hWl e q
    obtain ⟨_, _, q3, q4, q5⟩ := folM_yes q
    obtain ⟨n', rfl, m1, m2, m3, m4, m5⟩ := folM_at q
    have hk' := fol_ok hWl hk (n' : Int)
    have s0 : hSp (folW h l W (n' : Int)) = hSp W := fol_low hWl _ (by decide) (by decide)
    have s2 : hGc (folW h l W (n' : Int)) = hGc W := fol_low hWl _ (by decide) (by decide)
    obtain rfl : n' = n := by have := m.ea; omega
    obtain ⟨f1, f2, _, f4, _⟩ := fine_yes hk
    have hq := geOk_yes f1
    have hfr := m.fr
    have hz1 := m.z1
    have hfe := m.fe
    have hfl := m.fl
    have hf16 := m.f16
    have hv : (folW h l W (n' : Int)).getD n' 0 = 33554432 + (f : Int) := by rw [m.at, if_pos rfl]
    have hfw : fwOk (33554432 + (f : Int)) = true := decide_eq_true (by omega)
    have hfa : fwA (33554432 + (f : Int)) = (f : Int) := by rw [fwA, if_pos hfw]; omega
    have hin : inB h (hSp W) (f : Int) = true := decide_eq_true (by omega)
    have hno : inB h (1 - hSp W) (n' : Int) = true := by
      have := m.nl
      refine decide_eq_true ⟨m1, ?_⟩
      have hp := shOk_yes (pr_range (W.getD n' 0))
      rw [folZ, Int.toNat_natCast] at m5
      omega
    have hlk' : lk h l (folW h l W (n' : Int)) (n' : Int) = ((f : Int), true) := by
      rw [lk, if_neg (by rw [hk']; decide), s0, s2, if_neg (by rw [q4]; simp; exact fun z => q3 (by omega)), if_neg (by rw [hno]; simp; exact m2), Int.toNat_natCast, hv, if_pos hfw, hfa, if_pos hin]
    have hM : ¬ folM h l (folW h l W (n' : Int)) (n' : Int) = true := fun x => by
      obtain ⟨_, _, _, _, x5⟩ := folM_yes x
      rw [hlk'] at x5
      have : (f : Int) = (n' : Int) := x5
      rw [this, q4] at hin
      exact absurd hin (by decide)
    have hE : folE h l (folW h l W (n' : Int)) (n' : Int) = 0 := by
      rw [folE, if_neg (by rw [hk']; decide), if_neg (by rw [hlk']; simp), if_neg (fun x => hM x.1)]
    refine ⟨by rw [hlk', m.ev], hE, ?_, ?_⟩
    · rw [folV, if_pos hE, if_neg hM, hlk', m.ev]
    · rw [folW, if_neg (fun x => hM x.2)]
  · have eW : folW h l W a = W := if_neg (fun x => q x.2)
    rw [eW]
    refine ⟨?_, e, rfl, eW⟩
    rw [folV, if_pos e, if_neg q]
    exact Prod.ext rfl hlk
end
/-- Objects in W', where those of W are as they were and one more lies at their end. -/
theorem objGo_more {W V : List Int} {a n : Nat} (hn : 1 ≤ n) (hd : hdOk (V.getD a 0) = true) (hz : 1 + prS (V.getD a 0) + prW (V.getD a 0) = (n : Int)) :
    ∀ (m : Nat) (b : Int), 0 ≤ b → b ≤ (a : Int) → (a : Int) - b < (m : Int) → (∀ i : Nat, b ≤ (i : Int) → i < a → V.getD i 0 = W.getD i 0) → (objGo W (a : Int) m b).2 = true →
    objGo V ((a : Int) + (n : Int)) m b = ((objGo W (a : Int) m b).1 ++ [(a : Int)], true)
  | 0, b, h0, h1, h2, _, _ => by omega
  | m + 1, b, h0, h1, h2, hs, h3 => by
    obtain ⟨j, rfl⟩ := Int.eq_ofNat_of_zero_le h0
    by_cases q : (a : Int) ≤ (j : Int)
    · obtain rfl : j = a := by omega
      rw [objGo_end (W := W) (Int.le_refl _), objGo_yes m (by omega) (by
        rw [Int.toNat_natCast, hd]
        rintro (e | e)
        · exact absurd e (by decide)
        · omega), Int.toNat_natCast, objGo_end (by omega)]
      rfl
    · by_cases r : hdOk (W.getD (j : Int).toNat 0) = false ∨ (a : Int) < (j : Int) + 1 + prS (W.getD (j : Int).toNat 0) + prW (W.getD (j : Int).toNat 0)
      · rw [objGo_no m q r] at h3
        exact absurd h3 (by decide)
      · have hp := shOk_yes (pr_range (W.getD (j : Int).toNat 0))
        have hsj : V.getD (j : Int).toNat 0 = W.getD (j : Int).toNat 0 := hs _ (by rw [Int.toNat_natCast]; omega) (by rw [Int.toNat_natCast]; omega)
        have hr : ¬ (a : Int) < (j : Int) + 1 + prS (W.getD (j : Int).toNat 0) + prW (W.getD (j : Int).toNat 0) := fun e => r (.inr e)
        rw [objGo_yes m q r] at h3 ⊢
        rw [objGo_yes m (by omega) (by rw [hsj]; rintro (e | e); exact r (.inl e); omega), hsj]
        have := objGo_more hn hd hz m ((j : Int) + 1 + prS (W.getD (j : Int).toNat 0) + prW (W.getD (j : Int).toNat 0)) (by omega) (by omega) (by omega) (fun i hi hl => hs i (by omega) hl) h3
        rw [this]
        rfl
end Go.Proofs.YtjengjmhjccnoaaGreatDoor
