import Derived.Test.YtiiioeodanmieaaGreatDoorYHeapD
import Derived.Test.YtiiioeodanmieaaGreatDoorYHeapC
set_option linter.unusedVariables false
set_option linter.unusedSimpArgs false
-- AllocMath
namespace Go.Proofs.YtiiioeodanmieaaGreatDoor
open Go.RowKit Sec
open Go.Proofs.YtiiioeodanmieaaGreatDoor.Bk

section
variable {h l : Int} {W : List Int} {s x : Int}
structure Mk (h l : Int) (W : List Int) (s x : Int) (a n : Nat) : Prop where
  e : newE h l W s x = 0
  fr : hFr W = (a : Int)
  sz : 1 + s + x = (n : Int)
  n1 : 1 ≤ n
  a16 : 16 ≤ a
  le : (a : Int) + (n : Int) ≤ 16 + hSp W * h + h
  len : a + n ≤ W.length
  ok : hOk h l W = true
  sh : shOk s x = true
theorem new_yes (hWl : (W.length : Int) = 16 + 2 * h) (e : newE h l W s x = 0) : ∃ a n, Mk h l W s x a n := by
  by_cases ok : (hOk h l W && shOk s x) = true
  · obtain ⟨q1, q2⟩ := (Bool.and_eq_true _ _).mp ok |> fun p => p
    by_cases room : 16 + hSp W * h + h - hFr W < 1 + s + x
    · rw [newE, if_pos ok, if_pos room] at e
      exact absurd e (by decide)
    · obtain ⟨f1, f2, _, f4, _⟩ := fine_yes q1
      have hq := geOk_yes f1
      obtain ⟨s0, s1, x0, x1⟩ := shOk_yes q2
      have hmul : hSp W * h ≤ h := by rcases f2 with e | e <;> rw [e] <;> omega
      have hmul0 : 0 ≤ hSp W * h := by rcases f2 with e | e <;> rw [e] <;> omega
      obtain ⟨n, hn⟩ := Int.eq_ofNat_of_zero_le (show 0 ≤ 1 + s + x by omega)
      obtain ⟨a, ha⟩ := Int.eq_ofNat_of_zero_le (show 0 ≤ hFr W by omega)
      exact ⟨a, n, e, ha, hn, by omega, by omega, by omega, by omega, q1, q2⟩
  · rw [newE, if_neg ok] at e
    exact absurd e (by decide)
variable {a n : Nat}
theorem Mk.ad (k : Mk h l W s x a n) : newA h l W s x = (a : Int) := by rw [newA, if_pos k.e, k.fr]
theorem Mk.at (k : Mk h l W s x a n) (i : Nat) : (newW h l W s x).getD i 0 = if i = 1 then (a : Int) + (n : Int) else if i = a then hdI s x else if a ≤ i ∧ i < a + n then 0 else W.getD i 0 := by
  have h1 := k.a16
  have h2 := k.len
  have h3 := k.n1
  rw [newW, if_pos k.e, k.fr, k.sz, Int.toNat_natCast, Int.toNat_natCast, getD_set, getD_set, zfill_at, List.length_set, zfill_len]
  by_cases e1 : i = 1
  · rw [if_pos ⟨e1.symm, by omega⟩, if_pos e1]
  · rw [if_neg (fun z => e1 z.1.symm), if_neg e1]
    by_cases e2 : i = a
    · rw [if_pos ⟨e2.symm, by omega⟩, if_pos e2]
    · rw [if_neg (fun z => e2 z.1.symm), if_neg e2]
theorem new_len (h l : Int) (W : List Int) (s x : Int) : (newW h l W s x).length = W.length := by
  rw [newW]
  split
  · rw [List.length_set, List.length_set, zfill_len]
  · rfl
theorem Mk.other (k : Mk h l W s x a n) {i : Nat} (h0 : i < a ∨ a + n ≤ i) (h1 : i ≠ 1) : (newW h l W s x).getD i 0 = W.getD i 0 := by
  have := k.n1
  rw [k.at, if_neg h1, if_neg (by omega), if_neg (by omega)]
theorem Mk.ctl (k : Mk h l W s x a n) : hSp (newW h l W s x) = hSp W ∧ hFr (newW h l W s x) = (a : Int) + (n : Int) ∧ hGc (newW h l W s x) = hGc W ∧ hSc (newW h l W s x) = hSc W := by
  have h1 := k.a16
  refine ⟨k.other (.inl (by omega)) (by decide), ?_, k.other (.inl (by omega)) (by decide), k.other (.inl (by omega)) (by decide)⟩
  rw [hFr, k.at, if_pos rfl]
theorem Mk.ok' (k : Mk h l W s x a n) : hOk h l (newW h l W s x) = true := by
  obtain ⟨c0, c1, c2, c3⟩ := k.ctl
  have hk := k.ok
  rw [hOk] at hk ⊢
  rw [c0, c1, c2, c3]
  obtain ⟨f1, f2, f3, f4, f5⟩ := fine_yes hk
  have hfr := k.fr
  have hle := k.le
  have hg : 0 ≤ hSp W ∧ hSp W ≤ 1 ∧ 0 ≤ hGc W ∧ hGc W ≤ 1 := by omega
  rw [fine_mid f1 hg, decide_eq_true (by omega), Bool.true_and]
  rcases f5 with q | q
  · rw [decide_eq_true q, Bool.true_or]
  · rw [decide_eq_true (show hGc W = 1 ∧ 16 + hSp W * h ≤ hSc W ∧ hSc W ≤ (a : Int) + (n : Int) by omega), Bool.or_true]
theorem hdI_num (q : shOk s x = true) : 0 ≤ hdI s x ∧ hdI s x < 4294967296 := by
  have := shOk_yes q
  rw [hdI, if_pos q]
  omega
end
end Go.Proofs.YtiiioeodanmieaaGreatDoor
-- ObjsMath
namespace Go.Proofs.YtiiioeodanmieaaGreatDoor
open Go.RowKit

end Go.Proofs.YtiiioeodanmieaaGreatDoor
-- FollowMath
namespace Go.Proofs.YtiiioeodanmieaaGreatDoor
open Go.RowKit Sec
open Go.Proofs.YtiiioeodanmieaaGreatDoor.Bk

section
variable {h l : Int} {W : List Int} {a : Int}
end
end Go.Proofs.YtiiioeodanmieaaGreatDoor
