/- HeapFollow, HeapCell, HeapObjs -/
import Derived.Test.YteijhbnnhadkhaaGreatDoorYHeapB
import Derived.Test.YteijhbnnhadkhaaGreatDoorYBook
set_option linter.unusedVariables false
set_option linter.unusedSimpArgs false
-- HeapFollow
/- The document's own heap: Follow. -/
namespace Go.Proofs.YteijhbnnhadkhaaGreatDoor
open Go.RowKit Sec
open Go.Proofs.YteijhbnnhadkhaaGreatDoor.Bk

/-- n cells from a on are copied, one by one, to f and on. -/
def cpfill (W : List Int) (a f : Nat) : Nat → List Int
  | 0 => W
  | n + 1 => (cpfill W a f n).set (f + n) ((cpfill W a f n).getD (a + n) 0)
theorem cpfill_len (W : List Int) (a f : Nat) : ∀ n, (cpfill W a f n).length = W.length
  | 0 => rfl
  | n + 1 => by rw [cpfill, List.length_set, cpfill_len W a f n]
/-- Is it an object that Follow moves, if there is room? -/
def folM (h l : Int) (W : List Int) (a : Int) : Bool := hOk h l W && ((lk h l W a).2 && (decide (a ≠ 0) && (!inB h (hSp W) a && decide ((lk h l W a).1 = a))))
/-- Its size. -/
def folZ (W : List Int) (a : Int) : Int := 1 + prS (W.getD a.toNat 0) + prW (W.getD a.toNat 0)
/-- What Follow answers and leaves. -/
def folE (h l : Int) (W : List Int) (a : Int) : Int :=
  if hOk h l W = false then 1 else if (lk h l W a).2 = false then 4 else if folM h l W a = true ∧ 16 + hSp W * h + h - hFr W < folZ W a then 6 else 0
def folV (h l : Int) (W : List Int) (a : Int) : Int := if folE h l W a = 0 then (if folM h l W a = true then hFr W else (lk h l W a).1) else 0
def folW (h l : Int) (W : List Int) (a : Int) : List Int :=
  if folE h l W a = 0 ∧ folM h l W a = true then ((cpfill W a.toNat (hFr W).toNat (folZ W a).toNat).set 1 (hFr W + folZ W a)).set a.toNat (33554432 + hFr W) else W
theorem HGo.drew {B g : Nat} {w w' : World} (x : HGo B g w w') : HGo B g w w'.drew := ⟨x.b.drew, x.k⟩
theorem HIs.drew {B : Nat} {w : World} {b g c : Nat} {h l : Int} {W : List Int} (k : HIs B w b h l W g c) : HIs B w.drew b h l W g c := k.below (Below.refl _ _).drew
theorem folM_yes {h l : Int} {W : List Int} {a : Int} (q : folM h l W a = true) : hOk h l W = true ∧ (lk h l W a).2 = true ∧ a ≠ 0 ∧ inB h (hSp W) a = false ∧ (lk h l W a).1 = a := by
  simp only [folM, Bool.and_eq_true, Bool.not_eq_true'] at q
  exact ⟨q.1, q.2.1, of_decide_eq_true q.2.2.1, q.2.2.2.1, of_decide_eq_true q.2.2.2.2⟩
theorem folM_at {h l : Int} {W : List Int} {a : Int} (q : folM h l W a = true) : ∃ n : Nat, a = (n : Int) ∧ 16 + (1 - hSp W) * h ≤ (n : Int) ∧ hGc W ≠ 0 ∧ hdOk (W.getD n 0) = true ∧ fwOk (W.getD n 0) = false ∧ (n : Int) + folZ W (n : Int) ≤ 16 + (1 - hSp W) * h + h := by
  obtain ⟨q1, q2, q3, q4, q5⟩ := folM_yes q
  obtain ⟨f1, f2, _⟩ := fine_yes q1
  have hq := geOk_yes f1
  have hm2 : 0 ≤ (1 - hSp W) * h := by rcases f2 with e | e <;> rw [e] <;> omega
  rw [lk, if_neg (by rw [q1]; decide), if_neg (by rw [q4]; simp [q3])] at q2 q5
  by_cases c1 : hGc W = 0 ∨ inB h (1 - hSp W) a = false
  · rw [if_pos c1] at q2
    exact absurd q2 (by decide)
  rw [if_neg c1] at q2 q5
  have c2 : hGc W ≠ 0 := fun e => c1 (.inl e)
  have c3 : inB h (1 - hSp W) a = true := by
    cases e : inB h (1 - hSp W) a
    · exact absurd (.inr e) c1
    · rfl
  have c4 := of_decide_eq_true c3
  obtain ⟨n, rfl⟩ := Int.eq_ofNat_of_zero_le (show 0 ≤ a by omega)
  rw [Int.toNat_natCast] at q2 q5
  by_cases c5 : fwOk (W.getD n 0) = true
  · rw [if_pos c5] at q2 q5
    by_cases c6 : inB h (hSp W) (fwA (W.getD n 0)) = true
    · rw [if_pos c6] at q5
      have q6 : fwA (W.getD n 0) = (n : Int) := q5
      rw [q6, q4] at c6
      exact absurd c6 (by decide)
    · rw [if_neg c6] at q2
      exact absurd q2 (by decide)
  rw [if_neg c5] at q2 q5
  by_cases c7 : hdOk (W.getD n 0) = true ∧ (n : Int) + 1 + prS (W.getD n 0) + prW (W.getD n 0) ≤ 16 + (1 - hSp W) * h + h
  · refine ⟨n, rfl, c4.1, c2, c7.1, by simpa using c5, ?_⟩
    rw [folZ, Int.toNat_natCast]
    have := c7.2
    omega
  · rw [if_neg c7] at q2
    exact absurd q2 (by decide)
section
variable {B : Nat} {w w' : World} {b g c : Nat} {h l : Int} {W : List Int}
end
end Go.Proofs.YteijhbnnhadkhaaGreatDoor
-- HeapCell
/- The document's own heap: cell, Root, Load. -/
namespace Go.Proofs.YteijhbnnhadkhaaGreatDoor
open Go.RowKit Sec
open Go.Proofs.YteijhbnnhadkhaaGreatDoor.Bk

/-- A cell that holds an object is followed: what is told, what is left. -/
def celE (h l : Int) (W : List Int) (k : Nat) : Int := folE h l W (W.getD k 0)
def celV (h l : Int) (W : List Int) (k : Nat) : Int := folV h l W (W.getD k 0)
def celW (h l : Int) (W : List Int) (k : Nat) : List Int := if celE h l W k = 0 then (folW h l W (W.getD k 0)).set k (celV h l W k) else W
theorem folW_len (h l : Int) (W : List Int) (a : Int) : (folW h l W a).length = W.length := by
  unfold folW
  split
  · rw [List.length_set, List.length_set, cpfill_len]
  · rfl
theorem celW_len (h l : Int) (W : List Int) (k : Nat) : (celW h l W k).length = W.length := by
  unfold celW
  split
  · rw [List.length_set, folW_len]
  · rfl
theorem folW_no {h l : Int} {W : List Int} {a : Int} (q : folE h l W a ≠ 0) : folW h l W a = W := if_neg (fun z => q z.1)
theorem folV_no {h l : Int} {W : List Int} {a : Int} (q : folE h l W a ≠ 0) : folV h l W a = 0 := if_neg q
/-- Load. -/
def loadE (h l : Int) (W : List Int) (a i : Int) : Int := if shpE h l W a = 0 then (if i < 0 ∨ shpS h l W a ≤ i then 8 else celE h l W (a + 1 + i).toNat) else shpE h l W a
section
variable {B : Nat} {w w' : World} {b g c : Nat} {h l : Int} {W : List Int}
end
end Go.Proofs.YteijhbnnhadkhaaGreatDoor
-- HeapObjs
/- The document's own heap: Objects, Is. -/
namespace Go.Proofs.YteijhbnnhadkhaaGreatDoor
open Go.RowKit Sec
open Go.Proofs.YteijhbnnhadkhaaGreatDoor.Bk

/-- The objects from a cell on, up to fr; the second: do they end just there? -/
def objGo (W : List Int) (fr : Int) : Nat → Int → List Int × Bool
  | 0, _ => ([], true)
  | n + 1, a =>
    if fr ≤ a then ([], true)
    else if hdOk (W.getD a.toNat 0) = false ∨ fr < a + 1 + prS (W.getD a.toNat 0) + prW (W.getD a.toNat 0) then ([], false)
    else (a :: (objGo W fr n (a + 1 + prS (W.getD a.toNat 0) + prW (W.getD a.toNat 0))).1, (objGo W fr n (a + 1 + prS (W.getD a.toNat 0) + prW (W.getD a.toNat 0))).2)
def objs (h l : Int) (W : List Int) : List Int × Bool := if hOk h l W = true then objGo W (hFr W) 1000 (16 + hSp W * h) else ([], false)
theorem objGo_end {W : List Int} {fr a : Int} (q : fr ≤ a) : ∀ n, objGo W fr n a = ([], true)
  | 0 => rfl
  | n + 1 => if_pos q
theorem objGo_no {W : List Int} {fr a : Int} (n : Nat) (q : ¬ fr ≤ a) (r : hdOk (W.getD a.toNat 0) = false ∨ fr < a + 1 + prS (W.getD a.toNat 0) + prW (W.getD a.toNat 0)) : objGo W fr (n + 1) a = ([], false) := by
  rw [objGo, if_neg q, if_pos r]
theorem objGo_yes {W : List Int} {fr a : Int} (n : Nat) (q : ¬ fr ≤ a) (r : ¬ (hdOk (W.getD a.toNat 0) = false ∨ fr < a + 1 + prS (W.getD a.toNat 0) + prW (W.getD a.toNat 0))) :
    objGo W fr (n + 1) a = (a :: (objGo W fr n (a + 1 + prS (W.getD a.toNat 0) + prW (W.getD a.toNat 0))).1, (objGo W fr n (a + 1 + prS (W.getD a.toNat 0) + prW (W.getD a.toNat 0))).2) := by
  rw [objGo, if_neg q, if_neg r]
theorem objGo_len {W : List Int} {fr : Int} : ∀ (n : Nat) (a : Int), a ≤ fr → ((objGo W fr n a).1.length : Int) ≤ fr - a
  | 0, a, h => by
    show ((([] : List Int).length : Nat) : Int) ≤ fr - a
    rw [List.length_nil]
    omega
  | n + 1, a, h => by
    by_cases q : fr ≤ a
    · rw [objGo_end q]
      show ((([] : List Int).length : Nat) : Int) ≤ fr - a
      rw [List.length_nil]
      omega
    · by_cases r : hdOk (W.getD a.toNat 0) = false ∨ fr < a + 1 + prS (W.getD a.toNat 0) + prW (W.getD a.toNat 0)
      · rw [objGo_no n q r]
        show ((([] : List Int).length : Nat) : Int) ≤ fr - a
        rw [List.length_nil]
        omega
      · rw [objGo_yes n q r]
        have hp := shOk_yes (pr_range (W.getD a.toNat 0))
        have hr : ¬ fr < a + 1 + prS (W.getD a.toNat 0) + prW (W.getD a.toNat 0) := fun e => r (.inr e)
        have := objGo_len (W := W) (fr := fr) n (a + 1 + prS (W.getD a.toNat 0) + prW (W.getD a.toNat 0)) (by omega)
        rw [List.length_cons]
        omega
theorem objs_len (h l : Int) (W : List Int) : (objs h l W).1.length ≤ 400 := by
  rw [objs]
  by_cases q : hOk h l W = true
  · rw [if_pos q]
    obtain ⟨f1, f2, _, f4, _⟩ := fine_yes q
    have hq := geOk_yes f1
    have := objGo_len (W := W) (fr := hFr W) 1000 (16 + hSp W * h) f4.1
    omega
  · rw [if_neg q]
    exact Nat.zero_le _
section
variable {B : Nat} {w w' : World} {b g c : Nat} {h l : Int} {W : List Int}
end
end Go.Proofs.YteijhbnnhadkhaaGreatDoor
