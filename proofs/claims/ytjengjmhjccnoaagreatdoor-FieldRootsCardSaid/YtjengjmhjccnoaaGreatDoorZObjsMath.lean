/- Plain facts of objects that lie one behind the other: headers, sizes. -/
import Derived.Test.YtjengjmhjccnoaaGreatDoorZHeapD
import Derived.Test.YtjengjmhjccnoaaGreatDoorZHeapC
set_option linter.unusedVariables false
set_option linter.unusedSimpArgs false
namespace Go.Proofs.YtjengjmhjccnoaaGreatDoor
open Go.RowKit

theorem objGo_hd {W : List Int} {fr : Int} : ∀ (n : Nat) (a : Int), 0 ≤ a → ∀ y ∈ (objGo W fr n a).1, 0 ≤ y ∧ hdOk (W.getD y.toNat 0) = true
  | 0, a, _, y, hy => absurd hy List.not_mem_nil
  | n + 1, a, h0, y, hy => by
    by_cases q : fr ≤ a
    · rw [objGo_end q] at hy
      exact absurd hy List.not_mem_nil
    · by_cases r : hdOk (W.getD a.toNat 0) = false ∨ fr < a + 1 + prS (W.getD a.toNat 0) + prW (W.getD a.toNat 0)
      · rw [objGo_no n q r] at hy
        exact absurd hy List.not_mem_nil
      · rw [objGo_yes n q r] at hy
        have hp := shOk_yes (pr_range (W.getD a.toNat 0))
        rcases List.mem_cons.1 hy with rfl | hy
        · refine ⟨h0, ?_⟩
          cases e : hdOk (W.getD y.toNat 0)
          · exact absurd (.inl e) r
          · rfl
        · exact objGo_hd n _ (by omega) y hy
theorem objs_hd {h l : Int} {W : List Int} {y : Int} (hy : y ∈ (objs h l W).1) : 0 ≤ y ∧ hdOk (W.getD y.toNat 0) = true := by
  rw [objs] at hy
  split at hy
  next q =>
    obtain ⟨f1, f2, _, _, _⟩ := fine_yes q
    have hq := geOk_yes f1
    have hmul0 : 0 ≤ hSp W * h := by rcases f2 with e | e <;> rw [e] <;> omega
    exact objGo_hd 1000 _ (by omega) y hy
  next => exact absurd hy List.not_mem_nil
/-- An object's size, as its header says. -/
def osz (V : List Int) (o : Int) : Int := 1 + prS (V.getD o.toNat 0) + prW (V.getD o.toNat 0)
theorem osz_pos (V : List Int) (o : Int) : 1 ≤ osz V o ∧ osz V o ≤ 46 := by
  have hp := shOk_yes (pr_range (V.getD o.toNat 0))
  rw [osz]
  omega
/-- The sizes of the objects that f names, together. -/
def used (V : List Int) (f : Int → Bool) : List Int → Int
  | [] => 0
  | o :: T => (if f o = true then osz V o else 0) + used V f T
theorem used_ge (V : List Int) (f : Int → Bool) : ∀ T, 0 ≤ used V f T
  | [] => Int.le_refl _
  | o :: T => by
    have := used_ge V f T
    have := osz_pos V o
    rw [used]
    split <;> omega
theorem used_le (V : List Int) (f : Int → Bool) : ∀ T, used V f T ≤ used V (fun _ => true) T
  | [] => Int.le_refl _
  | o :: T => by
    have := used_le V f T
    have := osz_pos V o
    rw [used, used, if_pos rfl]
    split <;> omega
theorem used_same (V : List Int) {f g : Int → Bool} : ∀ T, (∀ o ∈ T, f o = g o) → used V f T = used V g T
  | [], _ => rfl
  | o :: T, h => by
    rw [used, used, h o (by simp), used_same V T (fun x hx => h x (by simp [hx]))]
/-- One more. -/
theorem used_more (V : List Int) {f g : Int → Bool} {o : Int} (h0 : f o = false) (h1 : g o = true) : ∀ T, T.Nodup → o ∈ T → (∀ x ∈ T, x ≠ o → g x = f x) → used V g T = used V f T + osz V o
  | [], _, hm, _ => absurd hm List.not_mem_nil
  | x :: T, hn, hm, hs => by
    obtain ⟨hx, hn2⟩ := List.nodup_cons.1 hn
    rcases List.mem_cons.1 hm with rfl | hm
    · rw [used, used, h0, h1, if_pos rfl, if_neg (by decide), used_same V T (fun y hy => hs y (by simp [hy]) (fun e => hx (e ▸ hy)))]
      omega
    · have hne : x ≠ o := fun e => hx (e ▸ hm)
      rw [used, used, hs x (by simp) hne, used_more V h0 h1 T hn2 hm (fun y hy => hs y (by simp [hy]))]
      omega
/-- All objects' sizes are what is in use; each lies within. -/
theorem objGo_used {W : List Int} {fr : Int} : ∀ (n : Nat) (a : Int), a ≤ fr → fr - a < (n : Int) → (objGo W fr n a).2 = true → used W (fun _ => true) (objGo W fr n a).1 = fr - a ∧ ∀ o ∈ (objGo W fr n a).1, a ≤ o ∧ o + osz W o ≤ fr
  | 0, a, h1, h2, _ => by omega
  | n + 1, a, h1, h2, h3 => by
    by_cases q : fr ≤ a
    · rw [objGo_end q]
      refine ⟨?_, fun o ho => absurd ho List.not_mem_nil⟩
      show (0 : Int) = fr - a
      omega
    · by_cases r : hdOk (W.getD a.toNat 0) = false ∨ fr < a + 1 + prS (W.getD a.toNat 0) + prW (W.getD a.toNat 0)
      · rw [objGo_no n q r] at h3
        exact absurd h3 (by decide)
      · have hr : ¬ fr < a + 1 + prS (W.getD a.toNat 0) + prW (W.getD a.toNat 0) := fun e => r (.inr e)
        have hp := shOk_yes (pr_range (W.getD a.toNat 0))
        rw [objGo_yes n q r] at h3 ⊢
        obtain ⟨i1, i2⟩ := objGo_used (W := W) (fr := fr) n (a + 1 + prS (W.getD a.toNat 0) + prW (W.getD a.toNat 0)) (by omega) (by omega) h3
        have ho : osz W a = 1 + prS (W.getD a.toNat 0) + prW (W.getD a.toNat 0) := rfl
        refine ⟨?_, fun o hm => ?_⟩
        · rw [used, if_pos rfl, i1, ho]
          omega
        · rcases List.mem_cons.1 hm with rfl | hm
          · rw [ho]
            omega
          · have := i2 o hm
            omega
theorem objs_none (h l : Int) (W : List Int) (ok : hOk h l W = true) (e : hFr W = 16 + hSp W * h) : objs h l W = ([], true) := by
  rw [objs, if_pos ok, objGo_end (by omega)]
end Go.Proofs.YtjengjmhjccnoaaGreatDoor
