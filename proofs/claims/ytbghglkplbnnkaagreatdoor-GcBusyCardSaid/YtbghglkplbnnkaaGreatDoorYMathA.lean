import Derived.Test.YtbghglkplbnnkaaGreatDoorYHeapD
import Derived.Test.YtbghglkplbnnkaaGreatDoorYHeapC
set_option linter.unusedVariables false
set_option linter.unusedSimpArgs false
-- AllocMath
namespace Go.Proofs.YtbghglkplbnnkaaGreatDoor
open Go.RowKit Sec
open Go.Proofs.YtbghglkplbnnkaaGreatDoor.Bk

section
variable {h l : Int} {W : List Int} {s x : Int}
structure Mk (h l : Int) (W : List Int) (s x : Int) (a n : Nat) : Prop where
  e : newE h l W s x = 0
  fr : hFr W = (a : Int)
  sz : 1 + s + x = (n : Int)
  n1 : 1 ≤ n
  a16 : 16 ≤ a
  le : (a : Int) + (n : Int) ≤ 16 + hSp W * h + h
  len : a + n ≤ W.length
  ok : hOk h l W = true
  sh : shOk s x = true
theorem new_yes (hWl : (W.length : Int) = 16 + 2 * h) (e : newE h l W s x = 0) : ∃ a n, Mk h l W s x a n := by
  by_cases ok : (hOk h l W && shOk s x) = true
  · obtain ⟨q1, q2⟩ := (Bool.and_eq_true _ _).mp ok |> fun p => p
    by_cases room : 16 + hSp W * h + h - hFr W < 1 + s + x
    · rw [newE, if_pos ok, if_pos room] at e
      exact absurd e (by decide)
    · obtain ⟨f1, f2, _, f4, _⟩ := fine_yes q1
      have hq := geOk_yes f1
      obtain ⟨s0, s1, x0, x1⟩ := shOk_yes q2
      have hmul : hSp W * h ≤ h := by rcases f2 with e | e <;> rw [e] <;> omega
      have hmul0 : 0 ≤ hSp W * h := by rcases f2 with e | e <;> rw [e] <;> omega
      obtain ⟨n, hn⟩ := Int.eq_ofNat_of_zero_le (show 0 ≤ 1 + s + x by omega)
      obtain ⟨a, ha⟩ := Int.eq_ofNat_of_zero_le (show 0 ≤ hFr W by omega)
      exact ⟨a, n, e, ha, hn, by omega, by omega, by omega, by omega, q1, q2⟩
  · rw [newE, if_neg ok] at e
    exact absurd e (by decide)
theorem new_no (e : newE h l W s x ≠ 0) : newW h l W s x = W ∧ newA h l W s x = 0 := ⟨if_neg e, if_neg e⟩
variable {a n : Nat}
theorem Mk.ad (k : Mk h l W s x a n) : newA h l W s x = (a : Int) := by rw [newA, if_pos k.e, k.fr]
theorem Mk.at (k : Mk h l W s x a n) (i : Nat) : (newW h l W s x).getD i 0 = if i = 1 then (a : Int) + (n : Int) else if i = a then hdI s x else if a ≤ i ∧ i < a + n then 0 else W.getD i 0 := by
  have h1 := k.a16
  have h2 := k.len
  have h3 := k.n1
  rw [newW, if_pos k.e, k.fr, k.sz, Int.toNat_natCast, Int.toNat_natCast, getD_set, getD_set, zfill_at, List.length_set, zfill_len]
  by_cases e1 : i = 1
  · rw [if_pos ⟨e1.symm, by omega⟩, if_pos e1]
  · rw [if_neg (fun z => e1 z.1.symm), if_neg e1]
    by_cases e2 : i = a
    · rw [if_pos ⟨e2.symm, by omega⟩, if_pos e2]
    · rw [if_neg (fun z => e2 z.1.symm), if_neg e2]
theorem new_len (h l : Int) (W : List Int) (s x : Int) : (newW h l W s x).length = W.length := by
  rw [newW]
  split
  · rw [List.length_set, List.length_set, zfill_len]
  · rfl
theorem Mk.hd (k : Mk h l W s x a n) : (newW h l W s x).getD a 0 = hdI s x := by
  have := k.a16
  rw [k.at, if_neg (by omega), if_pos rfl]
theorem Mk.zero (k : Mk h l W s x a n) {i : Nat} (h0 : a < i) (h1 : i < a + n) : (newW h l W s x).getD i 0 = 0 := by
  have := k.a16
  rw [k.at, if_neg (by omega), if_neg (by omega), if_pos ⟨by omega, h1⟩]
theorem Mk.other (k : Mk h l W s x a n) {i : Nat} (h0 : i < a ∨ a + n ≤ i) (h1 : i ≠ 1) : (newW h l W s x).getD i 0 = W.getD i 0 := by
  have := k.n1
  rw [k.at, if_neg h1, if_neg (by omega), if_neg (by omega)]
theorem Mk.ctl (k : Mk h l W s x a n) : hSp (newW h l W s x) = hSp W ∧ hFr (newW h l W s x) = (a : Int) + (n : Int) ∧ hGc (newW h l W s x) = hGc W ∧ hSc (newW h l W s x) = hSc W := by
  have h1 := k.a16
  refine ⟨k.other (.inl (by omega)) (by decide), ?_, k.other (.inl (by omega)) (by decide), k.other (.inl (by omega)) (by decide)⟩
  rw [hFr, k.at, if_pos rfl]
theorem Mk.ok' (k : Mk h l W s x a n) : hOk h l (newW h l W s x) = true := by
  obtain ⟨c0, c1, c2, c3⟩ := k.ctl
  have hk := k.ok
  rw [hOk] at hk ⊢
  rw [c0, c1, c2, c3]
  obtain ⟨f1, f2, f3, f4, f5⟩ := fine_yes hk
  have hfr := k.fr
  have hle := k.le
  have hg : 0 ≤ hSp W ∧ hSp W ≤ 1 ∧ 0 ≤ hGc W ∧ hGc W ≤ 1 := by omega
  rw [fine_mid f1 hg, decide_eq_true (by omega), Bool.true_and]
  rcases f5 with q | q
  · rw [decide_eq_true q, Bool.true_or]
  · rw [decide_eq_true (show hGc W = 1 ∧ 16 + hSp W * h ≤ hSc W ∧ hSc W ≤ (a : Int) + (n : Int) by omega), Bool.or_true]
theorem hdI_num (q : shOk s x = true) : 0 ≤ hdI s x ∧ hdI s x < 4294967296 := by
  have := shOk_yes q
  rw [hdI, if_pos q]
  omega
theorem Mk.num (k : Mk h l W s x a n) (hn : NumC W) : NumC (newW h l W s x) := fun i => by
  rw [k.at]
  have h1 := k.le
  obtain ⟨f1, f2, _, f4, _⟩ := fine_yes k.ok
  have hq := geOk_yes f1
  have hmul : hSp W * h ≤ h := by rcases f2 with e | e <;> rw [e] <;> omega
  split
  · omega
  · split
    · exact hdI_num k.sh
    · split
      · decide
      · exact hn i
theorem Mk.go (k : Mk h l W s x a n) : ∀ (m : Nat) (b : Int), 16 ≤ b → b ≤ (a : Int) → (a : Int) - b < (m : Int) → (objGo W (a : Int) m b).2 = true →
    objGo (newW h l W s x) ((a : Int) + (n : Int)) m b = ((objGo W (a : Int) m b).1 ++ [(a : Int)], true)
  | 0, b, h0, h1, h2, _ => by omega
  | m + 1, b, h0, h1, h2, h3 => by
    have hn1 := k.n1
    obtain ⟨j, rfl⟩ := Int.eq_ofNat_of_zero_le (show 0 ≤ b by omega)
    by_cases q : (a : Int) ≤ (j : Int)
    · obtain rfl : j = a := by omega
      rw [objGo_end (W := W) (Int.le_refl _)]
      obtain ⟨p1, p2, p3⟩ := hd_back k.sh
      have hsz := k.sz
      have hh : ¬ (hdOk ((newW h l W s x).getD (j : Int).toNat 0) = false ∨ (j : Int) + (n : Int) < (j : Int) + 1 + prS ((newW h l W s x).getD (j : Int).toNat 0) + prW ((newW h l W s x).getD (j : Int).toNat 0)) := by
        rw [Int.toNat_natCast, k.hd, p1, p2, p3]
        rintro (e | e)
        · exact absurd e (by decide)
        · omega
      rw [objGo_yes m (by omega) hh]
      rw [Int.toNat_natCast, k.hd, p2, p3, objGo_end (by omega)]
      rfl
    · by_cases r : hdOk (W.getD (j : Int).toNat 0) = false ∨ (a : Int) < (j : Int) + 1 + prS (W.getD (j : Int).toNat 0) + prW (W.getD (j : Int).toNat 0)
      · rw [objGo_no m q r] at h3
        exact absurd h3 (by decide)
      · have hp := shOk_yes (pr_range (W.getD (j : Int).toNat 0))
        have hs : (newW h l W s x).getD (j : Int).toNat 0 = W.getD (j : Int).toNat 0 := k.other (.inl (by omega)) (by omega)
        rw [objGo_yes m q r] at h3 ⊢
        have hr : ¬ (a : Int) < (j : Int) + 1 + prS (W.getD (j : Int).toNat 0) + prW (W.getD (j : Int).toNat 0) := fun e => r (.inr e)
        rw [objGo_yes m (by omega) (by rw [hs]; rintro (e | e); exact r (.inl e); omega), hs]
        have := k.go m ((j : Int) + 1 + prS (W.getD (j : Int).toNat 0) + prW (W.getD (j : Int).toNat 0)) (by omega) (by omega) (by omega) h3
        rw [this]
        rfl
theorem Mk.objs (k : Mk h l W s x a n) (e : (objs h l W).2 = true) : objs h l (newW h l W s x) = ((objs h l W).1 ++ [(a : Int)], true) := by
  obtain ⟨c0, c1, _, _⟩ := k.ctl
  obtain ⟨f1, f2, _, f4, _⟩ := fine_yes k.ok
  have hq := geOk_yes f1
  have hmul0 : 0 ≤ hSp W * h := by rcases f2 with e | e <;> rw [e] <;> omega
  have hmul : hSp W * h ≤ h := by rcases f2 with e | e <;> rw [e] <;> omega
  have hfr := k.fr
  have e1 : Go.Proofs.YtbghglkplbnnkaaGreatDoor.objs h l W = objGo W (a : Int) 1000 (16 + hSp W * h) := by rw [Go.Proofs.YtbghglkplbnnkaaGreatDoor.objs, if_pos k.ok, k.fr]
  have e2 : Go.Proofs.YtbghglkplbnnkaaGreatDoor.objs h l (newW h l W s x) = objGo (newW h l W s x) ((a : Int) + (n : Int)) 1000 (16 + hSp W * h) := by rw [Go.Proofs.YtbghglkplbnnkaaGreatDoor.objs, if_pos k.ok', c0, c1]
  rw [e1] at e
  rw [e1, e2]
  exact k.go 1000 _ (by omega) (by omega) (by omega) e
end
end Go.Proofs.YtbghglkplbnnkaaGreatDoor
-- ObjsMath
namespace Go.Proofs.YtbghglkplbnnkaaGreatDoor
open Go.RowKit

theorem objGo_hd {W : List Int} {fr : Int} : ∀ (n : Nat) (a : Int), 0 ≤ a → ∀ y ∈ (objGo W fr n a).1, 0 ≤ y ∧ hdOk (W.getD y.toNat 0) = true
  | 0, a, _, y, hy => absurd hy List.not_mem_nil
  | n + 1, a, h0, y, hy => by
    by_cases q : fr ≤ a
    · rw [objGo_end q] at hy
      exact absurd hy List.not_mem_nil
    · by_cases r : hdOk (W.getD a.toNat 0) = false ∨ fr < a + 1 + prS (W.getD a.toNat 0) + prW (W.getD a.toNat 0)
      · rw [objGo_no n q r] at hy
        exact absurd hy List.not_mem_nil
      · rw [objGo_yes n q r] at hy
        have hp := shOk_yes (pr_range (W.getD a.toNat 0))
        rcases List.mem_cons.1 hy with rfl | hy
        · refine ⟨h0, ?_⟩
          cases e : hdOk (W.getD y.toNat 0)
          · exact absurd (.inl e) r
          · rfl
        · exact objGo_hd n _ (by omega) y hy
def osz (V : List Int) (o : Int) : Int := 1 + prS (V.getD o.toNat 0) + prW (V.getD o.toNat 0)
theorem osz_pos (V : List Int) (o : Int) : 1 ≤ osz V o ∧ osz V o ≤ 46 := by
  have hp := shOk_yes (pr_range (V.getD o.toNat 0))
  rw [osz]
  omega
def used (V : List Int) (f : Int → Bool) : List Int → Int
  | [] => 0
  | o :: T => (if f o = true then osz V o else 0) + used V f T
theorem objGo_used {W : List Int} {fr : Int} : ∀ (n : Nat) (a : Int), a ≤ fr → fr - a < (n : Int) → (objGo W fr n a).2 = true → used W (fun _ => true) (objGo W fr n a).1 = fr - a ∧ ∀ o ∈ (objGo W fr n a).1, a ≤ o ∧ o + osz W o ≤ fr
  | 0, a, h1, h2, _ => by omega
  | n + 1, a, h1, h2, h3 => by
    by_cases q : fr ≤ a
    · rw [objGo_end q]
      refine ⟨?_, fun o ho => absurd ho List.not_mem_nil⟩
      show (0 : Int) = fr - a
      omega
    · by_cases r : hdOk (W.getD a.toNat 0) = false ∨ fr < a + 1 + prS (W.getD a.toNat 0) + prW (W.getD a.toNat 0)
      · rw [objGo_no n q r] at h3
        exact absurd h3 (by decide)
      · have hr : ¬ fr < a + 1 + prS (W.getD a.toNat 0) + prW (W.getD a.toNat 0) := fun e => r (.inr e)
        have hp := shOk_yes (pr_range (W.getD a.toNat 0))
        rw [objGo_yes n q r] at h3 ⊢
        obtain ⟨i1, i2⟩ := objGo_used (W := W) (fr := fr) n (a + 1 + prS (W.getD a.toNat 0) + prW (W.getD a.toNat 0)) (by omega) (by omega) h3
        have ho : osz W a = 1 + prS (W.getD a.toNat 0) + prW (W.getD a.toNat 0) := rfl
        refine ⟨?_, fun o hm => ?_⟩
        · rw [used, if_pos rfl, i1, ho]
          omega
        · rcases List.mem_cons.1 hm with rfl | hm
          · rw [ho]
            omega
          · have := i2 o hm
            omega
theorem objs_none (h l : Int) (W : List Int) (ok : hOk h l W = true) (e : hFr W = 16 + hSp W * h) : objs h l W = ([], true) := by
  rw [objs, if_pos ok, objGo_end (by omega)]
end Go.Proofs.YtbghglkplbnnkaaGreatDoor
-- FollowMath
namespace Go.Proofs.YtbghglkplbnnkaaGreatDoor
open Go.RowKit Sec
open Go.Proofs.YtbghglkplbnnkaaGreatDoor.Bk

section
variable {h l : Int} {W : List Int} {a : Int}
end
theorem objGo_more {W V : List Int} {a n : Nat} (hn : 1 ≤ n) (hd : hdOk (V.getD a 0) = true) (hz : 1 + prS (V.getD a 0) + prW (V.getD a 0) = (n : Int)) :
    ∀ (m : Nat) (b : Int), 0 ≤ b → b ≤ (a : Int) → (a : Int) - b < (m : Int) → (∀ i : Nat, b ≤ (i : Int) → i < a → V.getD i 0 = W.getD i 0) → (objGo W (a : Int) m b).2 = true →
    objGo V ((a : Int) + (n : Int)) m b = ((objGo W (a : Int) m b).1 ++ [(a : Int)], true)
  | 0, b, h0, h1, h2, _, _ => by omega
  | m + 1, b, h0, h1, h2, hs, h3 => by
    obtain ⟨j, rfl⟩ := Int.eq_ofNat_of_zero_le h0
    by_cases q : (a : Int) ≤ (j : Int)
    · obtain rfl : j = a := by omega
      rw [objGo_end (W := W) (Int.le_refl _), objGo_yes m (by omega) (by
        rw [Int.toNat_natCast, hd]
        rintro (e | e)
        · exact absurd e (by decide)
        · omega), Int.toNat_natCast, objGo_end (by omega)]
      rfl
    · by_cases r : hdOk (W.getD (j : Int).toNat 0) = false ∨ (a : Int) < (j : Int) + 1 + prS (W.getD (j : Int).toNat 0) + prW (W.getD (j : Int).toNat 0)
      · rw [objGo_no m q r] at h3
        exact absurd h3 (by decide)
      · have hp := shOk_yes (pr_range (W.getD (j : Int).toNat 0))
        have hsj : V.getD (j : Int).toNat 0 = W.getD (j : Int).toNat 0 := hs _ (by rw [Int.toNat_natCast]; omega) (by rw [Int.toNat_natCast]; omega)
        have hr : ¬ (a : Int) < (j : Int) + 1 + prS (W.getD (j : Int).toNat 0) + prW (W.getD (j : Int).toNat 0) := fun e => r (.inr e)
        rw [objGo_yes m q r] at h3 ⊢
        rw [objGo_yes m (by omega) (by rw [hsj]; rintro (e | e); exact r (.inl e); omega), hsj]
        have := objGo_more hn hd hz m ((j : Int) + 1 + prS (W.getD (j : Int).toNat 0) + prW (W.getD (j : Int).toNat 0)) (by omega) (by omega) (by omega) (fun i hi hl => hs i (by omega) hl) h3
        rw [this]
        rfl
end Go.Proofs.YtbghglkplbnnkaaGreatDoor
