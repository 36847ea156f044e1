/- A log as laws see it: what is in it, whatever its disk is; each call of package loop by that. Conditions: its disk has power, isn't armed. -/
import Derived.Test.YtbcdmcafobjpcaaGreatDoorLoopMath
namespace Go.Proofs.YtbcdmcafobjpcaaGreatDoor
open Go.RowKit Sec
open Go.Proofs.YtbcdmcafobjpcaaGreatDoor.Bk

theorem zero_no : enIs zero32 = false := by
  have h : entOk (entOf zero32) = false := by kernel_rfl
  simp [enIs, h]
/-- THE LOG at q, its disk at p: changes that were committed since hd. -/
def Lg (B : Nat) (G : Nat → Prop) (w : World) (q p fr n hd nx : Nat) (ep : Int) (all : List Chg) (K : Nat) : Prop :=
  ∃ D, LogAt B G w q p D fr n hd nx ep ∧ LogIs D fr n hd nx ep all ∧ Calm D K ∧ fr + n ≤ D.lasts.length
/-- Bounds of its numbers. -/
structure Lim (fr n hd : Nat) (ep : Int) (K : Nat) : Prop where
  f : fr + n ≤ 3000
  m : n ≤ 1000
  h : hd < 1000000000
  e0 : 0 ≤ ep
  e1 : ep < 1000000000
  k : K < 2 ^ 50
section
variable {B : Nat} {G G' : Nat → Prop} {w w' : World} {q p fr n hd nx : Nat} {ep : Int} {all : List Chg} {K : Nat}
theorem Lg.below (h : Lg B G w q p fr n hd nx ep all K) (b : Below w.heap.size w w') : Lg B G w' q p fr n hd nx ep all K := by
  obtain ⟨D, h1, h2, h3, h4⟩ := h
  exact ⟨D, h1.below b, h2, h3, h4⟩
theorem Lg.more (h : Lg B G w q p fr n hd nx ep all K) (b : Below w.heap.size w w') : Lg B (fun k => G k ∨ (w.heap.size ≤ k ∧ k < w'.heap.size)) w' q p fr n hd nx ep all K := by
  obtain ⟨D, h1, h2, h3, h4⟩ := h
  exact ⟨D, h1.more b, h2, h3, h4⟩
theorem Lg.mono (h : Lg B G w q p fr n hd nx ep all K) (hG : ∀ b, G' b → G b) : Lg B G' w q p fr n hd nx ep all K := by
  obtain ⟨D, h1, h2, h3, h4⟩ := h
  exact ⟨D, h1.mono hG, h2, h3, h4⟩
theorem Lg.le (h : Lg B G w q p fr n hd nx ep all K) : B ≤ w.heap.size := by obtain ⟨D, h1, _⟩ := h; exact h1.le
theorem Lg.ord (h : Lg B G w q p fr n hd nx ep all K) : hd ≤ nx ∧ nx ≤ hd + n ∧ 1 ≤ n := by obtain ⟨D, _, h2, _⟩ := h; exact ⟨h2.ord, h2.cap, h2.n1⟩
theorem Lg.keptG (h : Lg B G w q p fr n hd nx ep all K) (b : Below w.heap.size w w') : KeptG G w w' := by obtain ⟨D, h1, _⟩ := h; exact h1.keptG b
theorem lim_nums {D : Dsk} (h : LogIs D fr n hd nx ep all) (L : Lim fr n hd ep K) : Nums fr n hd nx ep := by
  have h1 := h.n1; have h2 := h.ord; have h3 := h.cap
  obtain ⟨l1, l2, l3, l4, l5, l6⟩ := L
  exact ⟨by omega, by omega, by omega, by omega, by omega, by omega, l4, l5, by omega⟩
/-- A new log on a new disk. -/
theorem lg_new {m : Nat} (h : AtK B G w p (newD m)) (fr n hd : Nat) (ep : Int) (n1 : 1 ≤ n) (hf : fr + n ≤ m) (hh : hd < 1000000000) (e0 : 0 ≤ ep) (e1 : ep < 1000000000) :
    Calls Tryz.prog 6 #[.pointer (some ⟨p, 0, none⟩), .int .i64 fr, .int .i64 n, .int .i64 hd, .int .i64 hd, .int .i64 ep] w fun e w' => ∃ q, e = .returned (.pointer (some ⟨q, 0, none⟩)) ∧ Lg B G w' q p fr n hd hd ep [] 0 ∧ Below w.heap.size w w' := by
  have hl : (newD m).lasts.length = m := by simp [newD]
  refine (lnew_yes h fr n hd hd ep (by rw [hl]; exact decide_eq_true ⟨by omega, by omega, by omega, by omega, by omega, by omega, e0, by omega, e1⟩)).mono fun e w' ⟨q, he, hA, hb⟩ => ⟨q, he, ⟨newD m, hA, ?_, ⟨rfl, rfl, rfl, Nat.le_refl _⟩, by rw [hl]; exact hf⟩, hb⟩
  refine logIs_new _ _ _ _ _ rfl n1 (by simp [newD]; exact hf) (fun b hb' => ?_)
  have : b = zero32 := by
    have := hb'
    simp only [newD, List.mem_replicate] at this
    exact this.2
  rw [this]
  exact zero_no
theorem lg_append (h : Lg B G w q p fr n hd nx ep all K) (L : Lim fr n hd ep K) (a : Option Addr) (c : List Chg) (cap : Nat) (hL : LiesAt w a (flat Chg.cells c)) (hl : c.length ≤ 1000) :
    Calls Tryz.prog 8 #[.pointer (some ⟨q, 0, none⟩), .slice a c.length cap] w fun e w' => ∃ x nx' all', e = .returned (.int .i64 x) ∧ Lg B G w' q p fr n hd nx' ep all' (K + c.length + 2) ∧ Below B w w' ∧ KeptG G w w' ∧
      ((x = 0 ∧ nx' = nx + c.length + 1 ∧ all' = all ++ c ∧ grOk nx ep c = true ∧ nx + c.length + 1 ≤ hd + n) ∨ (x ≠ 0 ∧ nx' = nx ∧ all' = all ∧ (grOk nx ep c = false ∨ ¬ nx + c.length + 1 ≤ hd + n))) := by
  obtain ⟨D, h1, h2, h3, h4⟩ := h
  have N := lim_nums h2 L
  obtain ⟨s1, s2, _⟩ := h1.d.shape
  have hK := L.k
  have hw : D.waits.length = 0 := by rw [h3.waits]; rfl
  have hdd := h3.deeds
  have hord := h2.ord
  have hcap := h2.cap
  have hh := L.h
  have hm := L.m
  have go : ∀ D' x, appR fr n hd nx ep D c = (D', x) → _ := fun D' x hx => append_is h1 N a c cap hL hl (by omega) (by omega) D' x hx
  by_cases hok : grOk nx ep c = true
  · by_cases hroom : nx + c.length + 1 ≤ hd + n
    · obtain ⟨D', e1, e2, e3⟩ := h2.append h3 s1 c (by omega) hok hroom
      refine (go D' 0 e1).mono fun e w' ⟨he, hA, hb, hk⟩ => ⟨0, _, _, he, ⟨D', ?_, e2, e3, ?_⟩, hb, hk, .inl ⟨rfl, rfl, rfl, hok, hroom⟩⟩
      · have : appN (nx : Int) 0 c = ((nx + c.length + 1 : Nat) : Int) := by simp [appN]; omega
        rwa [this] at hA
      · obtain ⟨t1, _⟩ := hA.d.shape
        have := e2.len
        omega
    · have e1 : appR fr n hd nx ep D c = (D, 5) := by rw [appR, if_neg (by rw [hok]; decide), if_pos (by omega)]
      refine (go D 5 e1).mono fun e w' ⟨he, hA, hb, hk⟩ => ⟨5, nx, all, he, ⟨D, hA, h2, ⟨h3.on, h3.lit, h3.waits, by omega⟩, h4⟩, hb, hk, .inr ⟨by decide, rfl, rfl, .inr hroom⟩⟩
  · have hok' : grOk nx ep c = false := by simpa using hok
    refine (go D 1 (appR_not c hok')).mono fun e w' ⟨he, hA, hb, hk⟩ => ⟨1, nx, all, he, ⟨D, hA, h2, ⟨h3.on, h3.lit, h3.waits, by omega⟩, h4⟩, hb, hk, .inr ⟨by decide, rfl, rfl, .inl hok'⟩⟩
theorem lg_scan (h : Lg B G w q p fr n hd nx ep all K) (L : Lim fr n hd ep K) :
    Calls Tryz.prog 13 #[.pointer (some ⟨p, 0, none⟩), .int .i64 fr, .int .i64 n, .int .i64 hd, .int .i64 ep] w fun e w' => ∃ v, e = .returned (.tuple #[v, .int .i64 (nx : Int), .int .i64 0]) ∧ Below w.heap.size w w' ∧ w'.ownsRow w.heap.size 55 2 v all.length (flat Chg.cells all) := by
  obtain ⟨D, h1, h2, h3, h4⟩ := h
  obtain ⟨l1, l2, l3, l4, l5, l6⟩ := L
  have k1 := h2.n1; have k2 := h2.ord; have k3 := h2.cap
  refine (scan_is h1.d h3.on fr n hd ep (decide_eq_true ⟨by omega, by omega, by omega, by omega, by omega, by omega, l4, by omega, l5⟩) n rfl l2 all (nx - hd) h2.scan).mono fun e w' ⟨v, he, hb, ho⟩ => ⟨v, ?_, hb, ho⟩
  rw [he, show wrap64 ((hd : Int) + ((nx - hd : Nat) : Int)) = (nx : Int) by unfold wrap64; omega]
theorem lg_cut (h : Lg B G w q p fr n hd nx ep all K) (k : Int) (h1 : ep < k) (h2 : k < 1000000000) :
    Calls Tryz.prog 15 #[.pointer (some ⟨q, 0, none⟩), .int .i64 k] w fun e w' => e = .returned (.int .i64 0) ∧ Lg B G w' q p fr n nx nx k [] K ∧ Below B w w' ∧ KeptG G w w' := by
  obtain ⟨D, a1, a2, a3, a4⟩ := h
  exact (Cut_yes a1 k h1 h2).mono fun e w' ⟨he, hA, hb, hk⟩ => ⟨he, ⟨D, hA, a2.cut h1, a3, a4⟩, hb, hk⟩
theorem lg_cut_no (h : Lg B G w q p fr n hd nx ep all K) (k : Int) (hk : k ≤ ep ∨ 1000000000 ≤ k) :
    Calls Tryz.prog 15 #[.pointer (some ⟨q, 0, none⟩), .int .i64 k] w fun e w' => e = .returned (.int .i64 1) ∧ w' = w := by
  obtain ⟨D, a1, a2, a3, a4⟩ := h
  exact Cut_no a1.c k hk
theorem lg_head (h : Lg B G w q p fr n hd nx ep all K) : Calls Tryz.prog 19 #[.pointer (some ⟨q, 0, none⟩)] w fun e w' => e = .returned (.int .i64 (hd : Int)) ∧ w' = w := by
  obtain ⟨D, a1, _⟩ := h
  exact Head_is a1.c
theorem lg_next (h : Lg B G w q p fr n hd nx ep all K) : Calls Tryz.prog 20 #[.pointer (some ⟨q, 0, none⟩)] w fun e w' => e = .returned (.int .i64 (nx : Int)) ∧ w' = w := by
  obtain ⟨D, a1, _⟩ := h
  exact Next_is a1.c
theorem lg_room (h : Lg B G w q p fr n hd nx ep all K) (L : Lim fr n hd ep K) : Calls Tryz.prog 21 #[.pointer (some ⟨q, 0, none⟩)] w fun e w' => e = .returned (.int .i64 ((n : Int) - ((nx : Int) - (hd : Int)))) ∧ Below w.heap.size w w' := by
  obtain ⟨D, a1, a2, _⟩ := h
  exact Room_is a1.c (lim_nums a2 L)
end
end Go.Proofs.YtbcdmcafobjpcaaGreatDoor
