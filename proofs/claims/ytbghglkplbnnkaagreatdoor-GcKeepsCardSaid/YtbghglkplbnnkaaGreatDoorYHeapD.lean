import Derived.Test.YtbghglkplbnnkaaGreatDoorYHeapC
set_option linter.unusedVariables false
set_option linter.unusedSimpArgs false
-- HeapInv
namespace Go.Proofs.YtbghglkplbnnkaaGreatDoor
open Go.RowKit Sec
open Go.Proofs.YtbghglkplbnnkaaGreatDoor.Bk

def NumC (W : List Int) : Prop := ∀ i : Nat, 0 ≤ W.getD i 0 ∧ W.getD i 0 < 4294967296
theorem getD_set (W : List Int) (i j : Nat) (v : Int) : (W.set i v).getD j 0 = if i = j ∧ j < W.length then v else W.getD j 0 := by
  rw [List.getD_eq_getElem?_getD, List.getElem?_set, List.getD_eq_getElem?_getD]
  by_cases e : i = j
  · subst e
    rw [if_pos rfl]
    by_cases l : i < W.length
    · rw [if_pos l, if_pos ⟨rfl, l⟩]
      rfl
    · rw [if_neg l, if_neg (fun z => l z.2), List.getElem?_eq_none (by omega)]
  · rw [if_neg e, if_neg (fun z => e z.1)]
theorem getD_set_ne {W : List Int} {i j : Nat} {v : Int} (h : i ≠ j) : (W.set i v).getD j 0 = W.getD j 0 := by rw [getD_set, if_neg (fun z => h z.1)]
theorem getD_set_eq {W : List Int} {i : Nat} {v : Int} (h : i < W.length) : (W.set i v).getD i 0 = v := by rw [getD_set, if_pos ⟨rfl, h⟩]
theorem NumC.set {W : List Int} (h : NumC W) (i : Nat) {v : Int} (h0 : 0 ≤ v) (h1 : v < 4294967296) : NumC (W.set i v) := fun j => by
  rw [getD_set]
  split
  · exact ⟨h0, h1⟩
  · exact h j
theorem NumC.cpfill {W : List Int} (h : NumC W) (a f : Nat) : ∀ n, NumC (cpfill W a f n)
  | 0 => h
  | n + 1 => (NumC.cpfill h a f n).set _ (NumC.cpfill h a f n _).1 (NumC.cpfill h a f n _).2
theorem cpfill_at (W : List Int) (a f : Nat) (i : Nat) : ∀ n, (f + n ≤ a ∨ a + n ≤ f) → f + n ≤ W.length → (cpfill W a f n).getD i 0 = if f ≤ i ∧ i < f + n then W.getD (a + (i - f)) 0 else W.getD i 0
  | 0, _, _ => by rw [cpfill, if_neg (by omega)]
  | n + 1, hd, hl => by
    have ih := fun j => cpfill_at W a f j n (by omega) (by omega)
    rw [cpfill, getD_set, cpfill_len]
    by_cases e : f + n = i
    · rw [if_pos ⟨e, by omega⟩, if_pos (by omega), cpfill_at W a f (a + n) n (by omega) (by omega), if_neg (by omega), show a + n = a + (i - f) by omega]
    · rw [if_neg (fun z => e z.1), cpfill_at W a f i n (by omega) (by omega)]
      by_cases q : f ≤ i ∧ i < f + n
      · rw [if_pos q, if_pos (by omega)]
      · rw [if_neg q, if_neg (by omega)]
structure Mov (h l : Int) (W : List Int) (a : Int) (n f z : Nat) : Prop where
  ea : a = (n : Int)
  n16 : 16 ≤ n
  f16 : 16 ≤ f
  z1 : 1 ≤ z
  z46 : z ≤ 46
  fr : hFr W = (f : Int)
  sz : (z : Int) = folZ W a
  nl : n + z ≤ W.length
  fl : f + z ≤ W.length
  ap : f + z ≤ n ∨ n + z ≤ f
  fe : (f : Int) + z ≤ 16 + hSp W * h + h
  ev : folV h l W a = (f : Int)
  ew : folW h l W a = ((cpfill W n f z).set 1 ((f : Int) + z)).set n (33554432 + f)
theorem fol_mov {h l : Int} {W : List Int} {a : Int} (hWl : (W.length : Int) = 16 + 2 * h) (e : folE h l W a = 0) (q : folM h l W a = true) : ∃ n f z, Mov h l W a n f z := by
  obtain ⟨q1, q2, q3, q4, q5⟩ := folM_yes q
  obtain ⟨n, rfl, m1, m2, m3, m4, m5⟩ := folM_at q
  obtain ⟨f1, f2, f3, f4, f5⟩ := fine_yes q1
  have hq := geOk_yes f1
  have hm : 0 ≤ hSp W * h ∧ hSp W * h ≤ h := by rcases f2 with x | x <;> rw [x] <;> omega
  have hmm : hSp W * h + (1 - hSp W) * h = h := by rw [Int.sub_mul, Int.one_mul]; omega
  have hp := shOk_yes (pr_range (W.getD n 0))
  have hsz : folZ W (n : Int) = 1 + prS (W.getD n 0) + prW (W.getD n 0) := by rw [folZ, Int.toNat_natCast]
  have room : ¬ 16 + hSp W * h + h - hFr W < folZ W (n : Int) := fun r => by
    rw [folE, if_neg (by rw [q1]; decide), if_neg (by rw [q2]; decide), if_pos ⟨q, r⟩] at e
    exact absurd e (by decide)
  obtain ⟨z, hz⟩ := Int.eq_ofNat_of_zero_le (show 0 ≤ folZ W (n : Int) by omega)
  obtain ⟨f, hf⟩ := Int.eq_ofNat_of_zero_le (show 0 ≤ hFr W by omega)
  refine ⟨n, f, z, rfl, by omega, by omega, by omega, by omega, hf, hz.symm, by omega, by omega, ?_, by omega, ?_, ?_⟩
  · rcases f2 with x | x
    · rw [x] at m1 m5 f4 hmm room
      omega
    · rw [x] at m1 m5 f4 hmm room
      omega
  · rw [folV, if_pos e, if_pos q, hf]
  · rw [folW, if_pos ⟨e, q⟩, hf, hz, Int.toNat_natCast, Int.toNat_natCast, Int.toNat_natCast]
section
variable {h l : Int} {W : List Int} {a : Int} {n f z : Nat}
theorem Mov.at (m : Mov h l W a n f z) (i : Nat) : (folW h l W a).getD i 0 = if i = n then 33554432 + (f : Int) else if i = 1 then (f : Int) + z else if f ≤ i ∧ i < f + z then W.getD (n + (i - f)) 0 else W.getD i 0 := by
  have h1 := m.n16
  have h2 := m.nl
  have h3 := m.z1
  rw [m.ew, getD_set, List.length_set, cpfill_len]
  by_cases e : n = i
  · rw [if_pos ⟨e, by omega⟩, if_pos e.symm]
  · rw [if_neg (fun x => e x.1), if_neg (fun x => e x.symm), getD_set, cpfill_len]
    by_cases e1 : 1 = i
    · rw [if_pos ⟨e1, by omega⟩, if_pos e1.symm]
    · rw [if_neg (fun x => e1 x.1), if_neg (fun x => e1 x.symm), cpfill_at W n f i z m.ap m.fl]
theorem fol_fr (hWl : (W.length : Int) = 16 + 2 * h) (a : Int) : hFr W ≤ hFr (folW h l W a) := by
  by_cases e : folE h l W a = 0 ∧ folM h l W a = true
  · obtain ⟨n, f, z, m⟩ := fol_mov hWl e.1 e.2
    have h1 := m.n16
    rw [m.fr, hFr, m.at, if_neg (by omega), if_pos rfl]
    omega
  · rw [show folW h l W a = W from if_neg e]
    exact Int.le_refl _
theorem fol_low (hWl : (W.length : Int) = 16 + 2 * h) (a : Int) {i : Nat} (hi : i < 16) (h1 : i ≠ 1) : (folW h l W a).getD i 0 = W.getD i 0 := by
  by_cases e : folE h l W a = 0 ∧ folM h l W a = true
  · obtain ⟨n, f, z, m⟩ := fol_mov hWl e.1 e.2
    have := m.n16
    have := m.f16
    rw [m.at, if_neg (by omega), if_neg h1, if_neg (by omega)]
  · rw [show folW h l W a = W from if_neg e]
theorem fol_num (hWl : (W.length : Int) = 16 + 2 * h) (hn : NumC W) (a : Int) : NumC (folW h l W a) := by
  by_cases e : folE h l W a = 0 ∧ folM h l W a = true
  · obtain ⟨n, f, z, m⟩ := fol_mov hWl e.1 e.2
    have h1 := m.fr
    have h2 := hn 1
    have h3 : W.getD 1 0 = (f : Int) := h1
    have h4 := m.z46
    have h5 := fine_yes (folM_yes e.2).1
    have h6 := geOk_yes h5.1
    have h7 := m.fl
    rw [m.ew]
    exact ((hn.cpfill n f z).set 1 (by omega) (by omega)).set n (by omega) (by omega)
  · rw [show folW h l W a = W from if_neg e]
    exact hn
theorem fol_ok (hWl : (W.length : Int) = 16 + 2 * h) (hk : hOk h l W = true) (a : Int) : hOk h l (folW h l W a) = true := by
  by_cases e : folE h l W a = 0 ∧ folM h l W a = true
  · obtain ⟨n, f, z, m⟩ := fol_mov hWl e.1 e.2
    obtain ⟨f1, f2, f3, f4, f5⟩ := fine_yes hk
    have e0 : hSp (folW h l W a) = hSp W := fol_low hWl a (by decide) (by decide)
    have e2 : hGc (folW h l W a) = hGc W := fol_low hWl a (by decide) (by decide)
    have e3 : hSc (folW h l W a) = hSc W := fol_low hWl a (by decide) (by decide)
    have e1 : hFr (folW h l W a) = (f : Int) + z := by
      have := m.n16
      rw [hFr, m.at, if_neg (by omega), if_pos rfl]
    have h1 := m.fr
    have h2 := m.fe
    rw [hOk, e0, e1, e2, e3, fineB, f1, Bool.true_and, decide_eq_true (show 0 ≤ hSp W ∧ hSp W ≤ 1 ∧ 0 ≤ hGc W ∧ hGc W ≤ 1 by omega), Bool.true_and, decide_eq_true (show 16 + hSp W * h ≤ (f : Int) + z ∧ (f : Int) + z ≤ 16 + hSp W * h + h by omega), Bool.true_and]
    rcases f5 with f5 | f5
    · rw [decide_eq_true f5, Bool.true_or]
    · rw [decide_eq_true (show hGc W = 1 ∧ 16 + hSp W * h ≤ hSc W ∧ hSc W ≤ (f : Int) + z by omega), Bool.or_true]
  · rw [show folW h l W a = W from if_neg e]
    exact hk
theorem ok_set (hk : hOk h l W = true) {i : Nat} (hi : 4 ≤ i) (v : Int) : hOk h l (W.set i v) = true := by
  rw [hOk, hSp, hFr, hGc, hSc, getD_set_ne (by omega), getD_set_ne (by omega), getD_set_ne (by omega), getD_set_ne (by omega)]
  exact hk
theorem fol_v (hWl : (W.length : Int) = 16 + 2 * h) (hn : NumC W) (a : Int) (h0 : 0 ≤ a) (h1 : a < 4294967296) : 0 ≤ folV h l W a ∧ folV h l W a < 4294967296 := by
  by_cases e : folE h l W a = 0
  · by_cases q : folM h l W a = true
    · obtain ⟨n, f, z, m⟩ := fol_mov hWl e q
      have h5 := fine_yes (folM_yes q).1
      have h6 := geOk_yes h5.1
      have h7 := m.fl
      rw [m.ev]
      omega
    · rw [folV, if_pos e, if_neg q, lk]
      split
      · exact ⟨Int.le_refl _, by decide⟩
      split
      · exact ⟨h0, h1⟩
      split
      · exact ⟨Int.le_refl _, by decide⟩
      split
      · split
        · rename_i q1 q2
          have := fwOk_yes q1
          rw [show (fwA (W.getD a.toNat 0), true).1 = fwA (W.getD a.toNat 0) from rfl, fwA, if_pos q1]
          omega
        · exact ⟨Int.le_refl _, by decide⟩
      split
      · exact ⟨h0, h1⟩
      · exact ⟨Int.le_refl _, by decide⟩
  · rw [folV_no e]
    exact ⟨Int.le_refl _, by decide⟩
theorem cel_num (hWl : (W.length : Int) = 16 + 2 * h) (hn : NumC W) (k : Nat) : NumC (celW h l W k) := by
  unfold celW
  split
  · have := fol_v (l := l) hWl hn (W.getD k 0) (hn k).1 (hn k).2
    exact (fol_num hWl hn _).set k this.1 this.2
  · exact hn
theorem cel_ok (hWl : (W.length : Int) = 16 + 2 * h) (hk : hOk h l W = true) {k : Nat} (h4 : 4 ≤ k) : hOk h l (celW h l W k) = true := by
  unfold celW
  split
  · exact ok_set (fol_ok hWl hk _) h4 _
  · exact hk
theorem cel_low (hWl : (W.length : Int) = 16 + 2 * h) {k i : Nat} (h4 : 4 ≤ k) (hi : i < 4) (h1 : i ≠ 1) : (celW h l W k).getD i 0 = W.getD i 0 := by
  unfold celW
  split
  · rw [getD_set_ne (by omega), fol_low hWl _ (by omega) h1]
  · rfl
theorem cel_fr (hWl : (W.length : Int) = 16 + 2 * h) {k : Nat} (h4 : 4 ≤ k) : hFr W ≤ hFr (celW h l W k) := by
  unfold celW
  split
  · rw [hFr, hFr, getD_set_ne (by omega)]
    exact fol_fr hWl _
  · exact Int.le_refl _
end
end Go.Proofs.YtbghglkplbnnkaaGreatDoor
-- HeapStep
namespace Go.Proofs.YtbghglkplbnnkaaGreatDoor
open Go.RowKit Sec
open Go.Proofs.YtbghglkplbnnkaaGreatDoor.Bk

def slotsGo (h l : Int) (W : List Int) (a : Nat) : Nat → Int × List Int
  | 0 => (0, W)
  | i + 1 => if (slotsGo h l W a i).1 = 0 then (celE h l (slotsGo h l W a i).2 (a + 1 + i), celW h l (slotsGo h l W a i).2 (a + 1 + i)) else slotsGo h l W a i
def stepGo (h l : Int) : Nat → List Int → Int → Bool × Int × List Int
  | 0, W, _ => (true, 0, W)
  | k + 1, W, n =>
    if hSc W = hFr W then (true, 0, (W.set 2 0).set 3 0)
    else if n = 0 then (false, 0, W)
    else if hdOk (W.getD (hSc W).toNat 0) = false ∨ hFr W < hSc W + 1 + prS (W.getD (hSc W).toNat 0) + prW (W.getD (hSc W).toNat 0) then (false, 4, W)
    else if (slotsGo h l W (hSc W).toNat (prS (W.getD (hSc W).toNat 0)).toNat).1 = 0 then
      stepGo h l k ((slotsGo h l W (hSc W).toNat (prS (W.getD (hSc W).toNat 0)).toNat).2.set 3 (hSc W + 1 + prS (W.getD (hSc W).toNat 0) + prW (W.getD (hSc W).toNat 0))) (n - 1)
    else (false, (slotsGo h l W (hSc W).toNat (prS (W.getD (hSc W).toNat 0)).toNat).1, (slotsGo h l W (hSc W).toNat (prS (W.getD (hSc W).toNat 0)).toNat).2)
def stp (h l : Int) (W : List Int) (n : Int) : Bool × Int × List Int :=
  if hOk h l W = false ∨ n < 0 then (false, 1, W) else if hGc W = 0 then (true, 0, W) else stepGo h l 1000 W n
structure Keeps (h l : Int) (W V : List Int) : Prop where
  len : V.length = W.length
  ok : hOk h l V = true
  num : NumC V
  sp : hSp V = hSp W
  gc : hGc V = hGc W
  fr : hFr W ≤ hFr V
theorem Keeps.cel {h l : Int} {W V : List Int} (k : Keeps h l W V) (hWl : (W.length : Int) = 16 + 2 * h) {m : Nat} (hm : 4 ≤ m) : Keeps h l W (celW h l V m) ∧ hSc (celW h l V m) = hSc V :=
  have hV : (V.length : Int) = 16 + 2 * h := by rw [k.len]; exact hWl
  ⟨⟨(celW_len h l V m).trans k.len, cel_ok hV k.ok hm, cel_num hV k.num m, (cel_low hV hm (by decide) (by decide)).trans k.sp, (cel_low hV hm (by decide) (by decide)).trans k.gc, Int.le_trans k.fr (cel_fr hV hm)⟩, cel_low hV hm (by decide) (by decide)⟩
theorem slotsGo_keeps {h l : Int} {W V : List Int} (k : Keeps h l W V) (hWl : (W.length : Int) = 16 + 2 * h) {a : Nat} (ha : 4 ≤ a) : ∀ i, Keeps h l W (slotsGo h l V a i).2 ∧ hSc (slotsGo h l V a i).2 = hSc V ∧ hFr V ≤ hFr (slotsGo h l V a i).2
  | 0 => ⟨k, rfl, Int.le_refl _⟩
  | i + 1 => by
    obtain ⟨k1, k2, k3⟩ := slotsGo_keeps k hWl ha i
    rw [slotsGo]
    split
    · have := k1.cel hWl (m := a + 1 + i) (by omega)
      have hV : (((slotsGo h l V a i).2).length : Int) = 16 + 2 * h := by rw [k1.len]; exact hWl
      exact ⟨this.1, this.2.trans k2, Int.le_trans k3 (cel_fr hV (by omega))⟩
    · exact ⟨k1, k2, k3⟩
theorem slotsGo_err {h l : Int} {W : List Int} {a i : Nat} (e : (slotsGo h l W a i).1 ≠ 0) : ∀ j, i ≤ j → slotsGo h l W a j = slotsGo h l W a i
  | 0, hj => by
    obtain rfl : i = 0 := by omega
    rfl
  | j + 1, hj => by
    by_cases q : i = j + 1
    · rw [q]
    · have := slotsGo_err e j (by omega)
      rw [slotsGo, if_neg (by rw [this]; exact e), this]
theorem Keeps.scan {h l : Int} {W V : List Int} (k : Keeps h l W V) (hWl : (W.length : Int) = 16 + 2 * h) {x : Int} (h1 : hGc V = 1) (h2 : hSc V ≤ x) (h3 : x ≤ hFr V) : Keeps h l W (V.set 3 x) ∧ hSc (V.set 3 x) = x := by
  obtain ⟨f1, f2, f3, f4, f5⟩ := fine_yes k.ok
  have hq := geOk_yes f1
  have hl : 3 < V.length := by
    have := k.len
    omega
  have e0 : hSp (V.set 3 x) = hSp V := getD_set_ne (by decide)
  have e1 : hFr (V.set 3 x) = hFr V := getD_set_ne (by decide)
  have e2 : hGc (V.set 3 x) = hGc V := getD_set_ne (by decide)
  have e3 : hSc (V.set 3 x) = x := getD_set_eq hl
  have hb : 0 ≤ hSp V * h ∧ hSp V * h ≤ h := by rcases f2 with e | e <;> rw [e] <;> omega
  have h5 : 16 + hSp V * h ≤ hSc V := by
    rcases f5 with f5 | f5
    · omega
    · exact f5.2.1
  refine ⟨⟨by rw [List.length_set, k.len], ?_, k.num.set 3 (by omega) (by omega), e0.trans k.sp, e2.trans k.gc, by rw [e1]; exact k.fr⟩, e3⟩
  rw [hOk, e0, e1, e2, e3, fineB, f1, Bool.true_and, decide_eq_true (show 0 ≤ hSp V ∧ hSp V ≤ 1 ∧ 0 ≤ hGc V ∧ hGc V ≤ 1 by omega), Bool.true_and, decide_eq_true f4, Bool.true_and,
    decide_eq_true (show hGc V = 1 ∧ 16 + hSp V * h ≤ x ∧ x ≤ hFr V by omega), Bool.or_true]
theorem step_facts {h l : Int} {W V : List Int} {j : Nat} (hWl : (W.length : Int) = 16 + 2 * h) (hgc : hGc W = 1) (k : Keeps h l W V) (hF : 16 + hSp W * h + (1000 - (j : Int)) ≤ hSc V) :
    ∃ a fr : Nat, hSc V = (a : Int) ∧ hFr V = (fr : Int) ∧ 16 ≤ a ∧ (a : Int) ≤ (fr : Int) ∧ (fr : Int) ≤ (W.length : Int) ∧ hGc V = 1 ∧ 600 ≤ j := by
  obtain ⟨f1, f2, f3, ⟨f4, f4'⟩, f5⟩ := fine_yes k.ok
  have hq := geOk_yes f1
  have hgV : hGc V = 1 := k.gc.trans hgc
  have hb : 0 ≤ hSp V * h ∧ hSp V * h ≤ h := by rcases f2 with e | e <;> rw [e] <;> omega
  have h5 : 16 + hSp V * h ≤ hSc V ∧ hSc V ≤ hFr V := by
    rcases f5 with f5 | f5
    · omega
    · exact f5.2
  rw [k.sp] at hb h5 f4 f4'
  clear f2 f3 f5
  exact ⟨(hSc V).toNat, (hFr V).toNat, by omega, by omega, by omega, by omega, by omega, hgV, by omega⟩
section
variable {B : Nat} {w w' : World} {b g c : Nat} {h l : Int} {W : List Int}
end
end Go.Proofs.YtbghglkplbnnkaaGreatDoor
