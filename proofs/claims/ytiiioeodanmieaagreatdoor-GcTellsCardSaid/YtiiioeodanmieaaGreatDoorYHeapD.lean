import Derived.Test.YtiiioeodanmieaaGreatDoorYHeapC
set_option linter.unusedVariables false
set_option linter.unusedSimpArgs false
-- HeapInv
namespace Go.Proofs.YtiiioeodanmieaaGreatDoor
open Go.RowKit Sec
open Go.Proofs.YtiiioeodanmieaaGreatDoor.Bk

def NumC (W : List Int) : Prop := ∀ i : Nat, 0 ≤ W.getD i 0 ∧ W.getD i 0 < 4294967296
theorem NumC.ints {W : List Int} (h : NumC W) : Ints64 W := fun i => by
  have := h i
  omega
theorem getD_set (W : List Int) (i j : Nat) (v : Int) : (W.set i v).getD j 0 = if i = j ∧ j < W.length then v else W.getD j 0 := by
  rw [List.getD_eq_getElem?_getD, List.getElem?_set, List.getD_eq_getElem?_getD]
  by_cases e : i = j
  · subst e
    rw [if_pos rfl]
    by_cases l : i < W.length
    · rw [if_pos l, if_pos ⟨rfl, l⟩]
      rfl
    · rw [if_neg l, if_neg (fun z => l z.2), List.getElem?_eq_none (by omega)]
  · rw [if_neg e, if_neg (fun z => e z.1)]
theorem getD_set_ne {W : List Int} {i j : Nat} {v : Int} (h : i ≠ j) : (W.set i v).getD j 0 = W.getD j 0 := by rw [getD_set, if_neg (fun z => h z.1)]
theorem getD_set_eq {W : List Int} {i : Nat} {v : Int} (h : i < W.length) : (W.set i v).getD i 0 = v := by rw [getD_set, if_pos ⟨rfl, h⟩]
theorem NumC.set {W : List Int} (h : NumC W) (i : Nat) {v : Int} (h0 : 0 ≤ v) (h1 : v < 4294967296) : NumC (W.set i v) := fun j => by
  rw [getD_set]
  split
  · exact ⟨h0, h1⟩
  · exact h j
theorem NumC.cpfill {W : List Int} (h : NumC W) (a f : Nat) : ∀ n, NumC (cpfill W a f n)
  | 0 => h
  | n + 1 => (NumC.cpfill h a f n).set _ (NumC.cpfill h a f n _).1 (NumC.cpfill h a f n _).2
theorem cpfill_at (W : List Int) (a f : Nat) (i : Nat) : ∀ n, (f + n ≤ a ∨ a + n ≤ f) → f + n ≤ W.length → (cpfill W a f n).getD i 0 = if f ≤ i ∧ i < f + n then W.getD (a + (i - f)) 0 else W.getD i 0
  | 0, _, _ => by rw [cpfill, if_neg (by omega)]
  | n + 1, hd, hl => by
    have ih := fun j => cpfill_at W a f j n (by omega) (by omega)
    rw [cpfill, getD_set, cpfill_len]
    by_cases e : f + n = i
    · rw [if_pos ⟨e, by omega⟩, if_pos (by omega), cpfill_at W a f (a + n) n (by omega) (by omega), if_neg (by omega), show a + n = a + (i - f) by omega]
    · rw [if_neg (fun z => e z.1), cpfill_at W a f i n (by omega) (by omega)]
      by_cases q : f ≤ i ∧ i < f + n
      · rw [if_pos q, if_pos (by omega)]
      · rw [if_neg q, if_neg (by omega)]
structure Mov (h l : Int) (W : List Int) (a : Int) (n f z : Nat) : Prop where
  ea : a = (n : Int)
  n16 : 16 ≤ n
  f16 : 16 ≤ f
  z1 : 1 ≤ z
  z46 : z ≤ 46
  fr : hFr W = (f : Int)
  sz : (z : Int) = folZ W a
  nl : n + z ≤ W.length
  fl : f + z ≤ W.length
  ap : f + z ≤ n ∨ n + z ≤ f
  fe : (f : Int) + z ≤ 16 + hSp W * h + h
  ev : folV h l W a = (f : Int)
  ew : folW h l W a = ((cpfill W n f z).set 1 ((f : Int) + z)).set n (33554432 + f)
theorem fol_mov {h l : Int} {W : List Int} {a : Int} (hWl : (W.length : Int) = 16 + 2 * h) (e : folE h l W a = 0) (q : folM h l W a = true) : ∃ n f z, Mov h l W a n f z := by
  obtain ⟨q1, q2, q3, q4, q5⟩ := folM_yes q
  obtain ⟨n, rfl, m1, m2, m3, m4, m5⟩ := folM_at q
  obtain ⟨f1, f2, f3, f4, f5⟩ := fine_yes q1
  have hq := geOk_yes f1
  have hm : 0 ≤ hSp W * h ∧ hSp W * h ≤ h := by rcases f2 with x | x <;> rw [x] <;> omega
  have hmm : hSp W * h + (1 - hSp W) * h = h := by rw [Int.sub_mul, Int.one_mul]; omega
  have hp := shOk_yes (pr_range (W.getD n 0))
  have hsz : folZ W (n : Int) = 1 + prS (W.getD n 0) + prW (W.getD n 0) := by rw [folZ, Int.toNat_natCast]
  have room : ¬ 16 + hSp W * h + h - hFr W < folZ W (n : Int) := fun r => by
    rw [folE, if_neg (by rw [q1]; decide), if_neg (by rw [q2]; decide), if_pos ⟨q, r⟩] at e
    exact absurd e (by decide)
  obtain ⟨z, hz⟩ := Int.eq_ofNat_of_zero_le (show 0 ≤ folZ W (n : Int) by omega)
  obtain ⟨f, hf⟩ := Int.eq_ofNat_of_zero_le (show 0 ≤ hFr W by omega)
  refine ⟨n, f, z, rfl, by omega, by omega, by omega, by omega, hf, hz.symm, by omega, by omega, ?_, by omega, ?_, ?_⟩
  · rcases f2 with x | x
    · rw [x] at m1 m5 f4 hmm room
      omega
    · rw [x] at m1 m5 f4 hmm room
      omega
  · rw [folV, if_pos e, if_pos q, hf]
  · rw [folW, if_pos ⟨e, q⟩, hf, hz, Int.toNat_natCast, Int.toNat_natCast, Int.toNat_natCast]
section
variable {h l : Int} {W : List Int} {a : Int} {n f z : Nat}
theorem Mov.at (m : Mov h l W a n f z) (i : Nat) : (folW h l W a).getD i 0 = if i = n then 33554432 + (f : Int) else if i = 1 then (f : Int) + z else if f ≤ i ∧ i < f + z then W.getD (n + (i - f)) 0 else W.getD i 0 := by
  have h1 := m.n16
  have h2 := m.nl
  have h3 := m.z1
  rw [m.ew, getD_set, List.length_set, cpfill_len]
  by_cases e : n = i
  · rw [if_pos ⟨e, by omega⟩, if_pos e.symm]
  · rw [if_neg (fun x => e x.1), if_neg (fun x => e x.symm), getD_set, cpfill_len]
    by_cases e1 : 1 = i
    · rw [if_pos ⟨e1, by omega⟩, if_pos e1.symm]
    · rw [if_neg (fun x => e1 x.1), if_neg (fun x => e1 x.symm), cpfill_at W n f i z m.ap m.fl]
theorem fol_fr (hWl : (W.length : Int) = 16 + 2 * h) (a : Int) : hFr W ≤ hFr (folW h l W a) := by
  by_cases e : folE h l W a = 0 ∧ folM h l W a = true
  · obtain ⟨n, f, z, m⟩ := fol_mov hWl e.1 e.2
    have h1 := m.n16
    rw [m.fr, hFr, m.at, if_neg (by omega), if_pos rfl]
    omega
  · rw [show folW h l W a = W from if_neg e]
    exact Int.le_refl _
theorem fol_low (hWl : (W.length : Int) = 16 + 2 * h) (a : Int) {i : Nat} (hi : i < 16) (h1 : i ≠ 1) : (folW h l W a).getD i 0 = W.getD i 0 := by
  by_cases e : folE h l W a = 0 ∧ folM h l W a = true
  · obtain ⟨n, f, z, m⟩ := fol_mov hWl e.1 e.2
    have := m.n16
    have := m.f16
    rw [m.at, if_neg (by omega), if_neg h1, if_neg (by omega)]
  · rw [show folW h l W a = W from if_neg e]
theorem fol_num (hWl : (W.length : Int) = 16 + 2 * h) (hn : NumC W) (a : Int) : NumC (folW h l W a) := by
  by_cases e : folE h l W a = 0 ∧ folM h l W a = true
  · obtain ⟨n, f, z, m⟩ := fol_mov hWl e.1 e.2
    have h1 := m.fr
    have h2 := hn 1
    have h3 : W.getD 1 0 = (f : Int) := h1
    have h4 := m.z46
    have h5 := fine_yes (folM_yes e.2).1
    have h6 := geOk_yes h5.1
    have h7 := m.fl
    rw [m.ew]
    exact ((hn.cpfill n f z).set 1 (by omega) (by omega)).set n (by omega) (by omega)
  · rw [show folW h l W a = W from if_neg e]
    exact hn
theorem fol_ok (hWl : (W.length : Int) = 16 + 2 * h) (hk : hOk h l W = true) (a : Int) : hOk h l (folW h l W a) = true := by
  by_cases e : folE h l W a = 0 ∧ folM h l W a = true
  · obtain ⟨n, f, z, m⟩ := fol_mov hWl e.1 e.2
    obtain ⟨f1, f2, f3, f4, f5⟩ := fine_yes hk
    have e0 : hSp (folW h l W a) = hSp W := fol_low hWl a (by decide) (by decide)
    have e2 : hGc (folW h l W a) = hGc W := fol_low hWl a (by decide) (by decide)
    have e3 : hSc (folW h l W a) = hSc W := fol_low hWl a (by decide) (by decide)
    have e1 : hFr (folW h l W a) = (f : Int) + z := by
      have := m.n16
      rw [hFr, m.at, if_neg (by omega), if_pos rfl]
    have h1 := m.fr
    have h2 := m.fe
    rw [hOk, e0, e1, e2, e3, fineB, f1, Bool.true_and, decide_eq_true (show 0 ≤ hSp W ∧ hSp W ≤ 1 ∧ 0 ≤ hGc W ∧ hGc W ≤ 1 by omega), Bool.true_and, decide_eq_true (show 16 + hSp W * h ≤ (f : Int) + z ∧ (f : Int) + z ≤ 16 + hSp W * h + h by omega), Bool.true_and]
    rcases f5 with f5 | f5
    · rw [decide_eq_true f5, Bool.true_or]
    · rw [decide_eq_true (show hGc W = 1 ∧ 16 + hSp W * h ≤ hSc W ∧ hSc W ≤ (f : Int) + z by omega), Bool.or_true]
  · rw [show folW h l W a = W from if_neg e]
    exact hk
theorem ok_set (hk : hOk h l W = true) {i : Nat} (hi : 4 ≤ i) (v : Int) : hOk h l (W.set i v) = true := by
  rw [hOk, hSp, hFr, hGc, hSc, getD_set_ne (by omega), getD_set_ne (by omega), getD_set_ne (by omega), getD_set_ne (by omega)]
  exact hk
theorem fol_v (hWl : (W.length : Int) = 16 + 2 * h) (hn : NumC W) (a : Int) (h0 : 0 ≤ a) (h1 : a < 4294967296) : 0 ≤ folV h l W a ∧ folV h l W a < 4294967296 := by
  by_cases e : folE h l W a = 0
  · by_cases q : folM h l W a = true
    · obtain ⟨n, f, z, m⟩ := fol_mov hWl e q
      have h5 := fine_yes (folM_yes q).1
      have h6 := geOk_yes h5.1
      have h7 := m.fl
      rw [m.ev]
      omega
    · rw [folV, if_pos e, if_neg q, lk]
      split
      · exact ⟨Int.le_refl _, by decide⟩
      split
      · exact ⟨h0, h1⟩
      split
      · exact ⟨Int.le_refl _, by decide⟩
      split
      · split
        · rename_i q1 q2
          have := fwOk_yes q1
          rw [show (fwA (W.getD a.toNat 0), true).1 = fwA (W.getD a.toNat 0) from rfl, fwA, if_pos q1]
          omega
        · exact ⟨Int.le_refl _, by decide⟩
      split
      · exact ⟨h0, h1⟩
      · exact ⟨Int.le_refl _, by decide⟩
  · rw [folV_no e]
    exact ⟨Int.le_refl _, by decide⟩
theorem cel_num (hWl : (W.length : Int) = 16 + 2 * h) (hn : NumC W) (k : Nat) : NumC (celW h l W k) := by
  unfold celW
  split
  · have := fol_v (l := l) hWl hn (W.getD k 0) (hn k).1 (hn k).2
    exact (fol_num hWl hn _).set k this.1 this.2
  · exact hn
theorem cel_ok (hWl : (W.length : Int) = 16 + 2 * h) (hk : hOk h l W = true) {k : Nat} (h4 : 4 ≤ k) : hOk h l (celW h l W k) = true := by
  unfold celW
  split
  · exact ok_set (fol_ok hWl hk _) h4 _
  · exact hk
theorem cel_low (hWl : (W.length : Int) = 16 + 2 * h) {k i : Nat} (h4 : 4 ≤ k) (hi : i < 4) (h1 : i ≠ 1) : (celW h l W k).getD i 0 = W.getD i 0 := by
  unfold celW
  split
  · rw [getD_set_ne (by omega), fol_low hWl _ (by omega) h1]
  · rfl
theorem cel_fr (hWl : (W.length : Int) = 16 + 2 * h) {k : Nat} (h4 : 4 ≤ k) : hFr W ≤ hFr (celW h l W k) := by
  unfold celW
  split
  · rw [hFr, hFr, getD_set_ne (by omega)]
    exact fol_fr hWl _
  · exact Int.le_refl _
end
end Go.Proofs.YtiiioeodanmieaaGreatDoor
-- HeapStep
namespace Go.Proofs.YtiiioeodanmieaaGreatDoor
open Go.RowKit Sec
open Go.Proofs.YtiiioeodanmieaaGreatDoor.Bk

theorem w64_in {x : Int} (h0 : -1000000 ≤ x) (h1 : x ≤ 1000000) : wrap64 x = x := by
  unfold wrap64
  omega
theorem three_sums {a : Nat} {N : Nat} {ps pw : Int} (h0 : a < N) (h1 : N ≤ 1000) (hp : 0 ≤ ps ∧ ps ≤ 15 ∧ 0 ≤ pw ∧ pw ≤ 30) : wrap64 ((a : Int) + 1) = (a : Int) + 1 ∧ wrap64 ((a : Int) + 1 + ps) = (a : Int) + 1 + ps ∧ wrap64 ((a : Int) + 1 + ps + pw) = (a : Int) + 1 + ps + pw :=
  ⟨w64_in (by omega) (by omega), w64_in (by omega) (by omega), w64_in (by omega) (by omega)⟩
theorem w64_dec {x : Int} (h0 : 1 ≤ x) (h1 : x ≤ 9223372036854775807) : wrap64 (x - 1) = x - 1 := by
  unfold wrap64
  omega
theorem slot_at {a i P N fr : Nat} {pw : Int} (h0 : 0 ≤ pw) (h1 : ¬ (fr : Int) < (a : Int) + 1 + (P : Int) + pw) (h2 : (fr : Int) ≤ (N : Int)) (h3 : N ≤ 1000) (hi : i < P) : a + 1 + i < N ∧ ((a + 1 + i : Nat) : Int) = (a : Int) + 1 + (i : Int) ∧ wrap64 ((a : Int) + 1 + (i : Int)) = (a : Int) + 1 + (i : Int) :=
  ⟨by omega, by omega, w64_in (by omega) (by omega)⟩
def slotsGo (h l : Int) (W : List Int) (a : Nat) : Nat → Int × List Int
  | 0 => (0, W)
  | i + 1 => if (slotsGo h l W a i).1 = 0 then (celE h l (slotsGo h l W a i).2 (a + 1 + i), celW h l (slotsGo h l W a i).2 (a + 1 + i)) else slotsGo h l W a i
def stepGo (h l : Int) : Nat → List Int → Int → Bool × Int × List Int
  | 0, W, _ => (true, 0, W)
  | k + 1, W, n =>
    if hSc W = hFr W then (true, 0, (W.set 2 0).set 3 0)
    else if n = 0 then (false, 0, W)
    else if hdOk (W.getD (hSc W).toNat 0) = false ∨ hFr W < hSc W + 1 + prS (W.getD (hSc W).toNat 0) + prW (W.getD (hSc W).toNat 0) then (false, 4, W)
    else if (slotsGo h l W (hSc W).toNat (prS (W.getD (hSc W).toNat 0)).toNat).1 = 0 then
      stepGo h l k ((slotsGo h l W (hSc W).toNat (prS (W.getD (hSc W).toNat 0)).toNat).2.set 3 (hSc W + 1 + prS (W.getD (hSc W).toNat 0) + prW (W.getD (hSc W).toNat 0))) (n - 1)
    else (false, (slotsGo h l W (hSc W).toNat (prS (W.getD (hSc W).toNat 0)).toNat).1, (slotsGo h l W (hSc W).toNat (prS (W.getD (hSc W).toNat 0)).toNat).2)
def stp (h l : Int) (W : List Int) (n : Int) : Bool × Int × List Int :=
  if hOk h l W = false ∨ n < 0 then (false, 1, W) else if hGc W = 0 then (true, 0, W) else stepGo h l 1000 W n
structure Keeps (h l : Int) (W V : List Int) : Prop where
  len : V.length = W.length
  ok : hOk h l V = true
  num : NumC V
  sp : hSp V = hSp W
  gc : hGc V = hGc W
  fr : hFr W ≤ hFr V
theorem Keeps.cel {h l : Int} {W V : List Int} (k : Keeps h l W V) (hWl : (W.length : Int) = 16 + 2 * h) {m : Nat} (hm : 4 ≤ m) : Keeps h l W (celW h l V m) ∧ hSc (celW h l V m) = hSc V :=
  have hV : (V.length : Int) = 16 + 2 * h := by rw [k.len]; exact hWl
  ⟨⟨(celW_len h l V m).trans k.len, cel_ok hV k.ok hm, cel_num hV k.num m, (cel_low hV hm (by decide) (by decide)).trans k.sp, (cel_low hV hm (by decide) (by decide)).trans k.gc, Int.le_trans k.fr (cel_fr hV hm)⟩, cel_low hV hm (by decide) (by decide)⟩
theorem slotsGo_keeps {h l : Int} {W V : List Int} (k : Keeps h l W V) (hWl : (W.length : Int) = 16 + 2 * h) {a : Nat} (ha : 4 ≤ a) : ∀ i, Keeps h l W (slotsGo h l V a i).2 ∧ hSc (slotsGo h l V a i).2 = hSc V ∧ hFr V ≤ hFr (slotsGo h l V a i).2
  | 0 => ⟨k, rfl, Int.le_refl _⟩
  | i + 1 => by
    obtain ⟨k1, k2, k3⟩ := slotsGo_keeps k hWl ha i
    rw [slotsGo]
    split
    · have := k1.cel hWl (m := a + 1 + i) (by omega)
      have hV : (((slotsGo h l V a i).2).length : Int) = 16 + 2 * h := by rw [k1.len]; exact hWl
      exact ⟨this.1, this.2.trans k2, Int.le_trans k3 (cel_fr hV (by omega))⟩
    · exact ⟨k1, k2, k3⟩
theorem slotsGo_err {h l : Int} {W : List Int} {a i : Nat} (e : (slotsGo h l W a i).1 ≠ 0) : ∀ j, i ≤ j → slotsGo h l W a j = slotsGo h l W a i
  | 0, hj => by
    obtain rfl : i = 0 := by omega
    rfl
  | j + 1, hj => by
    by_cases q : i = j + 1
    · rw [q]
    · have := slotsGo_err e j (by omega)
      rw [slotsGo, if_neg (by rw [this]; exact e), this]
theorem Keeps.scan {h l : Int} {W V : List Int} (k : Keeps h l W V) (hWl : (W.length : Int) = 16 + 2 * h) {x : Int} (h1 : hGc V = 1) (h2 : hSc V ≤ x) (h3 : x ≤ hFr V) : Keeps h l W (V.set 3 x) ∧ hSc (V.set 3 x) = x := by
  obtain ⟨f1, f2, f3, f4, f5⟩ := fine_yes k.ok
  have hq := geOk_yes f1
  have hl : 3 < V.length := by
    have := k.len
    omega
  have e0 : hSp (V.set 3 x) = hSp V := getD_set_ne (by decide)
  have e1 : hFr (V.set 3 x) = hFr V := getD_set_ne (by decide)
  have e2 : hGc (V.set 3 x) = hGc V := getD_set_ne (by decide)
  have e3 : hSc (V.set 3 x) = x := getD_set_eq hl
  have hb : 0 ≤ hSp V * h ∧ hSp V * h ≤ h := by rcases f2 with e | e <;> rw [e] <;> omega
  have h5 : 16 + hSp V * h ≤ hSc V := by
    rcases f5 with f5 | f5
    · omega
    · exact f5.2.1
  refine ⟨⟨by rw [List.length_set, k.len], ?_, k.num.set 3 (by omega) (by omega), e0.trans k.sp, e2.trans k.gc, by rw [e1]; exact k.fr⟩, e3⟩
  rw [hOk, e0, e1, e2, e3, fineB, f1, Bool.true_and, decide_eq_true (show 0 ≤ hSp V ∧ hSp V ≤ 1 ∧ 0 ≤ hGc V ∧ hGc V ≤ 1 by omega), Bool.true_and, decide_eq_true f4, Bool.true_and,
    decide_eq_true (show hGc V = 1 ∧ 16 + hSp V * h ≤ x ∧ x ≤ hFr V by omega), Bool.or_true]
theorem step_facts {h l : Int} {W V : List Int} {j : Nat} (hWl : (W.length : Int) = 16 + 2 * h) (hgc : hGc W = 1) (k : Keeps h l W V) (hF : 16 + hSp W * h + (1000 - (j : Int)) ≤ hSc V) :
    ∃ a fr : Nat, hSc V = (a : Int) ∧ hFr V = (fr : Int) ∧ 16 ≤ a ∧ (a : Int) ≤ (fr : Int) ∧ (fr : Int) ≤ (W.length : Int) ∧ hGc V = 1 ∧ 600 ≤ j := by
  obtain ⟨f1, f2, f3, ⟨f4, f4'⟩, f5⟩ := fine_yes k.ok
  have hq := geOk_yes f1
  have hgV : hGc V = 1 := k.gc.trans hgc
  have hb : 0 ≤ hSp V * h ∧ hSp V * h ≤ h := by rcases f2 with e | e <;> rw [e] <;> omega
  have h5 : 16 + hSp V * h ≤ hSc V ∧ hSc V ≤ hFr V := by
    rcases f5 with f5 | f5
    · omega
    · exact f5.2
  rw [k.sp] at hb h5 f4 f4'
  clear f2 f3 f5
  exact ⟨(hSc V).toNat, (hFr V).toNat, by omega, by omega, by omega, by omega, by omega, hgV, by omega⟩
theorem step_scan {h l : Int} {W V : List Int} {a j P : Nat} {fr pw m : Int} {Z : Bool × Int × List Int} (hWl : (W.length : Int) = 16 + 2 * h) (hgc : hGc W = 1) (k : Keeps h l W V) (hF : 16 + hSp W * h + (1000 - ((j + 1 : Nat) : Int)) ≤ hSc V) (ha : hSc V = (a : Int)) (hfr : hFr V = fr) (ha16 : 16 ≤ a)
    (hz : Z = stepGo h l (j + 1) V m) (n1 : ¬ hSc V = hFr V) (n2 : ¬ m = 0) (r : ¬ (hdOk (V.getD a 0) = false ∨ fr < (a : Int) + 1 + prS (V.getD a 0) + prW (V.getD a 0))) (hP : prS (V.getD a 0) = (P : Int)) (hpw : prW (V.getD a 0) = pw) (hp0 : 0 ≤ pw) :
    ∃ SG : Nat → Int × List Int, SG 0 = (0, V) ∧ (∀ i, (SG i).1 = 0 → SG (i + 1) = (celE h l (SG i).2 (a + 1 + i), celW h l (SG i).2 (a + 1 + i))) ∧ (∀ i, Keeps h l W (SG i).2) ∧
      (∀ i, i < P → (SG (i + 1)).1 ≠ 0 → Z = (false, (SG (i + 1)).1, (SG (i + 1)).2)) ∧
      ((SG P).1 = 0 → Z = stepGo h l j ((SG P).2.set 3 ((a : Int) + 1 + P + pw)) (m - 1) ∧ Keeps h l W ((SG P).2.set 3 ((a : Int) + 1 + P + pw)) ∧ 16 + hSp W * h + (1000 - (j : Int)) ≤ hSc ((SG P).2.set 3 ((a : Int) + 1 + P + pw))) := by
  have hZ2 := hz
  rw [stepGo, if_neg n1, if_neg n2, ha, hfr, Int.toNat_natCast, if_neg r, hP, hpw, Int.toNat_natCast] at hZ2
  have r2 : ¬ fr < (a : Int) + 1 + P + pw := fun e => r (.inr (by rw [hP, hpw]; exact e))
  refine ⟨slotsGo h l V a, rfl, fun i e => by rw [slotsGo, if_pos e], fun i => (slotsGo_keeps k hWl (by omega) i).1, fun i hi e => ?_, fun e => ?_⟩
  · have := slotsGo_err e P (by omega)
    rw [this, if_neg e] at hZ2
    exact hZ2
  · rw [if_pos e] at hZ2
    obtain ⟨k1, k2, k3⟩ := slotsGo_keeps k hWl (show 4 ≤ a by omega) P
    have ks := k1.scan hWl (x := (a : Int) + 1 + P + pw) (k1.gc.trans hgc) (by rw [k2, ha]; omega) (by rw [hfr] at k3; omega)
    refine ⟨hZ2, ks.1, ?_⟩
    rw [ks.2]
    rw [ha] at hF
    omega
section
variable {B : Nat} {w w' : World} {b g c : Nat} {h l : Int} {W : List Int}
set_option maxRecDepth 100000 in
set_option maxHeartbeats 16000000 in
theorem rstep_is (k : HIs B w b h l W g c) (hWl : (W.length : Int) = 16 + 2 * h) (hr : NumC W) (n : Int) (hnm : n ≤ 9223372036854775807) : Calls Tryz.prog 20 #[.pointer (some ⟨b, 0, none⟩), .int .i64 n] w fun e w' => e = .returned (.tuple #[.bool (stp h l W n).1, .int .i64 (stp h l W n).2.1]) ∧ HIs B w' b h l (stp h l W n).2.2 g c ∧ HGo B g w w' := by
  have HR := Lib.hid (rright_is k)
  have HK := Lib.hid k
  have HLe := Lib.hid k.le'
  cases q1 : hOk h l W with
  | false =>
    rw [show stp h l W n = (false, 1, W) from if_pos (.inl q1)]
    rw [q1] at HR
    clear k q1 hWl hr
    go_enter Tryz.func20, Tryz.ntmps20
    go_wp2_with (go_at_call 56; refine HR.out.mono ?_; rintro e w1 ⟨rfl, b1⟩; have H1 := Lib.hid b1; clear b1)
    all_goals go_ret2
    all_goals exact ⟨rfl, HK.out.below H1.out, HGo.of_below HLe.out H1.out⟩
  | true =>
    rw [q1] at HR
    by_cases hn : n < 0
    · rw [show stp h l W n = (false, 1, W) from if_pos (.inr hn)]
      clear k q1 hWl hr
      go_enter Tryz.func20, Tryz.ntmps20
      go_wp2_with (go_at_call 56; refine HR.out.mono ?_; rintro e w1 ⟨rfl, b1⟩; have H1 := Lib.hid b1; clear b1)
      all_goals go_ret2
      all_goals exact ⟨rfl, HK.out.below H1.out, HGo.of_below HLe.out H1.out⟩
    · have n1 : ¬ (hOk h l W = false ∨ n < 0) := by rw [q1]; simp [hn]
      have hge := k.ge
      have HD := Lib.hid (fun u (y : Below w.heap.size w u) => (show u.cell? ⟨b, 2, none⟩ = some (.slice (some ⟨g, 0, none⟩) W.length c) ∧ u.cell? ⟨g, 2, none⟩ = some (.int .i64 (hGc W)) from ⟨(k.below y).cs.2.2, ((k.below y).at (i := 2) (by omega)).1⟩))
      have y2 : (2 : Int) < (W.length : Int) := by omega
      by_cases hg0 : hGc W = 0
      · rw [show stp h l W n = (true, 0, W) from by rw [stp, if_neg n1, if_pos hg0]]
        rw [hg0] at HD
        clear k q1 hWl hr n1 hg0 hge
        go_enter Tryz.func20, Tryz.ntmps20
        go_wp2_with (go_at_call 56; refine HR.out.mono ?_; rintro e w1 ⟨rfl, b1⟩; obtain ⟨d0, d1⟩ := HD.out _ b1; have H1 := Lib.hid b1; clear b1)
        all_goals go_ret2
        all_goals exact ⟨rfl, HK.out.below H1.out, HGo.of_below HLe.out H1.out⟩
      · obtain ⟨f1, f2, f3, ⟨f4, f4'⟩, f5⟩ := fine_yes q1
        have hq := geOk_yes f1
        have hg1 : hGc W = 1 := by omega
        have hm : 0 ≤ hSp W * h ∧ hSp W * h ≤ h := by rcases f2 with e | e <;> rw [e] <;> omega
        obtain ⟨Z, hZ⟩ : ∃ Z, Z = stp h l W n := ⟨_, rfl⟩
        rw [← hZ]
        have HZ : Hid (Z = stepGo h l 1000 W n) := Lib.hid (by rw [hZ, stp, if_neg n1, if_neg hg0])
        have HW := Lib.hid (And.intro hWl (And.intro hg1 (And.intro hm hq)))
        have HKe : Hid (Keeps h l W W) := Lib.hid ⟨rfl, q1, hr, rfl, rfl, Int.le_refl _⟩
        have hsc : 16 + hSp W * h ≤ hSc W := by
          rcases f5 with f5 | f5
          · omega
          · exact f5.2.1
        have HSc := Lib.hid hsc
        have hle := k.le
        rw [hg1] at HD
        clear k q1 hWl hr n1 hg0 hZ f1 f2 f3 f4 f4' f5 hq hm hsc hg1
        go_enter Tryz.func20, Tryz.ntmps20
        go_wp2_with (go_at_call 56; refine HR.out.mono ?_; rintro e w1 ⟨rfl, b1⟩; obtain ⟨d0, d1⟩ := HD.out _ b1; have H1 := Lib.hid b1; clear b1)
        clear d0 d1
        go_loopw [1] (fun i wr => ∃ (V : List Int) (m : Int) (j : Nat), i = .int .i64 m ∧ 0 ≤ m ∧ m ≤ 9223372036854775807 ∧ Hid (Z = stepGo h l j V m) ∧ Hid (Keeps h l W V) ∧ Hid (16 + hSp W * h + (1000 - (j : Int)) ≤ hSc V) ∧ Hid (HIs B wr b h l V g c ∧ HGo B g w wr)) (fun i _ => (intOf i).toNat)
        case atStart => exact ⟨W, n, 1000, rfl, by omega, hnm, HZ, HKe, Lib.hid (by have := HSc.out; omega), Lib.hid ⟨HK.out.below H1.out, HGo.of_below HLe.out H1.out⟩⟩
        case round =>
          clear HD HR HZ HKe HSc H1 HK hn hge y2 hnm
          obtain ⟨V, m, j, rfl, hm0, hm1, HZ, HKe, HF, HI⟩ := hrel
          obtain ⟨a, fr, ha, hfr, ha16, hafr, hfrl, hgV, hj⟩ := step_facts HW.out.1 HW.out.2.1 HKe.out HF.out
          obtain ⟨j, rfl⟩ : ∃ j', j = j' + 1 := ⟨j - 1, by omega⟩
          have hlen := HKe.out.len
          have hge := HI.out.1.ge
          rw [hlen] at hge
          have c2 := HI.out.1.cs.2.2
          rw [hlen] at c2
          obtain ⟨e3, e3'⟩ : wr.cell? ⟨g, 3, none⟩ = some (.int .i64 (a : Int)) ∧ wr.frozen? ⟨g, 3, none⟩ = false := by
            have := HI.out.1.at (i := 3) (by omega)
            rw [show V.getD 3 0 = (a : Int) from ha] at this
            exact this
          obtain ⟨e1, e1'⟩ : wr.cell? ⟨g, 1, none⟩ = some (.int .i64 (fr : Int)) ∧ wr.frozen? ⟨g, 1, none⟩ = false := by
            have := HI.out.1.at (i := 1) (by omega)
            rw [show V.getD 1 0 = (fr : Int) from hfr] at this
            exact this
          obtain ⟨e2, e2'⟩ : wr.cell? ⟨g, 2, none⟩ = some (.int .i64 1) ∧ wr.frozen? ⟨g, 2, none⟩ = false := by
            have := HI.out.1.at (i := 2) (by omega)
            rw [show V.getD 2 0 = (1 : Int) from hgV] at this
            exact this
          have y1 : (1 : Int) < (W.length : Int) := by omega
          have y2 : (2 : Int) < (W.length : Int) := by omega
          have y3 : (3 : Int) < (W.length : Int) := by omega
          have hgb := HI.out.1.ne
          have HGB := Lib.hid hgb
          by_cases haf : (a : Int) = (fr : Int)
          · have HX : Hid (Z = (true, 0, (V.set 2 0).set 3 0)) := Lib.hid (by rw [HZ.out, stepGo, if_pos (by rw [ha, hfr, haf])])
            obtain rfl : a = fr := by omega
            clear HZ HKe HF hgV ha hfr hlen hj haf
            go_wp2_with fail
            go_region
            all_goals go_wp2_with fail
            all_goals go_ret2
            all_goals
              refine ⟨by rw [HX.out]; rfl, ?_, ?_⟩
              · rw [HX.out]
                first
                  | exact (HI.out.1.set 2 0).set 3 0
                  | exact ((HI.out.1.set 2 0).set 3 0).drew
                  | (show HIs B _ b h l ((V.set 2 0).set 3 0) g c
                     rw [List.set_comm _ _ (by decide)]
                     first
                       | exact (HI.out.1.set 3 0).set 2 0
                       | exact ((HI.out.1.set 3 0).set 2 0).drew)
              · first
                  | exact (HI.out.2.trans (HGo.set HI.out.1.glt.1 _ _)).trans (HGo.set HI.out.1.glt.1 _ _)
                  | exact ((HI.out.2.trans (HGo.set HI.out.1.glt.1 _ _)).trans (HGo.set HI.out.1.glt.1 _ _)).drew
          · have nz : ¬ hSc V = hFr V := by rw [ha, hfr]; exact haf
            by_cases hm2 : m = 0
            · have HX : Hid (Z = (false, 0, V)) := Lib.hid (by rw [HZ.out, stepGo, if_neg nz, if_pos hm2])
              subst hm2
              clear HZ HKe HF hgV ha hfr hlen hj nz
              go_wp2_with fail
              all_goals go_ret2
              all_goals exact ⟨by rw [HX.out]; rfl, by rw [HX.out]; exact HI.out.1, HI.out.2⟩
            · have hal : a < W.length := by omega
              have hali : (a : Int) < (W.length : Int) := by omega
              have d0 := (HI.out.1.at (i := a) (by omega)).1
              have hp := shOk_yes (pr_range (V.getD a 0))
              have HP := Lib.hid (fun u => rparse_is (V.getD a 0) u)
              obtain ⟨hw1, hw2, hw3⟩ := three_sums hal hle hp
              by_cases r : hdOk (V.getD a 0) = false ∨ (fr : Int) < (a : Int) + 1 + prS (V.getD a 0) + prW (V.getD a 0)
              · have HX : Hid (Z = (false, 4, V)) := Lib.hid (by rw [HZ.out, stepGo, if_neg nz, if_neg hm2, ha, hfr, Int.toNat_natCast, if_pos r])
                clear HZ HKe HF hgV ha hfr hlen hj nz
                generalize prS (V.getD a 0) = ps at *
                generalize prW (V.getD a 0) = pw at *
                generalize hdOk (V.getD a 0) = ok at *
                generalize V.getD a 0 = v at *
                cases ok
                · clear r
                  go_wp2_with (go_at_call 61; refine (HP.out _).mono ?_; rintro e w' ⟨rfl, hw⟩; obtain rfl : wr = w' := hw.symm)
                  all_goals go_ret2
                  all_goals exact ⟨by rw [HX.out]; rfl, by rw [HX.out]; exact HI.out.1, HI.out.2⟩
                · have r2 : (fr : Int) < (a : Int) + 1 + ps + pw := by simpa using r
                  clear r
                  go_wp2_with (go_at_call 61; refine (HP.out _).mono ?_; rintro e w' ⟨rfl, hw⟩; obtain rfl : wr = w' := hw.symm)
                  all_goals go_ret2
                  all_goals exact ⟨by rw [HX.out]; rfl, by rw [HX.out]; exact HI.out.1, HI.out.2⟩
              · obtain ⟨P, hP⟩ := Int.eq_ofNat_of_zero_le hp.1
                obtain ⟨pw, hpw⟩ : ∃ pw, prW (V.getD a 0) = pw := ⟨_, rfl⟩
                have hp0 : 0 ≤ pw := by rw [← hpw]; exact hp.2.2.1
                obtain ⟨SG, hS0, hSS, hSK, hSE, hSN⟩ := step_scan HW.out.1 HW.out.2.1 HKe.out HF.out ha hfr ha16 HZ.out nz hm2 r hP hpw hp0
                have r1 : hdOk (V.getD a 0) = true := by
                  cases e : hdOk (V.getD a 0)
                  · exact absurd (.inl e) r
                  · rfl
                have r2 : ¬ (fr : Int) < (a : Int) + 1 + (P : Int) + pw := fun e => r (.inr (by rw [hP, hpw]; exact e))
                rw [hP, hpw, r1] at HP
                rw [hP] at hw2
                rw [hP, hpw] at hw3
                have HS := Lib.hid (And.intro hS0 (And.intro hSS (And.intro hSK (And.intro hSE hSN))))
                have HA : Hid (∀ i, i < P → a + 1 + i < W.length ∧ ((a + 1 + i : Nat) : Int) = (a : Int) + 1 + (i : Int) ∧ wrap64 ((a : Int) + 1 + (i : Int)) = (a : Int) + 1 + (i : Int)) := Lib.hid (fun i hi => slot_at hp0 r2 hfrl hle hi)
                have hwm := w64_dec (show 1 ≤ m by omega) hm1
                have HM : Hid (0 ≤ m - 1 ∧ m - 1 ≤ 9223372036854775807 ∧ (m - 1).toNat < m.toNat) := Lib.hid ⟨by omega, by omega, by omega⟩
                have hP15 : P ≤ 15 := by have := hp.2.1; omega
                clear HZ HKe HF hgV ha hfr hlen hj nz hS0 hSS hSK hSE hSN r r1 hp hP hpw
                generalize V.getD a 0 = v at *
                go_wp2_with (go_at_call 61; refine (HP.out _).mono ?_; rintro e w' ⟨rfl, hw⟩; obtain rfl : wr = w' := hw.symm)
                clear c2 e1 e1' e2 e2' e3 e3' d0 HP
                generalize wr = wo at *
                generalize (a : Int) = z at *
                go_loopw [10] (fun x wx => ∃ i : Nat, i ≤ P ∧ x = .int .i64 (i : Int) ∧ Hid ((SG i).1 = 0) ∧ Hid (HIs B wx b h l (SG i).2 g c ∧ HGo B g w wx)) (fun x _ => P - (intOf x).toNat)
                case atStart => exact ⟨0, Nat.zero_le _, rfl, Lib.hid (by rw [HS.out.1]), Lib.hid (by rw [HS.out.1]; exact HI.out)⟩
                case round =>
                  clear HI
                  obtain ⟨i, hi, rfl, H0, HI⟩ := hrel
                  by_cases hlt : i < P
                  · obtain ⟨z1, z2, z3⟩ := HA.out i hlt
                    have hi1 : (i : Int) < (P : Int) := Int.ofNat_lt.mpr hlt
                    have hkl := (HS.out.2.2.1 i).len
                    have HC := Lib.hid (rcell_is HI.out.1 (by rw [hkl]; exact HW.out.1) (HS.out.2.2.1 i).num.ints (a + 1 + i) (by rw [hkl]; exact z1))
                    rw [z2] at HC
                    have HN := Lib.hid (HS.out.2.1 i H0.out)
                    have HE := Lib.hid (HS.out.2.2.2.1 i hlt)
                    rw [HN.out] at HE
                    clear z1 z2 hkl
                    generalize celV h l (SG i).2 (a + 1 + i) = cv at *
                    generalize celE h l (SG i).2 (a + 1 + i) = ee at *
                    generalize celW h l (SG i).2 (a + 1 + i) = U at *
                    by_cases hee : ee = 0
                    · subst hee
                      clear HE
                      go_wp2_with (go_at_call 58
                                   refine HC.out.mono ?_
                                   rintro e w2 ⟨rfl, k1, o1⟩
                                   have H2 := Lib.hid (And.intro k1 (HI.out.2.trans o1))
                                   clear k1 o1)
                      exact ⟨⟨i + 1, hlt, by go_num, Lib.hid (by rw [HN.out]), Lib.hid (by rw [HN.out]; exact H2.out)⟩, by simp [intOf]; exact Nat.sub_lt_sub_left hlt (Nat.lt_succ_self i)⟩
                    · as_aux_lemma =>
                      have HX := Lib.hid (HE.out hee)
                      have hee2 : (ee != 0) = true := by simpa using hee
                      clear HE
                      go_wp2_with (go_at_call 58
                                   refine HC.out.mono ?_
                                   rintro e w2 ⟨rfl, k1, o1⟩
                                   have H2 := Lib.hid (And.intro k1 (HI.out.2.trans o1))
                                   clear k1 o1)
                      all_goals go_ret2
                      all_goals exact ⟨by rw [HX.out]; rfl, by rw [HX.out]; exact H2.out.1, H2.out.2⟩
                  · obtain rfl : i = P := Nat.le_antisymm hi (Nat.le_of_not_lt hlt)
                    have hnl : ¬ (i : Int) < (i : Int) := Int.lt_irrefl _
                    have hkl := (HS.out.2.2.1 i).len
                    have c2 := HI.out.1.cs.2.2
                    rw [hkl] at c2
                    obtain ⟨e3, e3'⟩ := HI.out.1.at (i := 3) (by rw [hkl]; exact Nat.lt_of_lt_of_le (by decide) hge)
                    have HN := Lib.hid (HS.out.2.2.2.2 H0.out)
                    clear hkl hlt hi
                    generalize (SG i).2.getD 3 0 = old at *
                    go_wp2_with fail
                    refine ⟨⟨(SG i).2.set 3 (z + 1 + i + pw), m - 1, j, rfl, HM.out.1, HM.out.2.1, Lib.hid HN.out.1, Lib.hid HN.out.2.1, Lib.hid HN.out.2.2, Lib.hid ⟨HI.out.1.set 3 _, HI.out.2.trans (HGo.set HI.out.1.glt.1 _ _)⟩⟩, HM.out.2.2⟩
end
end Go.Proofs.YtiiioeodanmieaaGreatDoor
