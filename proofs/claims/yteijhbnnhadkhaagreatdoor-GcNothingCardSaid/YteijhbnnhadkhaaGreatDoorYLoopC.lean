/- LoopFall, LoopDiskB -/
import Derived.Test.YteijhbnnhadkhaaGreatDoorYLoopB
import Derived.Test.YteijhbnnhadkhaaGreatDoorYLoopA
import Derived.Test.YteijhbnnhadkhaaGreatDoorYSecB
set_option linter.unusedVariables false
set_option linter.unusedSimpArgs false
-- LoopFall
/- Logs whose disk is armed: plain facts: what a fall of the power leaves, and what Scan tells behind it. No call. -/
namespace Go.Proofs.YteijhbnnhadkhaaGreatDoor
open Go.RowKit Sec
open Go.Proofs.YteijhbnnhadkhaaGreatDoor.Bk

/-- A disk that has power, on which nothing waits, whatever is armed. -/
structure Still (D : Dsk) (K : Nat) : Prop where
  on : D.on = true
  waits : D.waits = []
  same : D.lasts = D.now
  deeds : D.deeds ≤ K
/-- Behind a fall: each sector is as it was, or is one of those that were written. -/
structure Fell (S : List ByteArray) (D' : Dsk) (ps : List (Nat × ByteArray)) (K : Nat) : Prop where
  off : D'.on = false
  waits : D'.waits = []
  same : D'.lasts = D'.now
  len : D'.now.length = S.length
  each : ∀ k, k < S.length → D'.now[k]? = S[k]? ∨ ∃ y ∈ ps, y.1 = k ∧ D'.now[k]? = some y.2
  deeds : D'.deeds ≤ K

theorem down_f (E : Dsk) : E.down.on = E.on ∧ E.down.now = E.now ∧ E.down.lasts = E.lasts ∧ E.down.waits = E.waits ∧ E.down.deeds = E.deeds := by
  unfold Dsk.down
  split <;> exact ⟨rfl, rfl, rfl, rfl, rfl⟩
theorem crashL_or (D : Dsk) (kl : List Int) : ∀ m k, k < D.lasts.length → (D.crashL kl m)[k]? = D.lasts[k]? ∨ ∃ y ∈ D.waits, y.1 = k ∧ (D.crashL kl m)[k]? = some y.2
  | 0, _, _ => .inl rfl
  | m + 1, k, hk => by
    have ih := crashL_or D kl m k hk
    cases hx : D.waits[m]? with
    | none =>
      have : D.crashL kl (m + 1) = D.crashL kl m := by rw [Dsk.crashL, hx]
      rw [this]; exact ih
    | some x =>
      cases ho : odd (kl.getD m 0)
      · rw [crashL_even hx ho]; exact ih
      · rw [crashL_odd hx ho]
        by_cases e : x.1 = k
        · refine .inr ⟨x, List.mem_of_getElem? hx, e, ?_⟩
          rw [← e, List.getElem?_set_self (by rw [crashL_len, e]; exact hk)]
        · rw [List.getElem?_set_ne e]; exact ih
theorem fell_crash (D : Dsk) (kl : List Int) (K : Nat) (hd : D.deeds ≤ K) : Fell D.lasts (D.crash kl) D.waits K :=
  ⟨rfl, rfl, rfl, crashL_len D kl _, fun k hk => crashL_or D kl _ k hk, hd⟩
theorem barL_all (D : Dsk) : D.barL D.waits.length = setAll D.lasts D.waits := by
  have go : ∀ m, m ≤ D.waits.length → D.barL m = setAll D.lasts (D.waits.take m) := by
    intro m
    induction m with
    | zero => intro _; rfl
    | succ m ih =>
      intro hm
      rw [barL_step (List.getElem?_eq_getElem (show m < D.waits.length by omega)), ih (by omega), List.take_succ_eq_append_getElem (by omega), setAll_app]
      rfl
  rw [go _ (Nat.le_refl _), List.take_length]

theorem wrGo_all (fr n : Nat) (n1 : 1 ≤ n) : ∀ (L : List Ent) (D : Dsk), D.on = true → fr + n ≤ D.lasts.length → (∀ g ∈ L, 0 ≤ g.l) → ∃ D2 x, wrGo fr n D L = (D2, x) ∧
    ((x = 0 ∧ D2.on = true ∧ D2.now = setAll D.now (L.map (putAt fr n)) ∧ D2.lasts = D.lasts ∧ D2.waits = D.waits ++ L.map (putAt fr n) ∧ D2.deeds = D.deeds + L.length) ∨ (x = 3 ∧ Fell D.lasts D2 (D.waits ++ L.map (putAt fr n)) (D.deeds + L.length)))
  | [], D, hon, _, _ => ⟨D, 0, rfl, .inl ⟨rfl, hon, rfl, rfl, by simp, rfl⟩⟩
  | g :: r, D, hon, hl, hg => by
    have g0 := hg g (by simp)
    obtain ⟨m, hm⟩ := Int.eq_ofNat_of_zero_le g0
    have hpos : ((fr : Int) + g.l % (n : Int)) = ((fr + m % n : Nat) : Int) := by rw [hm]; simp
    have hput : putAt fr n g = (fr + m % n, enB g) := by rw [putAt, hm]; rfl
    have hmod := Nat.mod_lt m (show 0 < n by omega)
    have hmay : D.mayW ((fr : Int) + g.l % (n : Int)) (enB g) = 0 := by
      rw [hpos]
      have : D.has ((fr + m % n : Nat) : Int) = true := by simp only [Dsk.has, decide_eq_true_eq]; omega
      rw [Dsk.mayW, hon, if_pos rfl, this, enB_size]
      rfl
    cases hf : D.fallsNow
    · have hw : wrD D ((fr : Int) + g.l % (n : Int)) (enB g) = (((D.push (fr + m % n) (enB g)).down.deed), 0) := by
        rw [wrD, if_neg (by rw [hmay]; decide), hf, hpos]
        rfl
      obtain ⟨f1, f2, f3, f4, f5⟩ := down_f (D.push (fr + m % n) (enB g))
      obtain ⟨D2, x, h1, h2⟩ := wrGo_all fr n n1 r (D.push (fr + m % n) (enB g)).down.deed (f1.trans hon) (by show fr + n ≤ (D.push (fr + m % n) (enB g)).down.lasts.length; rw [f3]; exact hl) (fun y hy => hg y (by simp [hy]))
      have e2 : (D.push (fr + m % n) (enB g)).down.deed.now = D.now.set (fr + m % n) (enB g) := f2
      have e3 : (D.push (fr + m % n) (enB g)).down.deed.lasts = D.lasts := f3
      have e4 : (D.push (fr + m % n) (enB g)).down.deed.waits = D.waits ++ [(fr + m % n, enB g)] := f4
      have e5 : (D.push (fr + m % n) (enB g)).down.deed.deeds = D.deeds + 1 := by show (D.push (fr + m % n) (enB g)).down.deeds + 1 = _; rw [f5]; rfl
      refine ⟨D2, x, by rw [wrGo, hw, if_pos rfl]; exact h1, ?_⟩
      rw [e2, e3, e4, e5] at h2
      rcases h2 with ⟨x0, k1, k2, k3, k4, k5⟩ | ⟨x3, k⟩
      · refine .inl ⟨x0, k1, ?_, k3, ?_, ?_⟩
        · rw [k2, List.map_cons, setAll, hput]
        · rw [k4, List.map_cons, hput, List.append_assoc]; rfl
        · rw [k5]; simp; omega
      · refine .inr ⟨x3, ?_⟩
        rw [List.map_cons, hput, show D.waits ++ (fr + m % n, enB g) :: r.map (putAt fr n) = D.waits ++ [(fr + m % n, enB g)] ++ r.map (putAt fr n) by rw [List.append_assoc]; rfl]
        exact ⟨k.off, k.waits, k.same, k.len, k.each, by have := k.deeds; simp; omega⟩
    · have hw : wrD D ((fr : Int) + g.l % (n : Int)) (enB g) = ((D.push (fr + m % n) (enB g)).crash D.keep, 3) := by
        rw [wrD, if_neg (by rw [hmay]; decide), hf, hpos]
        rfl
      refine ⟨_, 3, by rw [wrGo, hw, if_neg (show ¬ (3 : Int) = 0 by decide)], .inr ⟨rfl, ?_⟩⟩
      have k := fell_crash (D.push (fr + m % n) (enB g)) D.keep (D.deeds + (g :: r).length) (by show D.deeds ≤ _; omega)
      refine ⟨k.off, k.waits, k.same, k.len, fun i hi => ?_, k.deeds⟩
      rcases k.each i hi with q | ⟨y, hy, q1, q2⟩
      · exact .inl q
      · refine .inr ⟨y, ?_, q1, q2⟩
        have hy' : y ∈ D.waits ++ [(fr + m % n, enB g)] := hy
        rw [List.map_cons, hput]
        rcases List.mem_append.1 hy' with r | r
        · exact List.mem_append_left _ r
        · obtain rfl : y = _ := by simpa using r
          exact List.mem_append_right _ (by simp)
section
variable {D D' : Dsk} {fr n hd nx : Nat} {ep : Int} {all : List Chg}
end
end Go.Proofs.YteijhbnnhadkhaaGreatDoor
-- LoopDiskB
/- The disk, and blocks that it hasn't got: On, Power, Crash, Arm. -/
namespace Go.Proofs.YteijhbnnhadkhaaGreatDoor
open Go.RowKit Sec

/-- Numbers that lie below block B. -/
def LowI (B : Nat) (w : World) (ka : Option Addr) (kl : List Int) : Prop := ∀ j u, kl[j]? = some u → ∃ b : Addr, ka = some b ∧ b.block < B ∧ w.cell? (b.add j) = some (.int .i64 u)
theorem LowI.off {B : Nat} {w : World} {ka : Option Addr} {kl : List Int} (h : LowI B w ka kl) (a : Addr) (h0 : 0 < kl.length) (ha : ka = some a) : a.block < B := by
  obtain ⟨b, hb, hlt, _⟩ := h 0 _ (List.getElem?_eq_getElem h0)
  rw [hb] at ha
  obtain rfl : b = a := by simpa using ha
  exact hlt
theorem LowI.below {B : Nat} {w w' : World} {ka : Option Addr} {kl : List Int} (h : LowI B w ka kl) (b : Below B w w') : LowI B w' ka kl := fun j u hu => by
  obtain ⟨a, h1, h2, h3⟩ := h j u hu
  exact ⟨a, h1, h2, (World.cell?_of_block (a := a.add j) (b.block _ (by rw [show (a.add j).block = a.block by unfold Addr.add; split <;> rfl]; exact h2))).trans h3⟩
section
variable {B : Nat} {G : Nat → Prop} {w w' : World} {p : Nat} {D : Dsk}
theorem On_k (h : AtK B G w p D) : Calls Tryz.prog 169 #[.pointer (some ⟨p, 0, none⟩)] w fun e w' => e = .returned (.bool D.on) ∧ w' = w := by
  obtain ⟨_, y, rfl, hi, _, _⟩ := h
  exact On_is y D w hi
end
end Go.Proofs.YteijhbnnhadkhaaGreatDoor
