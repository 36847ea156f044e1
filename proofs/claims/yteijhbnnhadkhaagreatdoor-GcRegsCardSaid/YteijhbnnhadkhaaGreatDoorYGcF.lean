/- GcAll, GcReg -/
import Derived.Test.YteijhbnnhadkhaaGreatDoorYGcC
set_option linter.unusedVariables false
set_option linter.unusedSimpArgs false
-- GcAll
/- All, as data; a heap of which nothing is reached; objects of one size, one behind the other: what a collection leaves of them. Plain facts. -/
namespace Go.Proofs.YteijhbnnhadkhaaGreatDoor
open Go.RowKit

theorem newE_three (h l : Int) (W : List Int) (s x : Int) : (newE h l W s x = 1 ∧ (hOk h l W && shOk s x) = false) ∨ (newE h l W s x = 6 ∧ hOk h l W = true ∧ shOk s x = true ∧ 16 + hSp W * h + h - hFr W < 1 + s + x) ∨ (newE h l W s x = 0 ∧ hOk h l W = true ∧ shOk s x = true ∧ ¬ (16 + hSp W * h + h - hFr W < 1 + s + x)) := by
  unfold newE
  by_cases ok : (hOk h l W && shOk s x) = true
  · obtain ⟨q1, q2⟩ := (Bool.and_eq_true _ _).mp ok |> fun p => p
    rw [if_pos ok]
    by_cases room : 16 + hSp W * h + h - hFr W < 1 + s + x
    · rw [if_pos room]
      exact .inr (.inl ⟨rfl, q1, q2, room⟩)
    · rw [if_neg room]
      exact .inr (.inr ⟨rfl, q1, q2, room⟩)
  · rw [if_neg ok]
    exact .inl ⟨rfl, by simpa using ok⟩
/-- What All answers and leaves. -/
def alg (h l : Int) (W rs : List Int) : Int × List Int × List Int :=
  if hGc W = 1 then (if (stp h l W 10000).2.1 = 0 then (0, rs, (stp h l W 10000).2.2) else ((stp h l W 10000).2.1, [], (stp h l W 10000).2.2))
  else if (str h l W rs).1 = 0 then
    (if (stp h l (str h l W rs).2.2 10000).2.1 = 0 then (0, (str h l W rs).2.1, (stp h l (str h l W rs).2.2 10000).2.2)
     else ((stp h l (str h l W rs).2.2 10000).2.1, [], (stp h l (str h l W rs).2.2 10000).2.2))
  else ((str h l W rs).1, [], (str h l W rs).2.2)
theorem alg_yes {h l : Int} {W rs out V1 V2 : List Int} (g : hGc W = 0) (e1 : str h l W rs = (0, out, V1)) (e2 : stp h l V1 10000 = (true, 0, V2)) : alg h l W rs = (0, out, V2) := by
  rw [alg, if_neg (by rw [g]; decide), e1]
  show (if (0 : Int) = 0 then (if (stp h l V1 10000).2.1 = 0 then (0, out, (stp h l V1 10000).2.2) else ((stp h l V1 10000).2.1, [], (stp h l V1 10000).2.2)) else (0, [], V1)) = (0, out, V2)
  rw [if_pos rfl, e2]
  exact if_pos rfl
section
variable {H L : Nat} {V T O : List Int} {Z : Int → Int} {R : List Int}
theorem Gi.fol_zero (g : Gi H L V T O Z) : folE H L V 0 = 0 ∧ folV H L V 0 = 0 ∧ folW H L V 0 = V := by
  have k := g.key0
  have m : folM H L V 0 = false := by
    cases q : folM H L V 0
    · rfl
    · exact absurd rfl (folM_yes q).2.2.1
  have e : folE H L V 0 = 0 := by rw [folE, if_neg (by rw [g.ok]; decide), if_neg (by rw [k]; decide), if_neg (fun q => by rw [m] at q; exact absurd q.1 (by decide))]
  exact ⟨e, by rw [folV, if_pos e, m, if_neg (by decide), k], if_neg (fun q => by rw [m] at q; exact absurd q.2 (by decide))⟩
theorem getD_rep (n i : Nat) : (List.replicate n (0 : Int)).getD i 0 = 0 := by
  rw [List.getD_eq_getElem?_getD, List.getElem?_replicate]
  split <;> rfl
theorem Gi.regs_zero (g : Gi H L V T O Z) (n : Nat) : ∀ i, i ≤ n → regsGo H L V (List.replicate n 0) i = (0, List.replicate i 0, V)
  | 0, _ => rfl
  | i + 1, h => by
    obtain ⟨e0, e1, e2⟩ := g.fol_zero
    rw [regsGo, g.regs_zero n i (by omega), getD_rep]
    show (if (0 : Int) = 0 then (folE H L V 0, List.replicate i 0 ++ [folV H L V 0], folW H L V 0) else (0, List.replicate i 0, V)) = _
    rw [if_pos rfl, e0, e1, e2, List.replicate_succ']
/-- A whole collection, with registers. -/
theorem fin_regs (f : Fin H L V T Z) (rs : List Int) (hv : ∀ x ∈ rs, x = 0 ∨ x ∈ T) : ∃ V1 V2 T1 T2 out, str H L V rs = (0, out, V1) ∧ regsGo H L (slotsGo H L (turned H V) 7 8).2 rs rs.length = (0, out, V1) ∧ Pro H L V1 T1 T (osz V) out ∧
    stp H L V1 10000 = (true, 0, V2) ∧ Fin H L V2 T2 (osz V) ∧ Reach V2 T2 out ∧ gr H L V2 = gr H L V ∧ hSp V2 = 1 - hSp V := by
  obtain ⟨e0, T0, p0, r0, s0⟩ := f.gi.begin
  obtain ⟨e1, T1, p1, r1, s1, _, kl⟩ := p0.regs rs (fun x hx => (hv x hx).imp id (fun h => Or.inr h)) rs.length (Nat.le_refl _)
  have es : str H L V rs = regsGo H L (slotsGo H L (turned H V) 7 8).2 rs rs.length := by
    rw [str, if_neg (by rw [f.gi.ok]; decide), if_neg (by rw [f.off]; decide), if_pos e0, if_pos e1]
  rw [es]
  clear es
  generalize regsGo H L (slotsGo H L (turned H V) 7 8).2 rs rs.length = X at *
  obtain ⟨e, out, V1⟩ := X
  obtain rfl : e = 0 := e1
  have p1 : Pro H L V1 T1 T (osz V) out := p1
  have r1 : gr H L V1 = gr H L (slotsGo H L (turned H V) 7 8).2 := r1
  have s1 : hSp V1 = hSp (slotsGo H L (turned H V) 7 8).2 := s1
  obtain ⟨e2, hf⟩ := p1.p.stp (n := 10000) (by decide)
  obtain ⟨_, i2, i3⟩ := Pr0.go 1000 p1.p (n := 10000) (by decide) hf
  have e3 := i2 p1.room
  have ov := go_over 1000 p1.p (n := 10000) (by omega) hf e3
  obtain ⟨j1, j2, T2, j3, j4⟩ := i3 e3
  have fn : Fin H L (stepGo H L 1000 V1 10000).2.2 T2 (osz V) := by
    rcases j4 with ⟨q, _⟩ | ⟨_, q⟩
    · rw [ov] at q
      exact absurd q (by decide)
    · exact q
  have rc := j3 out p1.reach
  clear i2 i3 j3 j4
  generalize stepGo H L 1000 V1 10000 = X at *
  obtain ⟨o, e4, V2⟩ := X
  obtain rfl : e4 = 0 := e3
  obtain rfl : o = true := ov
  exact ⟨V1, V2, T1, T2, out, rfl, rfl, p1, e2, fn, rc, j1.trans (r1.trans r0), j2.trans (s1.trans s0)⟩

/-! Nothing is reached. -/
theorem Gi.nod_zero (g : Gi H L V T O Z) (at_ : List Int) : nod H L V at_ 0 = some (0, at_) := by
  rw [nod, g.key0, if_neg (by decide), if_pos rfl]
theorem Gi.nod_obj (g : Gi H L V T O Z) {at_ : List Int} {a : Int} (ha : a ∈ T) (hn : a ∉ at_) : nod H L V at_ a = some ((at_.length : Int) + 1, at_ ++ [a]) := by
  have h0 : a ≠ 0 := by have := (g.inT ha).2.1; omega
  rw [nod, g.keyT ha]
  show (if true = false then none else if a = 0 then some (0, at_) else if a ∈ at_ then some ((at_.idxOf a : Int) + 1, at_) else if nodB H V a = true then some ((at_.length : Int) + 1, at_ ++ [a]) else none) = _
  rw [if_neg (by decide), if_neg h0, if_neg hn, if_pos (g.nb (.inl ha))]
theorem Gi.gr_zero (g : Gi H L V T O Z) (h : celL V 8 8 = List.replicate 8 0) : gr H L V = some ([0, 0, 0, 0, 0, 0, 0, 0], []) := by
  have n0 := g.nod_zero
  have e1 : nods H L V [] [0, 0, 0, 0, 0, 0, 0, 0] = some ([0, 0, 0, 0, 0, 0, 0, 0], []) := by simp only [nods, n0]
  have e2 : frmGo H L V 1000 0 [] [] = some ([], []) := rfl
  rw [gr, h, show List.replicate 8 (0 : Int) = [0, 0, 0, 0, 0, 0, 0, 0] from rfl, frm, e1]
  simp only [e2]
  rfl
theorem Fin.nothing (f : Fin H L V T Z) (h : celL V 8 8 = List.replicate 8 0) (n : Nat) : ∃ V2 T2, alg H L V (List.replicate n 0) = (0, List.replicate n 0, V2) ∧ Fin H L V2 T2 (osz V) ∧ hFr V2 = 16 + hSp V2 * (H : Int) := by
  obtain ⟨V1, V2, T1, T2, out, e1, e2, p1, e3, f2, rc, r2, s2⟩ := fin_regs f (List.replicate n 0) (fun x hx => .inl (List.eq_of_mem_replicate hx))
  obtain ⟨q0, T0, p0, _⟩ := f.gi.begin
  rw [List.length_replicate, p0.p.gi.regs_zero n n (Nat.le_refl _)] at e2
  obtain rfl : List.replicate n 0 = out := congrArg (fun x => x.2.1) e2
  have rc' : Reach V2 T2 [] := fun t ht => by
    rcases rc t ht with q | q
    · have := List.eq_of_mem_replicate q
      have := (f2.gi.inT ht).2.1
      omega
    · exact .inr q
  obtain ⟨rs, o, at1, q1, q2, q3⟩ := f2.size rc'
  have q4 : gr H L V2 = some (rs, o) := by rw [gr, q1]; rfl
  rw [r2, f.gi.gr_zero h] at q4
  obtain rfl : [] = o := (Prod.mk.inj (Option.some.inj q4)).2
  exact ⟨V2, T2, alg_yes f.off e1 e3, f2, by have : (0 : Int) = hFr V2 - (16 + hSp V2 * (H : Int)) := q2; omega⟩
theorem Fin.new (f : Fin H L V T Z) (s x : Int) : ∃ T2, Fin H L (newW H L V s x) T2 Z ∧ celL (newW H L V s x) 8 8 = celL V 8 8 := by
  by_cases e : newE H L V s x = 0
  · obtain ⟨a, n, m⟩ := new_yes (h := (H : Int)) (l := (L : Int)) (by have := f.gi.len; omega) e
    obtain ⟨g2, _, _, _, r⟩ := f.gi.new m
    obtain ⟨c0, c1, c2, c3⟩ := m.ctl
    exact ⟨_, ⟨g2, c2.trans f.off⟩, r⟩
  · rw [(new_no e).1]
    exact ⟨T, f, rfl⟩
/-! Objects of one size. -/
theorem mul_step {j k : Nat} (z : Nat) (h : j < k) : j * z + z ≤ k * z := by
  have := Nat.mul_le_mul_right z (Nat.succ_le_of_lt h)
  rwa [Nat.succ_mul] at this
/-- k objects of one size, one behind the other; none has slots. -/
structure Obs (H L z : Nat) (wo : Int) (k : Nat) (V T : List Int) : Prop where
  f : Fin H L V T (fun _ => 1)
  sp : hSp V = 0
  fr : hFr V = ((16 + k * z : Nat) : Int)
  me : ∀ j, j < k → ((16 + j * z : Nat) : Int) ∈ T
  hd : ∀ j, j < k → V.getD (16 + j * z) 0 = hdI 0 wo
variable {z k : Nat} {wo : Int}
theorem Obs.new (o : Obs H L z wo k V T) (hz : 1 + wo = (z : Int)) (sh : shOk 0 wo = true) (room : (k + 1) * z ≤ H) : newE H L V 0 wo = 0 ∧ newA H L V 0 wo = ((16 + k * z : Nat) : Int) ∧
    Obs H L z wo (k + 1) (newW H L V 0 wo) (T ++ [((16 + k * z : Nat) : Int)]) ∧ ∀ i, 4 ≤ i → i < 16 + k * z → (newW H L V 0 wo).getD i 0 = V.getD i 0 := by
  have hlen := o.f.gi.len
  have e0 : newE H L V 0 wo = 0 := by
    rcases newE_three H L V 0 wo with ⟨_, q⟩ | ⟨_, _, _, q⟩ | ⟨q, _⟩
    · rw [o.f.gi.ok, sh] at q
      exact absurd q (by decide)
    · rw [o.sp, o.fr] at q
      rw [Nat.succ_mul] at room
      omega
    · exact q
  obtain ⟨a, n, m⟩ := new_yes (h := (H : Int)) (l := (L : Int)) (by omega) e0
  have ea : a = 16 + k * z := by have := m.fr; rw [o.fr] at this; omega
  have en : n = z := by have := m.sz; omega
  obtain ⟨g2, _, hda, hT, root⟩ := o.f.gi.new m
  obtain ⟨c0, c1, c2, c3⟩ := m.ctl
  rw [o.fr] at g2
  subst ea en
  refine ⟨e0, m.ad, ⟨⟨g2, c2.trans o.f.off⟩, c0.trans o.sp, ?_, fun j h => ?_, fun j h => ?_⟩, fun i h1 h2 => m.other (.inl h2) (by omega)⟩
  · rw [c1, Nat.succ_mul]
    omega
  · by_cases e : j = k
    · subst e
      simp
    · exact List.mem_append.2 (.inl (o.me j (by omega)))
  · by_cases e : j = k
    · subst e
      exact m.hd
    · have := mul_step n (show j < k by omega)
      have := m.n1
      rw [m.other (.inl (by omega)) (by omega)]
      exact o.hd j (by omega)
theorem Obs.root (o : Obs H L z wo k V T) {i : Nat} (hi : i < 8) {a : Int} (ha : a ∈ T) : srE H L V (i : Int) a = 0 ∧ srW H L V (i : Int) a = V.set (8 + i) a ∧ Obs H L z wo k (V.set (8 + i) a) T := by
  obtain ⟨e1, e2, e3⟩ := o.f.gi.sroot (i := (i : Int)) (a := a) (by omega) (by omega) (.inr ha)
  rw [show (8 + (i : Int)).toNat = 8 + i by omega] at e2 e3
  have c : ∀ j, j ≠ 8 + i → (V.set (8 + i) a).getD j 0 = V.getD j 0 := fun j h => getD_set_ne (fun e => h e.symm)
  exact ⟨e1, e2, ⟨⟨o.f.gi.setr e3 (.inr (.inl ha)), (c 2 (by omega)).trans o.f.off⟩, (c 0 (by omega)).trans o.sp, (c 1 (by omega)).trans o.fr, o.me, fun j h => (c _ (by omega)).trans (o.hd j h)⟩⟩
theorem Obs.word (o : Obs H L z wo k V T) (hz : 1 + wo = (z : Int)) (sh : shOk 0 wo = true) (hw : 1 ≤ wo) {j : Nat} (hj : j < k) {v : Int} (h0 : 0 ≤ v) (h1 : v < 4294967296) :
    swE H L V ((16 + j * z : Nat) : Int) 0 v = 0 ∧ swW H L V ((16 + j * z : Nat) : Int) 0 v = V.set (17 + j * z) v ∧ Obs H L z wo k (V.set (17 + j * z) v) T := by
  obtain ⟨p1, p2, p3⟩ := hd_back sh
  have et : (((16 + j * z : Nat) : Int)).toNat = 16 + j * z := Int.toNat_natCast _
  obtain ⟨e1, e2, e3⟩ := o.f.gi.sword (i := 0) (v := v) (o.me j hj) (by decide) (by rw [et, o.hd j hj, p3]; omega) (by unfold hbNum; exact decide_eq_true (by omega))
  rw [et, o.hd j hj, p2, show (((16 + j * z : Nat) : Int) + 1 + 0 + 0).toNat = 17 + j * z by omega] at e2 e3
  have c : ∀ i, i ≠ 17 + j * z → (V.set (17 + j * z) v).getD i 0 = V.getD i 0 := fun i h => getD_set_ne (fun e => h e.symm)
  refine ⟨e1, e2, ⟨⟨o.f.gi.setw e3 h0 h1, (c 2 (by omega)).trans o.f.off⟩, (c 0 (by omega)).trans o.sp, (c 1 (by omega)).trans o.fr, o.me, fun i h => (c _ ?_).trans (o.hd i h)⟩⟩
  rcases Nat.lt_trichotomy i j with q | q | q
  · have := mul_step z q
    omega
  · rw [q]
    omega
  · have := mul_step z q
    omega

/-! Every second one is named by a root. -/
structure Frs (H L z : Nat) (wo : Int) (k : Nat) (V T : List Int) : Prop where
  o : Obs H L z wo k V T
  rt : ∀ i, i < 8 → V.getD (8 + i) 0 = if i % 2 = 0 ∧ i < k then ((16 + i * z : Nat) : Int) else 0
theorem Frs.step (x : Frs H L z wo k V T) (hk : k < 8) (hz : 1 + wo = (z : Int)) (sh : shOk 0 wo = true) (room : 8 * z ≤ H) : newE H L V 0 wo = 0 ∧ newA H L V 0 wo = ((16 + k * z : Nat) : Int) ∧
    (k % 2 = 0 → srE H L (newW H L V 0 wo) (k : Int) ((16 + k * z : Nat) : Int) = 0 ∧ Frs H L z wo (k + 1) (srW H L (newW H L V 0 wo) (k : Int) ((16 + k * z : Nat) : Int)) (T ++ [((16 + k * z : Nat) : Int)])) ∧
    (k % 2 ≠ 0 → Frs H L z wo (k + 1) (newW H L V 0 wo) (T ++ [((16 + k * z : Nat) : Int)])) := by
  obtain ⟨e0, e1, o2, c⟩ := x.o.new hz sh (Nat.le_trans (Nat.mul_le_mul_right z (show k + 1 ≤ 8 by omega)) room)
  refine ⟨e0, e1, fun hp => ?_, fun hp => ⟨o2, fun i hi => ?_⟩⟩
  · obtain ⟨q1, q2, q3⟩ := o2.root hk (a := ((16 + k * z : Nat) : Int)) (by simp)
    rw [q2]
    refine ⟨q1, q3, fun i hi => ?_⟩
    by_cases e : i = k
    · subst e
      rw [getD_set_eq (by have := o2.f.gi.len; omega), if_pos (by omega)]
    · rw [getD_set_ne (by omega), c _ (by omega) (by omega), x.rt i hi]
      by_cases q : i % 2 = 0 ∧ i < k
      · rw [if_pos q, if_pos (by omega)]
      · rw [if_neg q, if_neg (by omega)]
  · rw [c _ (by omega) (by omega), x.rt i hi]
    by_cases q : i % 2 = 0 ∧ i < k
    · rw [if_pos q, if_pos (by omega)]
    · rw [if_neg q, if_neg (fun e => q ⟨e.1, by have : i ≠ k := fun w => hp (w ▸ e.1); omega⟩)]
theorem Frs.graph (x : Frs H L z wo 8 V T) (hz : 1 + wo = (z : Int)) (sh : shOk 0 wo = true) : ∃ rs o, gr H L V = some (rs, o) ∧ dSize o = 4 * (z : Int) := by
  have g := x.o.f.gi
  obtain ⟨p1, p2, p3⟩ := hd_back sh
  have hw := shOk_yes sh
  have r0 : V.getD 8 0 = ((16 + 0 * z : Nat) : Int) := x.rt 0 (by decide)
  have r1 : V.getD 9 0 = 0 := x.rt 1 (by decide)
  have r2 : V.getD 10 0 = ((16 + 2 * z : Nat) : Int) := x.rt 2 (by decide)
  have r3 : V.getD 11 0 = 0 := x.rt 3 (by decide)
  have r4 : V.getD 12 0 = ((16 + 4 * z : Nat) : Int) := x.rt 4 (by decide)
  have r5 : V.getD 13 0 = 0 := x.rt 5 (by decide)
  have r6 : V.getD 14 0 = ((16 + 6 * z : Nat) : Int) := x.rt 6 (by decide)
  have r7 : V.getD 15 0 = 0 := x.rt 7 (by decide)
  have ec : celL V 8 8 = [V.getD 8 0, V.getD 9 0, V.getD 10 0, V.getD 11 0, V.getD 12 0, V.getD 13 0, V.getD 14 0, V.getD 15 0] := rfl
  rw [r0, r1, r2, r3, r4, r5, r6, r7] at ec
  have m0 := x.o.me 0 (by decide)
  have m2 := x.o.me 2 (by decide)
  have m4 := x.o.me 4 (by decide)
  have m6 := x.o.me 6 (by decide)
  have sl : ∀ j, j < 8 → slL V ((16 + j * z : Nat) : Int) = [] ∧ ((wdL V ((16 + j * z : Nat) : Int)).length : Int) = wo := fun j hj => by
    have h := x.o.hd j hj
    have et : (((16 + j * z : Nat) : Int)).toNat = 16 + j * z := Int.toNat_natCast _
    refine ⟨List.eq_nil_of_length_eq_zero ?_, ?_⟩
    · rw [slL_len, et, h, p2]
      rfl
    · rw [wdL_len, et, h, p3]
      omega
  obtain ⟨s0, w0⟩ := sl 0 (by decide)
  obtain ⟨s2, w2⟩ := sl 2 (by decide)
  obtain ⟨s4, w4⟩ := sl 4 (by decide)
  obtain ⟨s6, w6⟩ := sl 6 (by decide)
  have z1 : 1 ≤ z := by omega
  have d0 : ((16 + 0 * z : Nat) : Int) = 16 := by omega
  have d2 : ((16 + 2 * z : Nat) : Int) = 16 + 2 * (z : Int) := by omega
  have d4 : ((16 + 4 * z : Nat) : Int) = 16 + 4 * (z : Int) := by omega
  have d6 : ((16 + 6 * z : Nat) : Int) = 16 + 6 * (z : Int) := by omega
  rw [d0] at m0 s0 w0 ec
  rw [d2] at m2 s2 w2 ec
  rw [d4] at m4 s4 w4 ec
  rw [d6] at m6 s6 w6 ec
  have n0 := g.nod_zero
  have k0 := g.nod_obj (at_ := []) m0 (by simp)
  have k2 := g.nod_obj (at_ := [] ++ [16]) m2 (by simp; omega)
  have k4 := g.nod_obj (at_ := [] ++ [16] ++ [16 + 2 * (z : Int)]) m4 (by simp; omega)
  have k6 := g.nod_obj (at_ := [] ++ [16] ++ [16 + 2 * (z : Int)] ++ [16 + 4 * (z : Int)]) m6 (by simp; omega)
  obtain ⟨rs, e1⟩ : ∃ rs, nods H L V [] [16, 0, 16 + 2 * (z : Int), 0, 16 + 4 * (z : Int), 0, 16 + 6 * (z : Int), 0] = some (rs, [16, 16 + 2 * (z : Int), 16 + 4 * (z : Int), 16 + 6 * (z : Int)]) := by
    have c : ∀ {at_ : List Int} {a : Int} {r : List Int} {m : Int} {at1 ns at2 : List Int}, nod H L V at_ a = some (m, at1) → nods H L V at1 r = some (ns, at2) → nods H L V at_ (a :: r) = some (m :: ns, at2) := fun h1 h2 => by
      rw [nods, h1]
      simp only [h2]
    exact ⟨_, c k0 (c (n0 _) (c k2 (c (n0 _) (c k4 (c (n0 _) (c k6 (c (n0 _) rfl)))))))⟩
  have f5 : ∀ out, frmGo H L V 996 4 [16, 16 + 2 * (z : Int), 16 + 4 * (z : Int), 16 + 6 * (z : Int)] out = some (out, [16, 16 + 2 * (z : Int), 16 + 4 * (z : Int), 16 + 6 * (z : Int)]) := fun out => rfl
  have e2 : frmGo H L V 1000 0 [16, 16 + 2 * (z : Int), 16 + 4 * (z : Int), 16 + 6 * (z : Int)] [] = some ([([], wdL V 16), ([], wdL V (16 + 2 * (z : Int))), ([], wdL V (16 + 4 * (z : Int))), ([], wdL V (16 + 6 * (z : Int)))], [16, 16 + 2 * (z : Int), 16 + 4 * (z : Int), 16 + 6 * (z : Int)]) := by
    have st : ∀ (n k : Nat) (A : List Int) (out : List (List Int × List Int)) (a : Int), k < A.length → A.getD k 0 = a → slL V a = [] → frmGo H L V (n + 1) k A out = frmGo H L V n (k + 1) A (out ++ [([], wdL V a)]) := fun n k A out a h1 h2 h3 => by
      rw [frmGo, if_pos h1, h2, h3]
      rfl
    rw [show (1000 : Nat) = 999 + 1 from rfl, st 999 0 _ _ 16 (by simp) rfl s0, show (999 : Nat) = 998 + 1 from rfl, st 998 1 _ _ (16 + 2 * (z : Int)) (by simp) rfl s2, show (998 : Nat) = 997 + 1 from rfl, st 997 2 _ _ (16 + 4 * (z : Int)) (by simp) rfl s4, show (997 : Nat) = 996 + 1 from rfl, st 996 3 _ _ (16 + 6 * (z : Int)) (by simp) rfl s6]
    exact f5 _
  refine ⟨rs, [([], wdL V 16), ([], wdL V (16 + 2 * (z : Int))), ([], wdL V (16 + 4 * (z : Int))), ([], wdL V (16 + 6 * (z : Int)))], ?_, ?_⟩
  · rw [gr, ec, frm, e1]
    simp only [e2]
    rfl
  · simp only [dSize, List.length_nil]
    omega
/-- What is there of them behind a collection. -/
theorem Frs.all (x : Frs H L z wo 8 V T) (hz : 1 + wo = (z : Int)) (sh : shOk 0 wo = true) : ∃ V2 T2, alg H L V [] = (0, [], V2) ∧ Fin H L V2 T2 (osz V) ∧ hSp V2 = 1 ∧ hFr V2 = ((16 + H + 4 * z : Nat) : Int) := by
  obtain ⟨V1, V2, T2, e1, e2, f2, r2, s2, rs, o, q1, q2, _⟩ := fin_all x.o.f (n := 10000) (by decide)
  obtain ⟨rs', o', h1, h2⟩ := x.graph hz sh
  rw [h1] at q1
  obtain rfl : o' = o := (Prod.mk.inj (Option.some.inj q1)).2
  rw [x.o.sp] at s2
  have s3 : hSp V2 = 1 := s2
  rw [s3] at q2
  exact ⟨V2, T2, alg_yes x.o.f.off e1 e2, f2, s3, by omega⟩
/-- More of them, behind a collection. -/
structure Mor (H L z : Nat) (n : Nat) (V : List Int) : Prop where
  f : ∃ T Z, Fin H L V T Z
  sp : hSp V = 1
  fr : hFr V = ((16 + H + (4 + n) * z : Nat) : Int)
theorem Mor.le {n : Nat} (x : Mor H L z n V) : (4 + n) * z ≤ H := by
  obtain ⟨⟨T, Z, f⟩, sp, fr⟩ := x
  obtain ⟨_, _, _, ⟨_, h⟩, _⟩ := fine_yes f.gi.ok
  rw [sp, fr] at h
  omega
theorem Mor.step {n : Nat} (x : Mor H L z n V) (hz : 1 + wo = (z : Int)) (sh : shOk 0 wo = true) : ((4 + n + 1) * z ≤ H → newE H L V 0 wo = 0 ∧ Mor H L z (n + 1) (newW H L V 0 wo)) ∧ (¬ (4 + n + 1) * z ≤ H → newE H L V 0 wo = 6 ∧ newW H L V 0 wo = V) := by
  obtain ⟨⟨T, Z, f⟩, sp, fr⟩ := x
  have hlen := f.gi.len
  rw [Nat.succ_mul]
  rcases newE_three H L V 0 wo with ⟨_, q⟩ | ⟨e, _, _, q⟩ | ⟨e, _, _, q⟩
  · rw [f.gi.ok, sh] at q
    exact absurd q (by decide)
  · rw [sp, fr] at q
    refine ⟨fun h => ?_, fun _ => ⟨e, (new_no (by rw [e]; decide)).1⟩⟩
    omega
  · rw [sp, fr] at q
    refine ⟨fun _ => ⟨e, ?_⟩, fun h => ?_⟩
    · obtain ⟨T2, f2, _⟩ := f.new 0 wo
      obtain ⟨a, n', m⟩ := new_yes (h := (H : Int)) (l := (L : Int)) (by omega) e
      obtain ⟨c0, c1, c2, c3⟩ := m.ctl
      refine ⟨⟨T2, Z, f2⟩, c0.trans sp, ?_⟩
      have h1 := m.fr
      have h2 := m.sz
      rw [fr] at h1
      rw [c1, show 4 + (n + 1) = (4 + n) + 1 from rfl, Nat.succ_mul]
      omega
    · omega
theorem mor_div {z n : Nat} (hz : 1 ≤ z) (h1 : (4 + n) * z ≤ H) (h2 : ¬ (4 + n + 1) * z ≤ H) : ((H : Int) - 4 * (z : Int)).tdiv (z : Int) = (n : Int) := by
  rw [Nat.add_mul] at h1
  rw [Nat.succ_mul, Nat.add_mul] at h2
  have e : (H : Int) - 4 * (z : Int) = ((H - 4 * z : Nat) : Int) := by omega
  rw [e, ← Int.ofNat_tdiv]
  congr 1
  have e2 : (n + 1) * z = n * z + z := Nat.succ_mul n z
  apply Nat.div_eq_of_lt_le
  · omega
  · omega
end
end Go.Proofs.YteijhbnnhadkhaaGreatDoor
-- GcReg
/- Objects that only registers name: what a collection leaves of them. Plain facts. -/
namespace Go.Proofs.YteijhbnnhadkhaaGreatDoor
open Go.RowKit

theorem keep_set {V : List Int} {i : Nat} {v : Int} (h : V.getD i 0 = v) (hi : i < V.length) : V.set i v = V := by
  apply List.ext_getElem?
  intro j
  rw [List.getElem?_set]
  by_cases e : i = j
  · subst e
    rw [if_pos rfl, if_pos hi, ← h, List.getD_eq_getElem?_getD, List.getElem?_eq_getElem hi]
    rfl
  · rw [if_neg e]
section
variable {H L : Nat} {V T O : List Int} {Z : Int → Int} {z k n : Nat} {wo : Int}
/-- Objects of one size, the first word of each is its number and 7; no root names one. -/
structure Rgs (H L z : Nat) (wo : Int) (k : Nat) (V T : List Int) : Prop where
  o : Obs H L z wo k V T
  wd : ∀ j, j < k → V.getD (17 + j * z) 0 = (j : Int) + 7
  rt : ∀ i, i < 8 → V.getD (8 + i) 0 = 0
theorem Rgs.step (x : Rgs H L z wo k V T) (hz : 1 + wo = (z : Int)) (sh : shOk 0 wo = true) (hw : 1 ≤ wo) (room : (k + 1) * z ≤ H) (hk : k ≤ 100) : newE H L V 0 wo = 0 ∧ newA H L V 0 wo = ((16 + k * z : Nat) : Int) ∧
    swE H L (newW H L V 0 wo) ((16 + k * z : Nat) : Int) 0 ((k : Int) + 7) = 0 ∧ Rgs H L z wo (k + 1) (swW H L (newW H L V 0 wo) ((16 + k * z : Nat) : Int) 0 ((k : Int) + 7)) (T ++ [((16 + k * z : Nat) : Int)]) := by
  obtain ⟨e0, e1, o2, c⟩ := x.o.new hz sh room
  obtain ⟨q1, q2, q3⟩ := o2.word hz sh hw (j := k) (by omega) (v := (k : Int) + 7) (by omega) (by omega)
  have hl := o2.f.gi.len
  rw [Nat.succ_mul] at room
  rw [q2]
  refine ⟨e0, e1, q1, q3, fun j hj => ?_, fun i hi => ?_⟩
  · by_cases e : j = k
    · subst e
      rw [getD_set_eq (by omega)]
    · have := mul_step z (show j < k by omega)
      rw [getD_set_ne (by omega), c _ (by omega) (by omega)]
      exact x.wd j (by omega)
  · rw [getD_set_ne (by omega), c _ (by omega) (by omega)]
    exact x.rt i hi
theorem Rgs.zero (x : Rgs H L z wo k V T) : celL V 8 8 = List.replicate 8 0 := by
  rw [celL, List.eq_replicate_iff]
  refine ⟨by simp, fun y hy => ?_⟩
  obtain ⟨i, hi, rfl⟩ := List.mem_map.1 hy
  exact x.rt i (List.mem_range.1 hi)
theorem Gi.slots_zero (g : Gi H L V T O Z) (h : ∀ i, i < 8 → V.getD (8 + i) 0 = 0) : ∀ i, i ≤ 8 → slotsGo H L V 7 i = (0, V)
  | 0, _ => rfl
  | i + 1, hi => by
    obtain ⟨e0, e1, e2⟩ := g.fol_zero
    have hl := g.len
    have c0 : celE H L V (8 + i) = 0 := by rw [celE, h i (by omega), e0]
    have c1 : celV H L V (8 + i) = 0 := by rw [celV, h i (by omega), e1]
    have c2 : celW H L V (8 + i) = V := by
      rw [celW, if_pos c0, h i (by omega), e2, c1]
      exact keep_set (h i (by omega)) (by omega)
    rw [slotsGo, g.slots_zero h i (by omega)]
    show (if (0 : Int) = 0 then (celE H L V (7 + 1 + i), celW H L V (7 + 1 + i)) else (0, V)) = (0, V)
    rw [if_pos rfl, show 7 + 1 + i = 8 + i by omega, c0, c2]
/-- What lies where when the first i registers were followed. -/
structure Mvd (H z : Nat) (wo : Int) (n i : Nat) (X : Int × List Int × List Int) : Prop where
  e : X.1 = 0
  out : X.2.1 = (List.range i).map (fun j => ((16 + H + j * z : Nat) : Int))
  fr : hFr X.2.2 = ((16 + H + i * z : Nat) : Int)
  sc : hSc X.2.2 = ((16 + H : Nat) : Int)
  new : ∀ j, j < i → X.2.2.getD (16 + H + j * z) 0 = hdI 0 wo ∧ X.2.2.getD (17 + H + j * z) 0 = (j : Int) + 7 ∧ X.2.2.getD (16 + j * z) 0 = 33554432 + ((16 + H + j * z : Nat) : Int)
  old : ∀ j, i ≤ j → j < n → X.2.2.getD (16 + j * z) 0 = hdI 0 wo ∧ X.2.2.getD (17 + j * z) 0 = (j : Int) + 7
theorem Rgs.turn (x : Rgs H L z wo n V T) : (slotsGo H L (turned H V) 7 8).2 = turned H V ∧ hFr (turned H V) = ((16 + H : Nat) : Int) ∧ hSc (turned H V) = ((16 + H : Nat) : Int) ∧ ∀ i, 4 ≤ i → (turned H V).getD i 0 = V.getD i 0 := by
  obtain ⟨g2, r2, room, c0, c1, c2, c3⟩ := x.o.f.gi.turn
  have hl := x.o.f.gi.len
  have cells : ∀ i, 4 ≤ i → (turned H V).getD i 0 = V.getD i 0 := fun i hi => by
    rw [turned, getD_set_ne (by omega), getD_set_ne (by omega), getD_set_ne (by omega), getD_set_ne (by omega)]
  rw [x.o.sp] at c1 c3
  refine ⟨?_, by rw [c1]; omega, by rw [c3]; omega, cells⟩
  rw [g2.slots_zero (fun i hi => by rw [cells _ (by omega)]; exact x.rt i hi) 8 (Nat.le_refl _)]
theorem Rgs.regs (x : Rgs H L z wo n V T) (hz : 1 + wo = (z : Int)) (sh : shOk 0 wo = true) (hw : 1 ≤ wo) (room : n * z ≤ H) (rs : List Int) (hr : ∀ j, j < n → rs.getD j 0 = ((16 + j * z : Nat) : Int)) (hl : n ≤ rs.length) (hv : ∀ a ∈ rs, a = 0 ∨ a ∈ T) :
    ∀ i, i ≤ n → Mvd H z wo n i (regsGo H L (turned H V) rs i)
  | 0, _ => by
    obtain ⟨t0, t1, t2, tc⟩ := x.turn
    refine ⟨rfl, rfl, ?_, t2, fun j h => absurd h (Nat.not_lt_zero _), fun j _ h => ?_⟩
    · rw [Nat.zero_mul]
      exact t1
    · exact ⟨(tc _ (by omega)).trans (x.o.hd j h), (tc _ (by omega)).trans (x.wd j h)⟩
  | i + 1, hi => by
    have ih := x.regs hz sh hw room rs hr hl hv i (by omega)
    obtain ⟨t0, t1, t2, tc⟩ := x.turn
    obtain ⟨q0, T0, p0, _⟩ := x.o.f.gi.begin
    rw [t0] at p0
    obtain ⟨_, T2, p, _, _, _, _⟩ := p0.regs rs (fun y hy => (hv y hy).imp id (fun h => Or.inr h)) i (by omega)
    rw [regsGo, if_pos ih.e, hr i (by omega)]
    generalize regsGo H L (turned H V) rs i = X at *
    obtain ⟨e0, out, U⟩ := X
    obtain ⟨_, i1, i2, i3, i4, i5⟩ := ih
    have i1 : out = (List.range i).map (fun j => ((16 + H + j * z : Nat) : Int)) := i1
    have i2 : hFr U = ((16 + H + i * z : Nat) : Int) := i2
    have i3 : hSc U = ((16 + H : Nat) : Int) := i3
    have i4 : ∀ j, j < i → U.getD (16 + H + j * z) 0 = hdI 0 wo ∧ U.getD (17 + H + j * z) 0 = (j : Int) + 7 ∧ U.getD (16 + j * z) 0 = 33554432 + ((16 + H + j * z : Nat) : Int) := i4
    have i5 : ∀ j, i ≤ j → j < n → U.getD (16 + j * z) 0 = hdI 0 wo ∧ U.getD (17 + j * z) 0 = (j : Int) + 7 := i5
    have g : Gi H L U T2 T (osz V) := p.p.gi
    obtain ⟨p1, p2, p3⟩ := hd_back sh
    obtain ⟨u1, u2⟩ := i5 i (Nat.le_refl _) (by omega)
    have hx := x.o.me i (by omega)
    have et : (((16 + i * z : Nat) : Int)).toNat = 16 + i * z := Int.toNat_natCast _
    have hd : hdOk (U.getD (((16 + i * z : Nat) : Int)).toNat 0) = true := by rw [et, u1, p1]
    have e1 := g.fol0 (x := ((16 + i * z : Nat) : Int)) (.inr (.inr hx)) p.room
    obtain ⟨n', f, z', m⟩ := g.mvf hx hd e1
    have en : n' = 16 + i * z := by have := m.ea; omega
    have ef : f = 16 + H + i * z := by have := m.ef; omega
    have ez : z' = z := by
      have := m.eo
      rw [osz, et, u1, p2, p3] at this
      omega
    subst en ef ez
    obtain ⟨c0, c1, c2, c3, c4⟩ := m.ctl
    have hat := m.m.at
    have hb := mul_step z' (show i < n by omega)
    show Mvd H z' wo n (i + 1) (folE H L U _, out ++ [folV H L U _], folW H L U _)
    refine ⟨e1, ?_, ?_, c3.trans i3, fun j hj => ?_, fun j h1 h2 => ?_⟩
    · show out ++ [folV H L U ((16 + i * z' : Nat) : Int)] = _
      rw [m.ev, i1, List.range_succ, List.map_append]
      rfl
    · show hFr (folW H L U ((16 + i * z' : Nat) : Int)) = _
      rw [c1, Nat.succ_mul]
      omega
    · show (folW H L U ((16 + i * z' : Nat) : Int)).getD (16 + H + j * z') 0 = _ ∧ (folW H L U ((16 + i * z' : Nat) : Int)).getD (17 + H + j * z') 0 = _ ∧ (folW H L U ((16 + i * z' : Nat) : Int)).getD (16 + j * z') 0 = _
      by_cases e : j = i
      · subst e
        refine ⟨?_, ?_, c4⟩
        · rw [hat, if_neg (by omega), if_neg (by omega), if_pos (by omega), show 16 + j * z' + (16 + H + j * z' - (16 + H + j * z')) = 16 + j * z' by omega]
          exact u1
        · rw [hat, if_neg (by omega), if_neg (by omega), if_pos (by omega), show 16 + j * z' + (17 + H + j * z' - (16 + H + j * z')) = 17 + j * z' by omega]
          exact u2
      · obtain ⟨v1, v2, v3⟩ := i4 j (by omega)
        have hs := mul_step z' (show j < i by omega)
        refine ⟨?_, ?_, ?_⟩
        · rw [hat, if_neg (by omega), if_neg (by omega), if_neg (by omega)]
          exact v1
        · rw [hat, if_neg (by omega), if_neg (by omega), if_neg (by omega)]
          exact v2
        · rw [hat, if_neg (by omega), if_neg (by omega), if_neg (by omega)]
          exact v3
    · show (folW H L U ((16 + i * z' : Nat) : Int)).getD (16 + j * z') 0 = _ ∧ (folW H L U ((16 + i * z' : Nat) : Int)).getD (17 + j * z') 0 = _
      obtain ⟨v1, v2⟩ := i5 j (by omega) h2
      have hs := mul_step z' (show i < j by omega)
      have hs2 := mul_step z' h2
      refine ⟨?_, ?_⟩
      · rw [hat, if_neg (by omega), if_neg (by omega), if_neg (by omega)]
        exact v1
      · rw [hat, if_neg (by omega), if_neg (by omega), if_neg (by omega)]
        exact v2
/-- The registers of the law: each object, the first one again, none. -/
def regL (z n : Nat) : List Int := (List.range n).map (fun j => ((16 + j * z : Nat) : Int)) ++ [16, 0]
theorem regL_at {j : Nat} (h : j < n) : (regL z n).getD j 0 = ((16 + j * z : Nat) : Int) := by
  rw [regL, List.getD_eq_getElem?_getD, List.getElem?_append_left (by simpa using h), List.getElem?_map, List.getElem?_range h]
  rfl
theorem regL_len : (regL z n).length = n + 2 := by simp [regL]
theorem regL_last : (regL z n).getD n 0 = 16 ∧ (regL z n).getD (n + 1) 0 = 0 := by
  constructor
  · rw [regL, List.getD_eq_getElem?_getD, List.getElem?_append_right (by simp)]
    simp
  · rw [regL, List.getD_eq_getElem?_getD, List.getElem?_append_right (by simp)]
    simp
/-- What they name behind it. -/
def regN (H z n : Nat) : List Int := (List.range n).map (fun j => ((16 + H + j * z : Nat) : Int)) ++ [((16 + H : Nat) : Int), 0]
theorem regN_len : (regN H z n).length = n + 2 := by simp [regN]
theorem regN_at {j : Nat} (h : j < n) : (regN H z n).getD j 0 = ((16 + H + j * z : Nat) : Int) := by
  rw [regN, List.getD_eq_getElem?_getD, List.getElem?_append_left (by simpa using h), List.getElem?_map, List.getElem?_range h]
  rfl
theorem regN_last : (regN H z n).getD n 0 = ((16 + H : Nat) : Int) ∧ (regN H z n).getD (n + 1) 0 = 0 := by
  constructor
  · rw [regN, List.getD_eq_getElem?_getD, List.getElem?_append_right (by simp)]
    simp
  · rw [regN, List.getD_eq_getElem?_getD, List.getElem?_append_right (by simp)]
    simp
theorem Rgs.vals (x : Rgs H L z wo n V T) (hn : 1 ≤ n) : ∀ a ∈ regL z n, a = 0 ∨ a ∈ T := fun a ha => by
  rcases List.mem_append.1 ha with h | h
  · obtain ⟨j, hj, rfl⟩ := List.mem_map.1 h
    exact .inr (x.o.me j (List.mem_range.1 hj))
  · simp only [List.mem_cons, List.not_mem_nil, or_false] at h
    rcases h with h | h
    · have := x.o.me 0 (by omega)
      rw [Nat.zero_mul] at this
      rw [h]
      exact .inr this
    · exact .inl h
/-- All of them are followed. -/
theorem Rgs.out (x : Rgs H L z wo n V T) (hz : 1 + wo = (z : Int)) (sh : shOk 0 wo = true) (hw : 1 ≤ wo) (room : n * z ≤ H) (hn : 1 ≤ n) :
    (regsGo H L (turned H V) (regL z n) (n + 2)).2.1 = regN H z n ∧ (regsGo H L (turned H V) (regL z n) (n + 2)).2.2 = (regsGo H L (turned H V) (regL z n) n).2.2 := by
  have md := x.regs hz sh hw room (regL z n) (fun j h => regL_at h) (by rw [regL_len]; omega) (x.vals hn) n (Nat.le_refl _)
  obtain ⟨t0, t1, t2, tc⟩ := x.turn
  obtain ⟨q0, T0, p0, _⟩ := x.o.f.gi.begin
  rw [t0] at p0
  obtain ⟨_, T2, p, _, _, _, _⟩ := p0.regs (regL z n) (fun y hy => (x.vals hn y hy).imp id (fun h => Or.inr h)) n (by rw [regL_len]; omega)
  have r1 : regsGo H L (turned H V) (regL z n) (n + 1) = (folE H L (regsGo H L (turned H V) (regL z n) n).2.2 16, (regsGo H L (turned H V) (regL z n) n).2.1 ++ [folV H L (regsGo H L (turned H V) (regL z n) n).2.2 16], folW H L (regsGo H L (turned H V) (regL z n) n).2.2 16) := by
    rw [regsGo, if_pos md.e, regL_last.1]
  generalize regsGo H L (turned H V) (regL z n) n = X at *
  obtain ⟨e0, out, U⟩ := X
  have g : Gi H L U T2 T (osz V) := p.p.gi
  have hm : (16 : Int) ∈ T := by
    have := x.o.me 0 (by omega)
    rwa [Nat.zero_mul] at this
  obtain ⟨_, _, v3⟩ := md.new 0 (by omega)
  rw [Nat.zero_mul] at v3
  have v3 : U.getD 16 0 = 33554432 + ((16 + H : Nat) : Int) := v3
  have hg := x.o.f.gi.geo
  have e1 : folE H L U 16 = 0 := g.fol0 (.inr (.inr hm)) p.room
  have lk1 : lk H L U 16 = (((16 + H : Nat) : Int), true) := by
    rcases g.kind 16 hm with ⟨d, _⟩ | ⟨t, ht, e⟩
    · rw [show (16 : Int).toNat = 16 from rfl, v3, hd_of_fw (by omega)] at d
      exact absurd d (by decide)
    · have e' : U.getD 16 0 = 33554432 + t := e
      rw [v3] at e'
      rw [show ((16 + H : Nat) : Int) = t by omega]
      exact g.keyF hm ht e
  have hM : folM H L U 16 = false := by
    cases q : folM H L U 16
    · rfl
    · have := (folM_yes q).2.2.2.2
      rw [lk1] at this
      have this : ((16 + H : Nat) : Int) = 16 := this
      omega
  have eV : folV H L U 16 = ((16 + H : Nat) : Int) := by rw [folV, if_pos e1, hM, if_neg (by decide), lk1]
  have eW : folW H L U 16 = U := if_neg (fun q => by rw [hM] at q; exact absurd q.2 (by decide))
  have r1 : regsGo H L (turned H V) (regL z n) (n + 1) = (0, out ++ [((16 + H : Nat) : Int)], U) := by
    rw [r1]
    show (folE H L U 16, out ++ [folV H L U 16], folW H L U 16) = _
    rw [e1, eV, eW]
  obtain ⟨z0, z1, z2⟩ := g.fol_zero
  have r2 : regsGo H L (turned H V) (regL z n) (n + 2) = (0, out ++ [((16 + H : Nat) : Int)] ++ [0], U) := by
    rw [regsGo, r1, regL_last.2]
    show (if (0 : Int) = 0 then (folE H L U 0, out ++ [((16 + H : Nat) : Int)] ++ [folV H L U 0], folW H L U 0) else _) = _
    rw [if_pos rfl, z0, z1, z2]
  rw [r2]
  have i1 : out = (List.range n).map (fun j => ((16 + H + j * z : Nat) : Int)) := md.out
  refine ⟨?_, rfl⟩
  show out ++ [((16 + H : Nat) : Int)] ++ [0] = regN H z n
  rw [i1, regN, List.append_assoc]
  rfl
/-- Objects without slots are scanned: nothing of them changes. -/
theorem scan_go (hz : 1 + wo = (z : Int)) (sh : shOk 0 wo = true) (room : n * z ≤ H) : ∀ (d fuel : Nat) {U : List Int} {m : Int} {j : Nat}, n = j + d → d < fuel → (d : Int) < m → hSc U = ((16 + H + j * z : Nat) : Int) → hFr U = ((16 + H + n * z : Nat) : Int) →
    (∀ i, i < n → U.getD (16 + H + i * z) 0 = hdI 0 wo) → U.length = 16 + 2 * H → ∃ U2, stepGo H L fuel U m = (true, 0, U2) ∧ (∀ i, 4 ≤ i → U2.getD i 0 = U.getD i 0) ∧ hFr U2 = hFr U
  | _, 0, _, _, _, _, h, _, _, _, _, _ => absurd h (Nat.not_lt_zero _)
  | 0, f + 1, U, m, j, hj, hf, hm, sc, fr, hd, hl => by
    refine ⟨(U.set 2 0).set 3 0, ?_, fun i hi => ?_, ?_⟩
    · rw [stepGo, if_pos (by rw [sc, fr, hj]; rfl)]
    · rw [getD_set_ne (by omega), getD_set_ne (by omega)]
    · rw [hFr, getD_set_ne (by omega), getD_set_ne (by omega)]
      rfl
  | d + 1, f + 1, U, m, j, hj, hf, hm, sc, fr, hd, hl => by
    have hs := mul_step z (show j < n by omega)
    obtain ⟨p1, p2, p3⟩ := hd_back sh
    have hz1 : 1 ≤ z := by have := shOk_yes sh; omega
    have et : (((16 + H + j * z : Nat) : Int)).toNat = 16 + H + j * z := Int.toNat_natCast _
    have e3 : hSc (U.set 3 (((16 + H + j * z : Nat) : Int) + 1 + 0 + wo)) = ((16 + H + (j + 1) * z : Nat) : Int) := by
      rw [hSc, getD_set_eq (by omega), Nat.succ_mul]
      omega
    have e1 : hFr (U.set 3 (((16 + H + j * z : Nat) : Int) + 1 + 0 + wo)) = hFr U := getD_set_ne (by decide)
    obtain ⟨U2, q1, q2, q3⟩ := scan_go hz sh room d f (U := U.set 3 (((16 + H + j * z : Nat) : Int) + 1 + 0 + wo)) (m := m - 1) (j := j + 1) (by omega) (by omega) (by omega) e3 (e1.trans fr) (fun i hi => by rw [getD_set_ne (by omega)]; exact hd i hi) (by rw [List.length_set]; exact hl)
    refine ⟨U2, ?_, fun i hi => (q2 i hi).trans (getD_set_ne (by omega)), q3.trans e1⟩
    rw [stepGo, if_neg (by rw [sc, fr]; omega), if_neg (by omega), sc, et, hd j (by omega), p1, p2, p3, fr, if_neg (by
      intro q
      rcases q with q | q
      · exact absurd q (by decide)
      · omega)]
    show (if (0 : Int) = 0 then stepGo H L f (U.set 3 (((16 + H + j * z : Nat) : Int) + 1 + 0 + wo)) (m - 1) else _) = _
    rw [if_pos rfl]
    exact q1
/-- What is there of them behind a collection. -/
theorem Rgs.all (x : Rgs H L z wo n V T) (hz : 1 + wo = (z : Int)) (sh : shOk 0 wo = true) (hw : 1 ≤ wo) (room : n * z ≤ H) (hn : 1 ≤ n) (h8 : n ≤ 8) : ∃ V2 T2, alg H L V (regL z n) = (0, regN H z n, V2) ∧ Fin H L V2 T2 (osz V) ∧ hSp V2 = 1 ∧ hFr V2 = ((16 + H + n * z : Nat) : Int) ∧
    ∀ j, j < n → wrdE H L V2 ((16 + H + j * z : Nat) : Int) 0 = 0 ∧ wrdV H L V2 ((16 + H + j * z : Nat) : Int) 0 = (j : Int) + 7 := by
  obtain ⟨V1, V2, T1, T2, out, e1, e2, p1, e3, f2, rc, r2, s2⟩ := fin_regs x.o.f (regL z n) (x.vals hn)
  obtain ⟨t0, t1, t2, tc⟩ := x.turn
  have md := x.regs hz sh hw room (regL z n) (fun j h => regL_at h) (by rw [regL_len]; omega) (x.vals hn) n (Nat.le_refl _)
  obtain ⟨o1, o2⟩ := x.out hz sh hw room hn
  rw [t0, regL_len] at e2
  rw [e2] at o1 o2
  obtain rfl : out = regN H z n := o1
  have o2 : V1 = (regsGo H L (turned H V) (regL z n) n).2.2 := o2
  rw [x.o.sp] at s2
  have s2 : hSp V2 = 1 := s2
  obtain ⟨_, i1, i2, i3, i4, i5⟩ := md
  rw [← o2] at i2 i3 i4 i5
  obtain ⟨U2, q1, q2, q3⟩ := scan_go (L := L) hz sh room n 1000 (U := V1) (m := 10000) (j := 0) (by omega) (by omega) (by omega) (by rw [Nat.zero_mul]; exact i3) i2 (fun i hi => (i4 i hi).1) p1.p.gi.len
  rw [(p1.p.stp (n := 10000) (by decide)).1, q1] at e3
  obtain rfl : U2 = V2 := congrArg (fun y => y.2.2) e3
  rw [i2] at q3
  refine ⟨U2, T2, alg_yes x.o.f.off e1 ((p1.p.stp (n := 10000) (by decide)).1.trans q1), f2, s2, q3, fun j hj => ?_⟩
  obtain ⟨v1, v2, _⟩ := i4 j hj
  have hs := mul_step z hj
  obtain ⟨p1', p2, p3⟩ := hd_back sh
  have et : (((16 + H + j * z : Nat) : Int)).toNat = 16 + H + j * z := Int.toNat_natCast _
  have h1 : U2.getD (16 + H + j * z) 0 = hdI 0 wo := (q2 _ (by omega)).trans v1
  have h2 : U2.getD (17 + H + j * z) 0 = (j : Int) + 7 := (q2 _ (by omega)).trans v2
  have ob : objB H L U2 ((16 + H + j * z : Nat) : Int) = true := by
    rw [objB, f2.gi.ok, s2, q3, et, h1, p1', p2, p3, show inB (H : Int) 1 ((16 + H + j * z : Nat) : Int) = true from decide_eq_true (by omega), decide_eq_true (show ((16 + H + j * z : Nat) : Int) < ((16 + H + n * z : Nat) : Int) by omega), decide_eq_true (show ((16 + H + j * z : Nat) : Int) + 1 + 0 + wo ≤ ((16 + H + n * z : Nat) : Int) by omega)]
    rfl
  have sE : shpE H L U2 ((16 + H + j * z : Nat) : Int) = 0 := by rw [shpE, if_neg (by omega), if_pos ob]
  have sS : shpS H L U2 ((16 + H + j * z : Nat) : Int) = 0 := by rw [shpS, if_pos sE, et, h1, p2]
  have sW : shpW H L U2 ((16 + H + j * z : Nat) : Int) = wo := by rw [shpW, if_pos sE, et, h1, p3]
  have wE : wrdE H L U2 ((16 + H + j * z : Nat) : Int) 0 = 0 := by rw [wrdE, if_pos sE, sW, if_neg (by omega)]
  refine ⟨wE, ?_⟩
  rw [wrdV, if_pos wE, sS, show (((16 + H + j * z : Nat) : Int) + 1 + 0 + 0).toNat = 17 + H + j * z by omega]
  exact h2
end
end Go.Proofs.YteijhbnnhadkhaaGreatDoor
