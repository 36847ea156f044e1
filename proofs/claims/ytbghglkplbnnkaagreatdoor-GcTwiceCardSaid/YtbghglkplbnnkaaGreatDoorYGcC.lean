import Derived.Test.YtbghglkplbnnkaaGreatDoorYGcB
import Derived.Test.YtbghglkplbnnkaaGreatDoorYMathA
import Derived.Test.YtbghglkplbnnkaaGreatDoorYHeapB
set_option linter.unusedVariables false
set_option linter.unusedSimpArgs false
-- GcEnd
namespace Go.Proofs.YtbghglkplbnnkaaGreatDoor
open Go.RowKit

structure Fin (H L : Nat) (V T : List Int) (Z : Int → Int) : Prop where
  gi : Gi H L V T [] Z
  off : hGc V = 0
section
variable {H L : Nat} {V T O : List Int} {Z : Int → Int} {R : List Int}
theorem Pr0.over (p : Pr0 H L V T O Z) (e : hSc V = hFr V) : Fin H L ((V.set 2 0).set 3 0) T Z ∧ (∀ R, Reach V T R → Reach ((V.set 2 0).set 3 0) T R) ∧ gr H L ((V.set 2 0).set 3 0) = gr H L V ∧ hSp ((V.set 2 0).set 3 0) = hSp V ∧ hFr ((V.set 2 0).set 3 0) = hFr V := by
  have g := p.gi
  have hl := g.len
  have hg := g.geo
  have cells : ∀ i, i ≠ 2 → i ≠ 3 → ((V.set 2 0).set 3 0).getD i 0 = V.getD i 0 := fun i h2 h3 => by rw [getD_set_ne (by omega), getD_set_ne (by omega)]
  have c0 : hSp ((V.set 2 0).set 3 0) = hSp V := cells 0 (by decide) (by decide)
  have c1 : hFr ((V.set 2 0).set 3 0) = hFr V := cells 1 (by decide) (by decide)
  have c2 : hGc ((V.set 2 0).set 3 0) = 0 := by rw [hGc, getD_set_ne (by decide), getD_set_eq (by omega)]
  have c3 : hSc ((V.set 2 0).set 3 0) = 0 := by rw [hSc, getD_set_eq (by rw [List.length_set]; omega)]
  have ok : hOk H L ((V.set 2 0).set 3 0) = true := by
    obtain ⟨f1, f2, f3, f4, f5⟩ := fine_yes g.ok
    rw [hOk, c0, c1, c2, c3, fineB, f1, Bool.true_and, decide_eq_true (show 0 ≤ hSp V ∧ hSp V ≤ 1 ∧ (0 : Int) ≤ 0 ∧ (0 : Int) ≤ 1 by omega), Bool.true_and, decide_eq_true f4, Bool.true_and, decide_eq_true (show (0 : Int) = 0 ∧ (0 : Int) = 0 from ⟨rfl, rfl⟩), Bool.true_or]
  have hT : ∀ t ∈ T, ((V.set 2 0).set 3 0).getD t.toNat 0 = V.getD t.toNat 0 := fun t ht => by
    have := (g.inT ht).2.1
    exact cells _ (by omega) (by omega)
  have cl : ∀ (b : Int) (n : Nat), 4 ≤ b → celL ((V.set 2 0).set 3 0) b n = celL V b n := fun b n hb => celL_same (fun i _ => cells _ (by omega) (by omega))
  have sT : ∀ t ∈ T, slL ((V.set 2 0).set 3 0) t = slL V t ∧ wdL ((V.set 2 0).set 3 0) t = wdL V t := fun t ht => by
    have hq := shOk_yes (pr_range (V.getD t.toNat 0))
    have := (g.inT ht).2.1
    rw [slL, slL, wdL, wdL, hT t ht]
    exact ⟨cl _ _ (by omega), cl _ _ (by omega)⟩
  have vv : ∀ x, (x = 0 ∨ x ∈ T) → Val T [] x := fun x h => h.imp id .inl
  have blk : ∀ t ∈ T, ∀ x ∈ slL V t, x = 0 ∨ x ∈ T := fun t ht => p.black t ht (by
    have := (g.used.1 t ht).2.1
    have := osz_pos V t
    omega)
  have g2 : Gi H L ((V.set 2 0).set 3 0) T [] Z := by
    refine ⟨by rw [List.length_set, List.length_set]; exact hl, ok, (g.num.set 2 (by decide) (by decide)).set 3 (by decide) (by decide), ?_, fun o ho => absurd ho List.not_mem_nil, List.Pairwise.nil, fun o ho => absurd ho List.not_mem_nil, fun h => absurd rfl h, ?_, fun t ht => ?_, fun o ho => absurd ho List.not_mem_nil⟩
    · have e := g.ob
      rw [objs, if_pos g.ok] at e
      rw [objs, if_pos ok, c0, c1, objGo_same (W := V) 1000 _ (fun y hy => hT y (by rw [e] at hy; exact hy)) (by rw [e]), e]
    · rw [cl 8 8 (by decide)]
      exact fun x hx => vv x (p.roots x hx)
    · rw [(sT t ht).1]
      exact fun x hx => vv x (blk t ht x hx)
  refine ⟨⟨g2, c2⟩, fun R hR t ht => ?_, ?_, c0, c1⟩
  · rw [cl 8 8 (by decide)]
    refine (hR t ht).imp id (Or.imp id ?_)
    rintro ⟨s, hs, h1, h2⟩
    exact ⟨s, hs, h1, by rw [(sT s hs).1]; exact h2⟩
  · have idk : ∀ q : Int, (if q = 0 then 0 else id q) = q := fun q => by
      split
      · next h => exact h.symm
      · rfl
    have ref : ∀ x, (x = 0 ∨ x ∈ T) → Ref H L V ((V.set 2 0).set 3 0) (fun k => k ∈ T) id x x := fun x hx => by
      rcases hx with rfl | hx
      · exact ⟨0, g.key0, .inl rfl, by rw [idk]; exact g2.key0⟩
      · exact ⟨x, g.keyT hx, .inr hx, by rw [idk]; exact g2.keyT hx⟩
    refine gr_same (P := fun k => k ∈ T) (f := id) ⟨fun q r _ _ e => e, fun q hq => ⟨g.ne0 (.inl hq), g.ne0 (O := O) (.inl hq)⟩, fun q hq => ⟨g.nb (.inl hq), g2.nb (.inl hq)⟩, fun q hq => ?_, fun q hq => (sT q hq).2⟩ ?_
    · rw [show id q = q from rfl, (sT q hq).1]
      exact RefL.diag (fun y hy => ref y (blk q hq y hy))
    · rw [cl 8 8 (by decide)]
      exact RefL.diag (fun y hy => ref y (p.roots y hy))
theorem Pr0.go : ∀ (k : Nat) {V T : List Int} (_ : Pr0 H L V T O Z) {n : Int} (_ : 0 ≤ n) (_ : 16 + hSp V * (H : Int) + H - hSc V < (k : Int)),
    ((stepGo H L k V n).2.1 = 0 ∨ (stepGo H L k V n).2.1 = 6) ∧ (Room H V O Z → (stepGo H L k V n).2.1 = 0) ∧ ((stepGo H L k V n).2.1 = 0 →
      gr H L (stepGo H L k V n).2.2 = gr H L V ∧ hSp (stepGo H L k V n).2.2 = hSp V ∧ ∃ T2, (∀ R, Reach V T R → Reach (stepGo H L k V n).2.2 T2 R) ∧
        (((stepGo H L k V n).1 = false ∧ Pr0 H L (stepGo H L k V n).2.2 T2 O Z ∧ (Room H V O Z → Room H (stepGo H L k V n).2.2 O Z)) ∨ ((stepGo H L k V n).1 = true ∧ Fin H L (stepGo H L k V n).2.2 T2 Z)))
  | 0, V, T, p, n, hn, hk => by
    have hg := p.gi.geo
    obtain ⟨_, _, _, _, f5⟩ := fine_yes p.gi.ok
    have := p.on
    omega
  | k + 1, V, T, p, n, hn, hk => by
    rw [stepGo]
    by_cases n1 : hSc V = hFr V
    · rw [if_pos n1]
      obtain ⟨f, re, r, s, _⟩ := p.over n1
      exact ⟨.inl rfl, fun _ => rfl, fun _ => ⟨r, s, T, re, .inr ⟨rfl, f⟩⟩⟩
    · rw [if_neg n1]
      by_cases n2 : n = 0
      · rw [if_pos n2]
        exact ⟨.inl rfl, fun _ => rfl, fun _ => ⟨rfl, rfl, T, fun _ h => h, .inl ⟨rfl, p, id⟩⟩⟩
      · rw [if_neg n2]
        obtain ⟨h1, h2, e6, er, ex⟩ := p.step n1
        rw [if_neg (show ¬ (hdOk (V.getD (hSc V).toNat 0) = false ∨ hFr V < hSc V + 1 + prS (V.getD (hSc V).toNat 0) + prW (V.getD (hSc V).toNat 0)) from fun h => h.elim (fun e => by rw [h1] at e; exact absurd e (by decide)) h2)]
        by_cases e0 : (slotsGo H L V (hSc V).toNat (prS (V.getD (hSc V).toNat 0)).toNat).1 = 0
        · rw [if_pos e0]
          obtain ⟨T2, _, p2, rm2, re2, r2, s2, sc2⟩ := ex e0
          have oz := osz_pos V (hSc V)
          obtain ⟨i1, i2, i3⟩ := Pr0.go k p2 (n := n - 1) (by omega) (by rw [s2, sc2]; omega)
          refine ⟨i1, fun rm => i2 (rm2 rm), fun e => ?_⟩
          obtain ⟨j1, j2, T3, j3, j4⟩ := i3 e
          exact ⟨j1.trans r2, j2.trans s2, T3, fun R h => j3 R (re2 R h), j4.imp (fun ⟨q1, q2, q3⟩ => ⟨q1, q2, fun rm => q3 (rm2 rm)⟩) id⟩
        · rw [if_neg e0]
          exact ⟨e6, er, fun e => absurd e e0⟩
theorem used_perm {V : List Int} {f : Int → Bool} : ∀ {A B : List Int}, A.Perm B → used V f A = used V f B := by
  intro A B h
  induction h with
  | nil => rfl
  | cons x _ ih => rw [used, used, ih]
  | swap x y l =>
    rw [used, used, used, used]
    omega
  | trans _ _ h1 h2 => exact h1.trans h2
theorem gi_nod (g : Gi H L V T O Z) {at_ : List Int} (ha : ∀ x ∈ at_, Live V T O x) (hn : at_.Nodup) {y : Int} (hy : Val T O y) :
    ∃ m at1, nod H L V at_ y = some (m, at1) ∧ (∃ X, at1 = at_ ++ X) ∧ (∀ x ∈ at1, Live V T O x) ∧ at1.Nodup ∧ ((lk H L V y).1 = 0 ∨ (lk H L V y).1 ∈ at1) := by
  obtain ⟨k, e, hk⟩ := g.key hy
  rw [nod_eq e, e]
  by_cases q : k = 0
  · exact ⟨0, at_, if_pos q, ⟨[], by simp⟩, ha, hn, .inl q⟩
  · rw [if_neg q]
    by_cases m : k ∈ at_
    · exact ⟨_, at_, if_pos m, ⟨[], by simp⟩, ha, hn, .inr m⟩
    · have hl := hk.resolve_left q
      rw [if_neg m, if_pos (g.nb hl)]
      refine ⟨_, _, rfl, ⟨[k], rfl⟩, fun x hx => ?_, ?_, .inr (by simp)⟩
      · rcases List.mem_append.1 hx with hx | hx
        · exact ha x hx
        · rw [List.mem_singleton.1 hx]
          exact hl
      · refine List.nodup_append.2 ⟨hn, by simp, fun a h1 b h2 e => ?_⟩
        rw [List.mem_singleton.1 h2] at e
        exact m (e ▸ h1)
theorem gi_nods (g : Gi H L V T O Z) : ∀ {l at_ : List Int}, (∀ x ∈ at_, Live V T O x) → at_.Nodup → (∀ y ∈ l, Val T O y) →
    ∃ ns at1, nods H L V at_ l = some (ns, at1) ∧ ns.length = l.length ∧ (∃ X, at1 = at_ ++ X) ∧ (∀ x ∈ at1, Live V T O x) ∧ at1.Nodup ∧ ∀ y ∈ l, (lk H L V y).1 = 0 ∨ (lk H L V y).1 ∈ at1
  | [], at_, ha, hn, _ => ⟨[], at_, rfl, rfl, ⟨[], by simp⟩, ha, hn, fun y hy => absurd hy List.not_mem_nil⟩
  | y :: r, at_, ha, hn, hv => by
    obtain ⟨m, at1, e1, ⟨X, eX⟩, a1, n1, c1⟩ := gi_nod g ha hn (hv y (List.mem_cons_self ..))
    obtain ⟨ns, at2, e2, l2, ⟨Y, eY⟩, a2, n2, c2⟩ := gi_nods g a1 n1 (fun z hz => hv z (List.mem_cons_of_mem _ hz))
    refine ⟨m :: ns, at2, by rw [nods, e1]; simp only [e2], by rw [List.length_cons, List.length_cons, l2], ⟨X ++ Y, by rw [eY, eX, List.append_assoc]⟩, a2, n2, fun z hz => ?_⟩
    rcases List.mem_cons.1 hz with rfl | hz
    · exact c1.imp id (fun h => by rw [eY]; exact List.mem_append.2 (.inl h))
    · exact c2 z hz
theorem slL_len (V : List Int) (a : Int) : (slL V a).length = (prS (V.getD a.toNat 0)).toNat := by rw [slL, celL, List.length_map, List.length_range]
theorem wdL_len (V : List Int) (a : Int) : (wdL V a).length = (prW (V.getD a.toNat 0)).toNat := by rw [wdL, celL, List.length_map, List.length_range]
theorem live_len (g : Gi H L V T O Z) {at_ : List Int} (ha : ∀ x ∈ at_, Live V T O x) (hn : at_.Nodup) : at_.length ≤ T.length + O.length := by
  rw [← List.length_append]
  refine List.Nodup.length_le_of_subset hn (fun x hx => ?_)
  rcases ha x hx with h | h
  · exact List.mem_append.2 (.inl h)
  · exact List.mem_append.2 (.inr h.1)
theorem gi_frmGo (g : Gi H L V T O Z) : ∀ (n k : Nat) {at_ : List Int} (out : List (List Int × List Int)), (∀ x ∈ at_, Live V T O x) → at_.Nodup → T.length + O.length < n + k → k ≤ at_.length →
    ∃ o at1, frmGo H L V n k at_ out = some (o, at1) ∧ (∃ X, at1 = at_ ++ X) ∧ (∀ x ∈ at1, Live V T O x) ∧ at1.Nodup ∧ (∀ j, k ≤ j → j < at1.length → ∀ y ∈ slL V (at1.getD j 0), (lk H L V y).1 = 0 ∨ (lk H L V y).1 ∈ at1) ∧
      ∃ Y, o = out ++ Y ∧ Y.map (fun d => (d.1.length, d.2)) = (at1.drop k).map (fun a => ((slL V a).length, wdL V a))
  | 0, k, at_, out, ha, hn, hf, hk => by
    have := live_len g ha hn
    omega
  | n + 1, k, at_, out, ha, hn, hf, hk => by
    by_cases q : k < at_.length
    · have hm : at_.getD k 0 ∈ at_ := by
        rw [List.getD_eq_getElem?_getD, List.getElem?_eq_getElem q]
        exact List.getElem_mem q
      obtain ⟨ns, at1, e1, l1, ⟨X, eX⟩, a1, n1, c1⟩ := gi_nods g ha hn (g.slots (ha _ hm))
      have lX : at1.length = at_.length + X.length := by rw [eX, List.length_append]
      obtain ⟨o, at2, e2, ⟨X2, eX2⟩, a2, n2, c2, Y, eo, eY⟩ := gi_frmGo g n (k + 1) (out ++ [(ns, wdL V (at_.getD k 0))]) a1 n1 (by omega) (by omega)
      have lX2 : at2.length = at1.length + X2.length := by rw [eX2, List.length_append]
      have at2k : at2.getD k 0 = at_.getD k 0 := by
        rw [eX2, eX, List.append_assoc, List.getD_eq_getElem?_getD, List.getElem?_append_left q, List.getD_eq_getElem?_getD]
      refine ⟨o, at2, by rw [frmGo, if_pos q, e1]; exact e2, ⟨X ++ X2, by rw [eX2, eX, List.append_assoc]⟩, a2, n2, fun j hj hjl => ?_, (ns, wdL V (at_.getD k 0)) :: Y, by rw [eo, List.append_assoc]; rfl, ?_⟩
      · by_cases e : j = k
        · subst e
          rw [at2k]
          exact fun y hy => (c1 y hy).imp id (fun h => by rw [eX2]; exact List.mem_append.2 (.inl h))
        · exact c2 j (by omega) hjl
      · have hk2 : k < at2.length := by omega
        have e3 : at2[k] = at_.getD k 0 := by rw [← at2k, List.getD_eq_getElem?_getD, List.getElem?_eq_getElem hk2]; rfl
        rw [List.map_cons, eY, List.drop_eq_getElem_cons hk2, List.map_cons, e3, l1]
    · refine ⟨out, at_, by rw [frmGo, if_neg q], ⟨[], by simp⟩, ha, hn, fun j h1 h2 => by omega, [], by simp, ?_⟩
      rw [List.drop_of_length_le (by omega)]
      rfl
def dSize : List (List Int × List Int) → Int
  | [] => 0
  | d :: r => 1 + (d.1.length : Int) + (d.2.length : Int) + dSize r
theorem dSize_used {V : List Int} : ∀ {Y : List (List Int × List Int)} {A : List Int}, Y.map (fun d => (d.1.length, d.2)) = A.map (fun a => ((slL V a).length, wdL V a)) → dSize Y = used V (fun _ => true) A
  | [], [], _ => rfl
  | [], _ :: _, h => by cases h
  | _ :: _, [], h => by cases h
  | d :: Y, a :: A, h => by
    rw [List.map_cons, List.map_cons] at h
    obtain ⟨h1, h2⟩ := List.cons.inj h
    obtain ⟨h3, h4⟩ := Prod.mk.inj h1
    have hq := shOk_yes (pr_range (V.getD a.toNat 0))
    rw [dSize, used, if_pos rfl, dSize_used h2, h3, h4, slL_len, wdL_len, osz]
    omega
theorem gi_len (g : Gi H L V T O Z) : T.length ≤ 400 ∧ O.length ≤ 400 := by
  have hg := g.geo
  refine ⟨?_, ?_⟩
  · have := objs_len H L V
    rwa [g.ob] at this
  · have go : ∀ (l : List Int) (b : Int), l.Pairwise (fun a b => a + Z a ≤ b) → (∀ o ∈ l, b ≤ o ∧ o + Z o ≤ 16 + (1 - hSp V) * (H : Int) + H ∧ 1 ≤ Z o) → b ≤ 16 + (1 - hSp V) * (H : Int) + H → (l.length : Int) ≤ 16 + (1 - hSp V) * (H : Int) + H - b := by
      intro l
      induction l with
      | nil => intro b _ _ h; rw [List.length_nil]; omega
      | cons y l ih =>
        intro b h1 h2 h3
        obtain ⟨p1, p2⟩ := List.pairwise_cons.1 h1
        have hy := h2 y (List.mem_cons_self ..)
        have := ih (y + Z y) p2 (fun o ho => ⟨p1 o ho, (h2 o (List.mem_cons_of_mem _ ho)).2⟩) (by omega)
        rw [List.length_cons]
        omega
    have := go O (16 + (1 - hSp V) * (H : Int)) g.apart g.old (by omega)
    omega
theorem gi_frm (g : Gi H L V T O Z) : ∃ rs o at1, frm H L V (celL V 8 8) = some (rs, o, at1) ∧ rs.length = 8 ∧ (∀ x ∈ at1, Live V T O x) ∧ at1.Nodup ∧ (∀ y ∈ celL V 8 8, (lk H L V y).1 = 0 ∨ (lk H L V y).1 ∈ at1) ∧
    (∀ x ∈ at1, ∀ y ∈ slL V x, (lk H L V y).1 = 0 ∨ (lk H L V y).1 ∈ at1) ∧ o.length = at1.length ∧ dSize o = used V (fun _ => true) at1 := by
  obtain ⟨l1, l2⟩ := gi_len g
  obtain ⟨rs, at0, e1, r1, _, a0, n0, c0⟩ := gi_nods g (at_ := []) (fun x hx => absurd hx List.not_mem_nil) List.Pairwise.nil g.root
  obtain ⟨o, at1, e2, ⟨X, eX⟩, a1, n1, c1, Y, eo, eY⟩ := gi_frmGo g 1000 0 [] a0 n0 (by omega) (Nat.zero_le _)
  rw [List.nil_append] at eo
  subst eo
  rw [List.drop_zero] at eY
  refine ⟨rs, o, at1, by rw [frm, e1]; simp only [e2], ?_, a1, n1, fun y hy => (c0 y hy).imp id (fun h => by rw [eX]; exact List.mem_append.2 (.inl h)), fun x hx y hy => ?_, ?_, dSize_used eY⟩
  · rw [r1, celL, List.length_map, List.length_range]
  · obtain ⟨j, hj, e⟩ := List.getElem_of_mem hx
    refine c1 j (Nat.zero_le _) hj y ?_
    rw [List.getD_eq_getElem?_getD, List.getElem?_eq_getElem hj]
    rw [← e] at hy
    exact hy
  · have := congrArg List.length eY
    rwa [List.length_map, List.length_map] at this
theorem Fin.size (f : Fin H L V T Z) (hR : Reach V T []) : ∃ rs o at1, frm H L V (celL V 8 8) = some (rs, o, at1) ∧ dSize o = hFr V - (16 + hSp V * (H : Int)) ∧ o.length = T.length := by
  have g := f.gi
  obtain ⟨rs, o, at1, e, _, a1, n1, c0, c1, lo, ds⟩ := gi_frm g
  have live : ∀ x, Live V T [] x → x ∈ T := fun x h => h.elim id (fun h => absurd h.1 List.not_mem_nil)
  have keyT : ∀ t ∈ T, (lk H L V t).1 = t := fun t ht => by rw [g.keyT ht]
  have all : ∀ (n : Nat) (t : Int), t ∈ T → t < (n : Int) → t ∈ at1 := by
    intro n
    induction n with
    | zero => intro t ht h; have := (g.inT ht).2.1; omega
    | succ n ih =>
      intro t ht h
      have t16 := (g.inT ht).2.1
      rcases hR t ht with h1 | h1 | ⟨s, hs, h1, h2⟩
      · exact absurd h1 List.not_mem_nil
      · have := c0 t h1
        rw [keyT t ht] at this
        exact this.resolve_left (by omega)
      · have := c1 s (ih s hs (by omega)) t h2
        rw [keyT t ht] at this
        exact this.resolve_left (by omega)
  have nT : T.Nodup := (g.used.2).imp (fun {a b} h => by have := osz_pos V a; omega)
  have pm : at1.Perm T := (List.perm_ext_iff_of_nodup n1 nT).2 (fun x => ⟨fun h => live x (a1 x h), fun h => all (x.toNat + 1) x h (by have := (g.inT h).2.1; omega)⟩)
  exact ⟨rs, o, at1, e, by rw [ds, used_perm pm, (gi_lists g).2.2], lo.trans pm.length_eq⟩
end
end Go.Proofs.YtbghglkplbnnkaaGreatDoor
-- GcMake
namespace Go.Proofs.YtbghglkplbnnkaaGreatDoor
open Go.RowKit

section
variable {H L : Nat} {V T O : List Int} {Z : Int → Int}
theorem Gi.setr (g : Gi H L V T O Z) {c : Nat} (hc : IsRef V T c) {k : Int} (kv : Val T O k) : Gi H L (V.set c k) T O Z := by
  obtain ⟨c8, cl, _⟩ := g.refC hc
  have hg := g.geo
  have hl := g.len
  have kb : 0 ≤ k ∧ k < 4294967296 := by
    rcases kv with h | h | h
    · omega
    · have := g.inT h
      omega
    · have := g.inO h
      omega
  have ctl : ∀ i, i < 8 → (V.set c k).getD i 0 = V.getD i 0 := fun i hi => getD_set_ne (by omega)
  have e0 : hSp (V.set c k) = hSp V := ctl 0 (by decide)
  have e1 : hFr (V.set c k) = hFr V := ctl 1 (by decide)
  have e2 : hGc (V.set c k) = hGc V := ctl 2 (by decide)
  have hT : ∀ t ∈ T, (V.set c k).getD t.toNat 0 = V.getD t.toNat 0 := fun t ht => getD_set_ne (g.refT hc ht).1
  have hO : ∀ o ∈ O, (V.set c k).getD o.toNat 0 = V.getD o.toNat 0 := fun o ho => getD_set_ne (by
    have := g.refO hc ho
    have := g.old o ho
    omega)
  have ok : hOk H L (V.set c k) = true := ok_set g.ok (by omega) k
  have cell : ∀ i, (V.set c k).getD i 0 = k ∨ (V.set c k).getD i 0 = V.getD i 0 := fun i => by
    rw [getD_set]
    split
    · exact .inl rfl
    · exact .inr rfl
  refine ⟨by rw [List.length_set]; exact hl, ok, g.num.set c kb.1 kb.2, ?_, by rw [e0]; exact g.old, g.apart, ?_, by rw [e2]; exact g.gc, ?_, ?_, ?_⟩
  · have e := g.ob
    rw [objs, if_pos g.ok] at e
    rw [objs, if_pos ok, e0, e1, objGo_same (W := V) 1000 _ (fun y hy => hT y (by rw [e] at hy; exact hy)) (by rw [e]), e]
  · intro o ho
    rw [osz, hO o ho]
    exact g.kind o ho
  · intro x hx2
    obtain ⟨i, hi, rfl⟩ := mem_celL.1 hx2
    rcases cell ((8 : Int).toNat + i) with q | q
    · rw [q]; exact kv
    · rw [q]; exact g.root _ (mem_celL.2 ⟨i, hi, rfl⟩)
  · intro t ht x hx2
    rw [slL, hT t ht] at hx2
    obtain ⟨i, hi, rfl⟩ := mem_celL.1 hx2
    rcases cell ((t + 1).toNat + i) with q | q
    · rw [q]; exact kv
    · rw [q]; exact g.slot t ht _ (mem_celL.2 ⟨i, hi, rfl⟩)
  · intro o ho hd x hx2
    rw [hO o ho] at hd
    have z := g.size ho hd
    have r := g.refO hc ho
    have u := g.old o ho
    have hp := shOk_yes (pr_range (V.getD o.toNat 0))
    rw [osz] at z
    rw [slL, hO o ho, celL_off (by omega)] at hx2
    exact g.oslot o ho hd x hx2
theorem Pr0.setr (p : Pr0 H L V T O Z) {c : Nat} (hc : IsRef V T c) {k : Int} (kv : k = 0 ∨ k ∈ T) : Pr0 H L (V.set c k) T O Z := by
  have g := p.gi
  obtain ⟨c8, cl, _⟩ := g.refC hc
  have ctl : ∀ i, i < 8 → (V.set c k).getD i 0 = V.getD i 0 := fun i hi => getD_set_ne (by omega)
  have e1 : hFr (V.set c k) = hFr V := ctl 1 (by decide)
  have e2 : hGc (V.set c k) = hGc V := ctl 2 (by decide)
  have e3 : hSc (V.set c k) = hSc V := ctl 3 (by decide)
  have hT : ∀ t ∈ T, (V.set c k).getD t.toNat 0 = V.getD t.toNat 0 := fun t ht => getD_set_ne (g.refT hc ht).1
  have cell : ∀ i, (V.set c k).getD i 0 = k ∨ (V.set c k).getD i 0 = V.getD i 0 := fun i => by
    rw [getD_set]
    split
    · exact .inl rfl
    · exact .inr rfl
  refine ⟨g.setr hc (kv.imp id .inl), e2.trans p.on, fun x hx => ?_, fun t ht h x hx => ?_, by rw [e3, e1]; exact p.scan⟩
  · obtain ⟨i, hi, rfl⟩ := mem_celL.1 hx
    rcases cell ((8 : Int).toNat + i) with q | q
    · rw [q]; exact kv
    · rw [q]; exact p.roots _ (mem_celL.2 ⟨i, hi, rfl⟩)
  · rw [e3] at h
    rw [slL, hT t ht] at hx
    obtain ⟨i, hi, rfl⟩ := mem_celL.1 hx
    rcases cell ((t + 1).toNat + i) with q | q
    · rw [q]; exact kv
    · rw [q]; exact p.black t ht h _ (mem_celL.2 ⟨i, hi, rfl⟩)
def IsWord (V T : List Int) (c : Nat) : Prop := ∃ t ∈ T, t + prS (V.getD t.toNat 0) < (c : Int) ∧ (c : Int) < t + osz V t
theorem Gi.wordC (g : Gi H L V T O Z) {c : Nat} (hc : IsWord V T c) : 16 ≤ c ∧ c < V.length ∧ (∀ t ∈ T, c ≠ t.toNat ∧ ((c : Int) < t ∨ t + prS (V.getD t.toNat 0) < (c : Int))) ∧ ∀ o ∈ O, c < o.toNat ∨ o.toNat + (Z o).toNat ≤ c := by
  obtain ⟨s, hs, h1, h2⟩ := hc
  have hg := g.geo
  have hl := g.len
  obtain ⟨u1, u2, _⟩ := g.used.1 s hs
  have hq := shOk_yes (pr_range (V.getD s.toNat 0))
  refine ⟨by omega, by omega, fun t ht => ?_, fun o ho => ?_⟩
  · have it := (g.inT ht).2.1
    have ot : osz V t = 1 + prS (V.getD t.toNat 0) + prW (V.getD t.toNat 0) := rfl
    have hp := shOk_yes (pr_range (V.getD t.toNat 0))
    by_cases e : s = t
    · subst e
      omega
    · have := g.apartT hs ht e
      omega
  · have u := g.old o ho
    omega
theorem Gi.setw (g : Gi H L V T O Z) {c : Nat} (hc : IsWord V T c) {v : Int} (h0 : 0 ≤ v) (h1 : v < 4294967296) : Gi H L (V.set c v) T O Z := by
  obtain ⟨c16, cl, cT, cO⟩ := g.wordC hc
  have hl := g.len
  have ctl : ∀ i, i < 16 → (V.set c v).getD i 0 = V.getD i 0 := fun i hi => getD_set_ne (by omega)
  have e0 : hSp (V.set c v) = hSp V := ctl 0 (by decide)
  have e1 : hFr (V.set c v) = hFr V := ctl 1 (by decide)
  have e2 : hGc (V.set c v) = hGc V := ctl 2 (by decide)
  have hT : ∀ t ∈ T, (V.set c v).getD t.toNat 0 = V.getD t.toNat 0 := fun t ht => getD_set_ne (cT t ht).1
  have hO : ∀ o ∈ O, (V.set c v).getD o.toNat 0 = V.getD o.toNat 0 := fun o ho => getD_set_ne (by
    have := cO o ho
    have := g.old o ho
    omega)
  have ok : hOk H L (V.set c v) = true := ok_set g.ok (by omega) v
  refine ⟨by rw [List.length_set]; exact hl, ok, g.num.set c h0 h1, ?_, by rw [e0]; exact g.old, g.apart, ?_, by rw [e2]; exact g.gc, ?_, ?_, ?_⟩
  · have e := g.ob
    rw [objs, if_pos g.ok] at e
    rw [objs, if_pos ok, e0, e1, objGo_same (W := V) 1000 _ (fun y hy => hT y (by rw [e] at hy; exact hy)) (by rw [e]), e]
  · intro o ho
    rw [osz, hO o ho]
    exact g.kind o ho
  · rw [celL_off (by right; show 8 + 8 ≤ c; omega)]
    exact g.root
  · intro t ht
    have it := (g.inT ht).2.1
    have q := (cT t ht).2
    have q2 := (cT t ht).1
    have hp := shOk_yes (pr_range (V.getD t.toNat 0))
    rw [slL, hT t ht, celL_off (by omega)]
    exact g.slot t ht
  · intro o ho hd
    rw [hO o ho] at hd
    have z := g.size ho hd
    have r := cO o ho
    have u := g.old o ho
    have hp := shOk_yes (pr_range (V.getD o.toNat 0))
    rw [osz] at z
    rw [slL, hO o ho, celL_off (by omega)]
    exact g.oslot o ho hd
theorem Pr0.setw (p : Pr0 H L V T O Z) {c : Nat} (hc : IsWord V T c) {v : Int} (h0 : 0 ≤ v) (h1 : v < 4294967296) : Pr0 H L (V.set c v) T O Z := by
  have g := p.gi
  obtain ⟨c16, cl, cT, cO⟩ := g.wordC hc
  have ctl : ∀ i, i < 16 → (V.set c v).getD i 0 = V.getD i 0 := fun i hi => getD_set_ne (by omega)
  have e1 : hFr (V.set c v) = hFr V := ctl 1 (by decide)
  have e2 : hGc (V.set c v) = hGc V := ctl 2 (by decide)
  have e3 : hSc (V.set c v) = hSc V := ctl 3 (by decide)
  refine ⟨g.setw hc h0 h1, e2.trans p.on, ?_, fun t ht h => ?_, by rw [e3, e1]; exact p.scan⟩
  · rw [celL_off (by right; show 8 + 8 ≤ c; omega)]
    exact p.roots
  · have it := (g.inT ht).2.1
    have q := (cT t ht).2
    have q2 := (cT t ht).1
    have hp := shOk_yes (pr_range (V.getD t.toNat 0))
    rw [e3] at h
    rw [slL, getD_set_ne q2, celL_off (by omega)]
    exact p.black t ht h
theorem Gi.new (g : Gi H L V T O Z) {s x : Int} {a n : Nat} (m : Mk H L V s x a n) : Gi H L (newW H L V s x) (T ++ [hFr V]) O Z ∧ slL (newW H L V s x) (a : Int) = List.replicate s.toNat 0 ∧ (newW H L V s x).getD a 0 = hdI s x ∧
    (∀ t ∈ T, (newW H L V s x).getD t.toNat 0 = V.getD t.toNat 0 ∧ slL (newW H L V s x) t = slL V t) ∧ celL (newW H L V s x) 8 8 = celL V 8 8 := by
  have hg := g.geo
  have hl := g.len
  obtain ⟨c0, c1, c2, c3⟩ := m.ctl
  have fr := m.fr
  have le := m.le
  have a16 := m.a16
  have n1 := m.n1
  have sz := m.sz
  have hsh := shOk_yes m.sh
  have hT : ∀ t ∈ T, (newW H L V s x).getD t.toNat 0 = V.getD t.toNat 0 ∧ slL (newW H L V s x) t = slL V t := fun t ht => by
    obtain ⟨u1, u2, _⟩ := g.used.1 t ht
    have hp := shOk_yes (pr_range (V.getD t.toNat 0))
    rw [osz] at u2
    have e : (newW H L V s x).getD t.toNat 0 = V.getD t.toNat 0 := m.other (by omega) (by omega)
    refine ⟨e, ?_⟩
    rw [slL, slL, e]
    exact celL_same (fun i hi => m.other (by omega) (by omega))
  have hO : ∀ o ∈ O, (newW H L V s x).getD o.toNat 0 = V.getD o.toNat 0 := fun o ho => by
    have u := g.old o ho
    exact m.other (by omega) (by omega)
  have root : celL (newW H L V s x) 8 8 = celL V 8 8 := celL_same (fun i hi => by
    have : (8 : Int).toNat + i = 8 + i := rfl
    rw [this]
    exact m.other (by omega) (by omega))
  have hp0 : prS (hdI s x) = s := by
    have q := hd_back m.sh
    exact q.2.1
  have sla : slL (newW H L V s x) (a : Int) = List.replicate s.toNat 0 := by
    rw [slL, Int.toNat_natCast, m.hd, hp0]
    apply List.ext_getElem
    · rw [celL, List.length_map, List.length_range, List.length_replicate]
    · intro i h1 h2
      rw [List.length_replicate] at h2
      rw [List.getElem_replicate]
      simp only [celL, List.getElem_map, List.getElem_range]
      exact m.zero (by omega) (by omega)
  have ok := m.ok'
  refine ⟨⟨(new_len _ _ _ _ _).trans hl, ok, m.num g.num, ?_, by rw [c0]; exact g.old, g.apart, ?_, by rw [c2]; exact g.gc, ?_, ?_, ?_⟩, sla, m.hd, hT, root⟩
  · rw [m.objs (by rw [g.ob]), g.ob, fr]
  · intro o ho
    rw [osz, hO o ho]
    exact (g.kind o ho).imp id (fun ⟨t, ht, e⟩ => ⟨t, List.mem_append.2 (.inl ht), e⟩)
  · rw [root]
    exact fun y hy => (g.root y hy).more
  · intro t ht
    rcases List.mem_append.1 ht with ht | ht
    · rw [(hT t ht).2]
      exact fun y hy => (g.slot t ht y hy).more
    · rw [List.mem_singleton.1 ht, fr, sla]
      exact fun y hy => .inl (List.eq_of_mem_replicate hy)
  · intro o ho hd
    have z := g.size ho (by rw [← hO o ho]; exact hd)
    have u := g.old o ho
    have hp := shOk_yes (pr_range (V.getD o.toNat 0))
    rw [osz] at z
    rw [slL, hO o ho, celL_same (W := V) (a := o + 1) (fun i hi => m.other (by omega) (by omega))]
    exact fun y hy => (g.oslot o ho (by rw [← hO o ho]; exact hd) y hy).more
theorem Pr0.new (p : Pr0 H L V T O Z) {s x : Int} {a n : Nat} (m : Mk H L V s x a n) : Pr0 H L (newW H L V s x) (T ++ [hFr V]) O Z := by
  obtain ⟨g2, sla, hda, hT, root⟩ := p.gi.new m
  obtain ⟨c0, c1, c2, c3⟩ := m.ctl
  obtain ⟨_, _, _, _, f5⟩ := fine_yes p.gi.ok
  have on := p.on
  have up : ∀ y, (y = 0 ∨ y ∈ T) → (y = 0 ∨ y ∈ T ++ [hFr V]) := fun y h => h.imp id (fun q => List.mem_append.2 (.inl q))
  refine ⟨g2, c2.trans on, by rw [root]; exact fun y hy => up y (p.roots y hy), fun t ht h => ?_, ?_⟩
  · rcases List.mem_append.1 ht with ht | ht
    · rw [(hT t ht).2]
      rw [c3] at h
      exact fun y hy => up y (p.black t ht h y hy)
    · rw [List.mem_singleton.1 ht, c3] at h
      omega
  · rw [c3]
    refine .inr ?_
    rcases p.scan with h | h
    · rw [h]; simp
    · exact List.mem_append.2 (.inl h)
theorem Gi.obj (g : Gi H L V T O Z) {t : Int} (ht : t ∈ T) : objB H L V t = true ∧ shpE H L V t = 0 ∧ shpS H L V t = prS (V.getD t.toNat 0) ∧ shpW H L V t = prW (V.getD t.toNat 0) := by
  obtain ⟨i1, i2, _⟩ := g.inT ht
  obtain ⟨u1, u2, u3⟩ := g.used.1 t ht
  have hp := shOk_yes (pr_range (V.getD t.toNat 0))
  rw [osz] at u2
  have o : objB H L V t = true := by
    rw [objB, g.ok, i1, u3, decide_eq_true (show t < hFr V by omega), decide_eq_true (show t + 1 + prS (V.getD t.toNat 0) + prW (V.getD t.toNat 0) ≤ hFr V by omega)]
    rfl
  have e : shpE H L V t = 0 := by rw [shpE, if_neg (by omega), if_pos o]
  exact ⟨o, e, by rw [shpS, if_pos e], by rw [shpW, if_pos e]⟩
theorem Gi.put (g : Gi H L V T O Z) {t i v : Int} (ht : t ∈ T) (h0 : 0 ≤ i) (h1 : i < prS (V.getD t.toNat 0)) (hv : v = 0 ∨ v ∈ T) : ptE H L V t i v = 0 ∧ ptW H L V t i v = V.set (t + 1 + i).toNat v ∧ IsRef V T (t + 1 + i).toNat := by
  obtain ⟨o, e, es, _⟩ := g.obj ht
  have t16 := (g.inT ht).2.1
  have e0 : ptE H L V t i v = 0 := by rw [ptE, if_pos e, if_pos (hv.imp id (fun h => (g.obj h).1)), if_neg (by rw [es]; omega)]
  exact ⟨e0, by rw [ptW, if_pos e0], .inr ⟨t, ht, by omega, by omega⟩⟩
theorem Gi.sword (g : Gi H L V T O Z) {t i v : Int} (ht : t ∈ T) (h0 : 0 ≤ i) (h1 : i < prW (V.getD t.toNat 0)) (hv : hbNum v = true) : swE H L V t i v = 0 ∧ swW H L V t i v = V.set (t + 1 + prS (V.getD t.toNat 0) + i).toNat v ∧ IsWord V T (t + 1 + prS (V.getD t.toNat 0) + i).toNat := by
  obtain ⟨o, e, es, ew⟩ := g.obj ht
  have t16 := (g.inT ht).2.1
  have hp := shOk_yes (pr_range (V.getD t.toNat 0))
  have ot : osz V t = 1 + prS (V.getD t.toNat 0) + prW (V.getD t.toNat 0) := rfl
  have e0 : swE H L V t i v = 0 := by rw [swE, if_pos e, if_pos hv, if_neg (by rw [ew]; omega)]
  exact ⟨e0, by rw [swW, if_pos e0, es], t, ht, by omega, by omega⟩
theorem Gi.sroot (g : Gi H L V T O Z) {i a : Int} (h0 : 0 ≤ i) (h1 : i < 8) (ha : a = 0 ∨ a ∈ T) : srE H L V i a = 0 ∧ srW H L V i a = V.set (8 + i).toNat a ∧ IsRef V T (8 + i).toNat := by
  have e0 : srE H L V i a = 0 := by rw [srE, if_neg (by omega), if_pos (ha.imp id (fun h => (g.obj h).1))]
  exact ⟨e0, by rw [srW, if_pos e0], .inl (by omega)⟩
end
end Go.Proofs.YtbghglkplbnnkaaGreatDoor
-- GcChk
namespace Go.Proofs.YtbghglkplbnnkaaGreatDoor
open Go.RowKit

def chkS (h l : Int) (W : List Int) (a v : Int) : Bool :=
  decide (v = 0 ∨ v ∈ (objs h l W).1) || (!decide (hGc W = 0 ∨ a < hSc W) && ((lk h l W v).2 && (if (lk h l W v).1 = v then inB h (1 - hSp W) v else decide ((lk h l W v).1 ∈ (objs h l W).1))))
def chkB (h l : Int) (W : List Int) : Bool :=
  (objs h l W).2 && (decide (hGc W ≠ 1 ∨ hSc W = hFr W ∨ hSc W ∈ (objs h l W).1) && ((celL W 8 8).all (fun r => decide (r = 0 ∨ r ∈ (objs h l W).1)) && (objs h l W).1.all (fun a => (slL W a).all (fun v => chkS h l W a v))))
section
variable {H L : Nat} {V T O : List Int} {Z : Int → Int} {R : List Int}
theorem Fin.check (f : Fin H L V T Z) : chkB H L V = true := by
  have g := f.gi
  have vv : ∀ x, Val T [] x → (x = 0 ∨ x ∈ T) := fun x h => h.imp id (fun h => h.elim id (fun h => absurd h List.not_mem_nil))
  rw [chkB, g.ob, decide_eq_true (show hGc V ≠ 1 ∨ hSc V = hFr V ∨ hSc V ∈ (T, true).1 from .inl (by rw [f.off]; decide))]
  simp only [Bool.true_and, Bool.and_eq_true, List.all_eq_true]
  refine ⟨fun r hr => decide_eq_true (vv r (g.root r hr)), fun a ha v hv => ?_⟩
  rw [chkS, g.ob, decide_eq_true (show v = 0 ∨ v ∈ (T, true).1 from vv v (g.slot a ha v hv))]
  rfl
theorem Fin.start (f : Fin H L V T Z) : ∃ V1 T2, str H L V [] = (0, [], V1) ∧ Pro H L V1 T2 T (osz V) [] ∧ gr H L V1 = gr H L V ∧ hSp V1 = 1 - hSp V := by
  obtain ⟨e0, T2, p, r, s⟩ := f.gi.begin
  refine ⟨_, T2, ?_, p, r, s⟩
  rw [str, if_neg (by rw [f.gi.ok]; decide), if_neg (by rw [f.off]; decide), if_pos e0]
  rfl
theorem Pr0.stp (p : Pr0 H L V T O Z) {n : Int} (hn : 0 ≤ n) : stp H L V n = stepGo H L 1000 V n ∧ 16 + hSp V * (H : Int) + H - hSc V < 1000 := by
  have hg := p.gi.geo
  obtain ⟨_, _, _, _, f5⟩ := fine_yes p.gi.ok
  have on := p.on
  refine ⟨?_, by omega⟩
  rw [Go.Proofs.YtbghglkplbnnkaaGreatDoor.stp, if_neg (by rw [p.gi.ok]; simp; omega), if_neg (by rw [on]; decide)]
theorem Fin.stp (f : Fin H L V T Z) {n : Int} (hn : 0 ≤ n) : stp H L V n = (true, 0, V) := by
  rw [Go.Proofs.YtbghglkplbnnkaaGreatDoor.stp, if_neg (by rw [f.gi.ok]; simp; omega), if_pos f.off]
theorem Pro.stp (p : Pro H L V T O Z R) {n : Int} (hn : 0 ≤ n) : ∃ o V2 T2, stp H L V n = (o, 0, V2) ∧ gr H L V2 = gr H L V ∧ hSp V2 = hSp V ∧ Reach V2 T2 R ∧ ((o = false ∧ Pro H L V2 T2 O Z R) ∨ (o = true ∧ Fin H L V2 T2 Z)) := by
  obtain ⟨e, hf⟩ := p.p.stp hn
  obtain ⟨_, i2, i3⟩ := Pr0.go 1000 p.p hn hf
  have e0 := i2 p.room
  obtain ⟨j1, j2, T2, j3, j4⟩ := i3 e0
  rw [e]
  generalize stepGo H L 1000 V n = X at *
  obtain ⟨o, e1, V2⟩ := X
  obtain rfl : e1 = 0 := e0
  refine ⟨o, V2, T2, rfl, j1, j2, j3 R p.reach, ?_⟩
  rcases j4 with ⟨q1, q2, q3⟩ | ⟨q1, q2⟩
  · exact .inl ⟨q1, q2, q3 p.room, j3 R p.reach⟩
  · exact .inr ⟨q1, q2⟩
end
end Go.Proofs.YtbghglkplbnnkaaGreatDoor
-- GcRegs
namespace Go.Proofs.YtbghglkplbnnkaaGreatDoor
open Go.RowKit

section
variable {H L : Nat} {V T O : List Int} {Z : Int → Int} {R : List Int}
def cnt (V T : List Int) : Nat := (T.filter (fun t => decide (t < hSc V))).length
theorem filter_all {T : List Int} {a : Int} (h : ∀ t ∈ T, t < a) : (T.filter (fun t => decide (t < a))).length = T.length := by
  rw [List.filter_eq_self.2 (fun t ht => decide_eq_true (h t ht))]
theorem filter_none {T : List Int} {a : Int} (h : ∀ t ∈ T, a ≤ t) : (T.filter (fun t => decide (t < a))).length = 0 := by
  rw [List.filter_eq_nil_iff.2 (fun t ht => by have := h t ht; simp; omega)]
  rfl
theorem filter_same {T : List Int} {a b : Int} (h : ∀ t ∈ T, t < a ↔ t < b) : (T.filter (fun t => decide (t < a))).length = (T.filter (fun t => decide (t < b))).length := by
  rw [List.filter_congr (fun t ht => decide_eq_decide.2 (h t ht))]
theorem filter_one {a b : Int} : ∀ {T : List Int}, T.Nodup → a ∈ T → (∀ t ∈ T, t ≠ a → (t < a ↔ t < b)) → a < b → (T.filter (fun t => decide (t < b))).length = (T.filter (fun t => decide (t < a))).length + 1
  | [], _, h, _, _ => absurd h List.not_mem_nil
  | t :: T, hn, hm, hs, hab => by
    obtain ⟨n1, n2⟩ := List.nodup_cons.1 hn
    rcases List.mem_cons.1 hm with e | hm
    · subst e
      rw [List.filter_cons, List.filter_cons, decide_eq_true hab, decide_eq_false (Int.lt_irrefl a), if_pos rfl, if_neg (by decide), List.length_cons, filter_same (fun x hx => hs x (List.mem_cons_of_mem _ hx) (fun e => n1 (e ▸ hx)))]
    · have ne : t ≠ a := fun e => n1 (e ▸ hm)
      have ih := filter_one n2 hm (fun x hx => hs x (List.mem_cons_of_mem _ hx)) hab
      rw [List.filter_cons, List.filter_cons]
      by_cases q : t < a
      · rw [decide_eq_true q, decide_eq_true ((hs t (List.mem_cons_self ..) ne).1 q), if_pos rfl, if_pos rfl, List.length_cons, List.length_cons, ih]
      · rw [decide_eq_false q, decide_eq_false (fun z => q ((hs t (List.mem_cons_self ..) ne).2 z)), if_neg (by decide), if_neg (by decide), ih]
theorem Pr0.count (p : Pr0 H L V T O Z) (n1 : hSc V ≠ hFr V) {V3 T2 X : List Int} (e : T2 = T ++ X) (hX : ∀ x ∈ X, hFr V ≤ x) (sc : hSc V3 = hSc V + osz V (hSc V)) : cnt V3 T2 = cnt V T + 1 := by
  have g := p.gi
  have ha : hSc V ∈ T := p.scan.resolve_left n1
  have u := g.used.1 _ ha
  have nT : T.Nodup := (g.used.2).imp (fun {a b} h => by have := osz_pos V a; omega)
  have z := osz_pos V (hSc V)
  have e2 : (X.filter (fun t => decide (t < hSc V + osz V (hSc V)))).length = 0 := filter_none (fun x hx => by have := hX x hx; omega)
  rw [cnt, cnt, sc, e, List.filter_append, List.length_append, e2, Nat.add_zero]
  refine filter_one nT ha (fun t ht ne => ?_) (by omega)
  have z2 := osz_pos V t
  rcases g.apartT ht ha ne with h | h
  · omega
  · omega
theorem Pr0.count_end (p : Pr0 H L V T O Z) (e : hSc V = hFr V) : cnt V T = T.length := by
  rw [cnt]
  refine filter_all (fun t ht => ?_)
  have := (p.gi.used.1 t ht).2.1
  have := osz_pos V t
  omega
theorem Pr0.count_start (p : Pr0 H L V T O Z) (e : hSc V = 16 + hSp V * (H : Int)) : cnt V T = 0 := by
  rw [cnt]
  refine filter_none (fun t ht => ?_)
  have := (p.gi.used.1 t ht).1
  omega
theorem pro_one (p : Pro H L V T O Z R) (n1 : hSc V ≠ hFr V) : ∃ o V2 T2, stp H L V 1 = (o, 0, V2) ∧ gr H L V2 = gr H L V ∧ hSp V2 = hSp V ∧ Reach V2 T2 R ∧
    ((o = false ∧ Pro H L V2 T2 O Z R ∧ hSc V2 ≠ hFr V2 ∧ cnt V2 T2 = cnt V T + 1) ∨ (o = true ∧ Fin H L V2 T2 Z ∧ T2.length = cnt V T + 1)) := by
  obtain ⟨e, _⟩ := p.p.stp (n := 1) (by decide)
  obtain ⟨h1, h2, _, er, ex⟩ := p.p.step n1
  have e0 := er p.room
  obtain ⟨T2, ⟨X, eX, hX⟩, p2, rm2, re2, r2, s2, sc2⟩ := ex e0
  have ct := p.p.count n1 eX hX sc2
  rw [e, show (1000 : Nat) = 998 + 1 + 1 from rfl, stepGo, if_neg n1, if_neg (by decide), if_neg (show ¬ (hdOk (V.getD (hSc V).toNat 0) = false ∨ hFr V < hSc V + 1 + prS (V.getD (hSc V).toNat 0) + prW (V.getD (hSc V).toNat 0)) from fun h => h.elim (fun e => by rw [h1] at e; exact absurd e (by decide)) h2), if_pos e0, stepGo]
  clear e er ex h1 h2 e0 sc2
  generalize ((slotsGo H L V (hSc V).toNat (prS (V.getD (hSc V).toNat 0)).toNat).2.set 3 (hSc V + 1 + prS (V.getD (hSc V).toNat 0) + prW (V.getD (hSc V).toNat 0))) = V3 at *
  by_cases q : hSc V3 = hFr V3
  · rw [if_pos q]
    obtain ⟨f, re, r, s, _⟩ := p2.over q
    exact ⟨true, _, T2, rfl, r.trans r2, s.trans s2, re R (re2 R p.reach), .inr ⟨rfl, f, by rw [← ct, p2.count_end q]⟩⟩
  · rw [if_neg q, if_pos (by decide)]
    exact ⟨false, V3, T2, rfl, r2, s2, re2 R p.reach, .inl ⟨rfl, ⟨p2, rm2 p.room, re2 R p.reach⟩, q, ct⟩⟩
theorem pro_zero (p : Pro H L V T O Z R) : stp H L V 0 = if hSc V = hFr V then (true, 0, (V.set 2 0).set 3 0) else (false, 0, V) := by
  obtain ⟨e, _⟩ := p.p.stp (n := 0) (by decide)
  rw [e, show (1000 : Nat) = 999 + 1 from rfl, stepGo]
  split
  · rfl
  · rw [if_pos rfl]
theorem go_over : ∀ (k : Nat) {V T : List Int} (_ : Pr0 H L V T O Z) {n : Int} (_ : 16 + hSp V * (H : Int) + H - hSc V < n) (_ : 16 + hSp V * (H : Int) + H - hSc V < (k : Int)), (stepGo H L k V n).2.1 = 0 → (stepGo H L k V n).1 = true
  | 0, V, T, p, n, hn, hk => by
    have hg := p.gi.geo
    obtain ⟨_, _, _, _, f5⟩ := fine_yes p.gi.ok
    have := p.on
    omega
  | k + 1, V, T, p, n, hn, hk => by
    have hg := p.gi.geo
    obtain ⟨_, _, _, _, f5⟩ := fine_yes p.gi.ok
    have on := p.on
    rw [stepGo]
    by_cases n1 : hSc V = hFr V
    · rw [if_pos n1]
      exact fun _ => rfl
    · rw [if_neg n1, if_neg (by omega)]
      obtain ⟨h1, h2, _, _, ex⟩ := p.step n1
      rw [if_neg (show ¬ (hdOk (V.getD (hSc V).toNat 0) = false ∨ hFr V < hSc V + 1 + prS (V.getD (hSc V).toNat 0) + prW (V.getD (hSc V).toNat 0)) from fun h => h.elim (fun e => by rw [h1] at e; exact absurd e (by decide)) h2)]
      by_cases e0 : (slotsGo H L V (hSc V).toNat (prS (V.getD (hSc V).toNat 0)).toNat).1 = 0
      · rw [if_pos e0]
        obtain ⟨T2, _, p2, _, _, _, s2, sc2⟩ := ex e0
        have oz := osz_pos V (hSc V)
        exact go_over k p2 (n := n - 1) (by rw [s2, sc2]; omega) (by rw [s2, sc2]; omega)
      · rw [if_neg e0]
        exact fun e => absurd e e0
theorem fin_all (f : Fin H L V T Z) {n : Int} (hn : 1000 ≤ n) : ∃ V1 V2 T2, str H L V [] = (0, [], V1) ∧ stp H L V1 n = (true, 0, V2) ∧ Fin H L V2 T2 (osz V) ∧ gr H L V2 = gr H L V ∧ hSp V2 = 1 - hSp V ∧
    ∃ rs o, gr H L V = some (rs, o) ∧ dSize o = hFr V2 - (16 + hSp V2 * (H : Int)) ∧ o.length = T2.length := by
  obtain ⟨V1, T1, e1, p1, r1, s1⟩ := f.start
  obtain ⟨e2, hf⟩ := p1.p.stp (n := n) (by omega)
  obtain ⟨_, i2, i3⟩ := Pr0.go 1000 p1.p (n := n) (by omega) hf
  have e0 := i2 p1.room
  have ov := go_over 1000 p1.p (n := n) (by omega) hf e0
  obtain ⟨j1, j2, T2, j3, j4⟩ := i3 e0
  have fn : Fin H L (stepGo H L 1000 V1 n).2.2 T2 (osz V) := by
    rcases j4 with ⟨q, _⟩ | ⟨_, q⟩
    · rw [ov] at q
      exact absurd q (by decide)
    · exact q
  have rc := j3 [] p1.reach
  generalize stepGo H L 1000 V1 n = X at *
  obtain ⟨o, e3, V2⟩ := X
  obtain rfl : e3 = 0 := e0
  obtain rfl : o = true := ov
  have rc : Reach V2 T2 [] := rc
  have fn : Fin H L V2 T2 (osz V) := fn
  have rr : gr H L V2 = gr H L V := j1.trans r1
  obtain ⟨rs, o, at1, q1, q2, q3⟩ := fn.size rc
  exact ⟨V1, V2, T2, e1, e2, fn, rr, j2.trans s1, rs, o, by rw [← rr, gr, q1]; rfl, q2, q3⟩
end
end Go.Proofs.YtbghglkplbnnkaaGreatDoor
