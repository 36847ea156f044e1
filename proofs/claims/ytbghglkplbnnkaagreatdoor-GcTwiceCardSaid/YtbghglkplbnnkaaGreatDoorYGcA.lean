import Derived.Test.YtbghglkplbnnkaaGreatDoorYHeapD
import Derived.Test.YtbghglkplbnnkaaGreatDoorYHeapC
import Derived.Test.YtbghglkplbnnkaaGreatDoorYMathA
set_option linter.unusedVariables false
set_option linter.unusedSimpArgs false
-- GcFrom
namespace Go.Proofs.YtbghglkplbnnkaaGreatDoor
open Go.RowKit

def celL (W : List Int) (a : Int) (n : Nat) : List Int := (List.range n).map (fun i => W.getD (a.toNat + i) 0)
def slL (W : List Int) (a : Int) : List Int := celL W (a + 1) (prS (W.getD a.toNat 0)).toNat
def wdL (W : List Int) (a : Int) : List Int := celL W (a + 1 + prS (W.getD a.toNat 0)) (prW (W.getD a.toNat 0)).toNat
def nodB (h : Int) (W : List Int) (a : Int) : Bool :=
  (inB h (hSp W) a || inB h (1 - hSp W) a) && (hdOk (W.getD a.toNat 0) && decide (a + 1 + prS (W.getD a.toNat 0) + prW (W.getD a.toNat 0) ≤ (if inB h (hSp W) a = true then hFr W else 16 + (1 - hSp W) * h + h)))
def nod (h l : Int) (W : List Int) (at_ : List Int) (a : Int) : Option (Int × List Int) :=
  if (lk h l W a).2 = false then none
  else if (lk h l W a).1 = 0 then some (0, at_)
  else if (lk h l W a).1 ∈ at_ then some ((at_.idxOf (lk h l W a).1 : Int) + 1, at_)
  else if nodB h W (lk h l W a).1 = true then some ((at_.length : Int) + 1, at_ ++ [(lk h l W a).1]) else none
def nods (h l : Int) (W : List Int) : List Int → List Int → Option (List Int × List Int)
  | at_, [] => some ([], at_)
  | at_, a :: r => match nod h l W at_ a with
    | none => none
    | some (n, at1) => match nods h l W at1 r with
      | none => none
      | some (ns, at2) => some (n :: ns, at2)
def frmGo (h l : Int) (W : List Int) : Nat → Nat → List Int → List (List Int × List Int) → Option (List (List Int × List Int) × List Int)
  | 0, _, at_, out => some (out, at_)
  | n + 1, k, at_, out =>
    if k < at_.length then
      match nods h l W at_ (slL W (at_.getD k 0)) with
      | none => none
      | some (ns, at1) => frmGo h l W n (k + 1) at1 (out ++ [(ns, wdL W (at_.getD k 0))])
    else some (out, at_)
def frm (h l : Int) (W refs : List Int) : Option (List Int × List (List Int × List Int) × List Int) :=
  match nods h l W [] refs with
  | none => none
  | some (rs, at1) => match frmGo h l W 1000 0 at1 [] with
    | none => none
    | some (out, at2) => some (rs, out, at2)

def RefL (R : Int → Int → Prop) : List Int → List Int → Prop
  | [], [] => True
  | x :: r, y :: s => R x y ∧ RefL R r s
  | _, _ => False
theorem RefL.map {R : Int → Int → Prop} {α : Type} {f g : α → Int} : ∀ {l : List α}, (∀ x ∈ l, R (f x) (g x)) → RefL R (l.map f) (l.map g)
  | [], _ => True.intro
  | x :: r, h => ⟨h x (by simp), RefL.map (fun y hy => h y (by simp [hy]))⟩
def Ref (h l : Int) (W W2 : List Int) (P : Int → Prop) (f : Int → Int) (x y : Int) : Prop :=
  ∃ k, lk h l W x = (k, true) ∧ (k = 0 ∨ P k) ∧ lk h l W2 y = (if k = 0 then 0 else f k, true)
structure Sim (h l : Int) (W W2 : List Int) (P : Int → Prop) (f : Int → Int) : Prop where
  inj : ∀ a b, P a → P b → f a = f b → a = b
  nz : ∀ a, P a → a ≠ 0 ∧ f a ≠ 0
  nb : ∀ a, P a → nodB h W a = true ∧ nodB h W2 (f a) = true
  sl : ∀ a, P a → RefL (Ref h l W W2 P f) (slL W a) (slL W2 (f a))
  wd : ∀ a, P a → wdL W2 (f a) = wdL W a
section
variable {h l : Int} {W W2 : List Int} {P : Int → Prop} {f : Int → Int}
theorem idx_map {P : Int → Prop} {f : Int → Int} (inj : ∀ a b, P a → P b → f a = f b → a = b) {k : Int} (hk : P k) : ∀ at_ : List Int, (∀ x ∈ at_, P x) → (at_.map f).idxOf (f k) = at_.idxOf k
  | [], _ => rfl
  | y :: r, h => by
    rw [List.map_cons, List.idxOf_cons, List.idxOf_cons]
    by_cases e : y = k
    · subst e
      simp
    · have e2 : f y ≠ f k := fun q => e (inj y k (h y (by simp)) hk q)
      have b1 : (y == k) = false := beq_eq_false_iff_ne.2 e
      have b2 : (f y == f k) = false := beq_eq_false_iff_ne.2 e2
      rw [b1, b2, idx_map inj hk r (fun x hx => h x (by simp [hx]))]
theorem mem_map_inj {P : Int → Prop} {f : Int → Int} (inj : ∀ a b, P a → P b → f a = f b → a = b) {k : Int} (hk : P k) {at_ : List Int} (ha : ∀ x ∈ at_, P x) : f k ∈ at_.map f ↔ k ∈ at_ := by
  constructor
  · intro q
    obtain ⟨y, hy, e⟩ := List.mem_map.1 q
    rwa [← inj y k (ha y hy) hk e]
  · exact fun q => List.mem_map.2 ⟨k, q, rfl⟩
theorem nod_eq {at_ : List Int} {x k : Int} (e : lk h l W x = (k, true)) : nod h l W at_ x = if k = 0 then some (0, at_) else if k ∈ at_ then some ((at_.idxOf k : Int) + 1, at_) else if nodB h W k = true then some ((at_.length : Int) + 1, at_ ++ [k]) else none := by
  unfold nod
  rw [e]
  exact if_neg (show ¬ (true = false) by decide)
theorem nod_sim (s : Sim h l W W2 P f) {at_ : List Int} (ha : ∀ x ∈ at_, P x) {x y : Int} (r : Ref h l W W2 P f x y) :
    ∃ n at1, nod h l W at_ x = some (n, at1) ∧ nod h l W2 (at_.map f) y = some (n, at1.map f) ∧ ∀ z ∈ at1, P z := by
  obtain ⟨k, e1, hk, e2⟩ := r
  rw [nod_eq e1, nod_eq e2]
  by_cases q : k = 0
  · subst q
    exact ⟨0, at_, if_pos rfl, by rw [if_pos rfl, if_pos rfl], ha⟩
  · have hp : P k := hk.resolve_left q
    obtain ⟨_, n0⟩ := s.nz k hp
    obtain ⟨b1, b2⟩ := s.nb k hp
    simp only [if_neg q, if_neg n0]
    by_cases m : k ∈ at_
    · refine ⟨(at_.idxOf k : Int) + 1, at_, if_pos m, ?_, ha⟩
      rw [if_pos ((mem_map_inj s.inj hp ha).2 m), idx_map s.inj hp at_ ha]
    · refine ⟨(at_.length : Int) + 1, at_ ++ [k], by rw [if_neg m, if_pos b1], ?_, ?_⟩
      · rw [if_neg (fun z => m ((mem_map_inj s.inj hp ha).1 z)), if_pos b2, List.length_map, List.map_append]
        rfl
      · intro z hz
        rcases List.mem_append.1 hz with hz | hz
        · exact ha z hz
        · rw [List.mem_singleton.1 hz]
          exact hp
theorem nods_sim (s : Sim h l W W2 P f) : ∀ {a b at_ : List Int}, (∀ x ∈ at_, P x) → RefL (Ref h l W W2 P f) a b →
    ∃ ns at1, nods h l W at_ a = some (ns, at1) ∧ nods h l W2 (at_.map f) b = some (ns, at1.map f) ∧ ∀ z ∈ at1, P z
  | [], [], at_, ha, _ => ⟨[], at_, rfl, rfl, ha⟩
  | x :: r, y :: t, at_, ha, q => by
    obtain ⟨n, at1, e1, e2, h1⟩ := nod_sim s ha q.1
    obtain ⟨ns, at2, e3, e4, h2⟩ := nods_sim s h1 q.2
    exact ⟨n :: ns, at2, by rw [nods, e1]; simp only [e3], by rw [nods, e2]; simp only [e4], h2⟩
  | [], _ :: _, _, _, q => q.elim
  | _ :: _, [], _, _, q => q.elim
theorem getD_map {f : Int → Int} {at_ : List Int} {k : Nat} (h : k < at_.length) : (at_.map f).getD k 0 = f (at_.getD k 0) := by
  rw [List.getD_eq_getElem?_getD, List.getD_eq_getElem?_getD, List.getElem?_map, List.getElem?_eq_getElem h]
  rfl
theorem frmGo_sim (s : Sim h l W W2 P f) : ∀ (n k : Nat) {at_ : List Int} (out : List (List Int × List Int)), (∀ x ∈ at_, P x) →
    ∃ o at1, frmGo h l W n k at_ out = some (o, at1) ∧ frmGo h l W2 n k (at_.map f) out = some (o, at1.map f) ∧ ∀ z ∈ at1, P z
  | 0, k, at_, out, ha => ⟨out, at_, rfl, rfl, ha⟩
  | n + 1, k, at_, out, ha => by
    by_cases q : k < at_.length
    · have hp : P (at_.getD k 0) := by
        rw [List.getD_eq_getElem?_getD, List.getElem?_eq_getElem q]
        exact ha _ (List.getElem_mem q)
      obtain ⟨ns, at1, e1, e2, h1⟩ := nods_sim s ha (s.sl _ hp)
      obtain ⟨o, at2, e3, e4, h2⟩ := frmGo_sim s n (k + 1) (out ++ [(ns, wdL W (at_.getD k 0))]) h1
      refine ⟨o, at2, ?_, ?_, h2⟩
      · rw [frmGo, if_pos q, e1]
        exact e3
      · rw [frmGo, if_pos (by rw [List.length_map]; exact q), getD_map q, e2]
        simp only [s.wd _ hp]
        exact e4
    · exact ⟨out, at_, by rw [frmGo, if_neg q], by rw [frmGo, if_neg (by rw [List.length_map]; exact q)], ha⟩
theorem frm_sim (s : Sim h l W W2 P f) {a b : List Int} (r : RefL (Ref h l W W2 P f) a b) : ∃ rs o at1, frm h l W a = some (rs, o, at1) ∧ frm h l W2 b = some (rs, o, at1.map f) ∧ ∀ z ∈ at1, P z := by
  obtain ⟨rs, at0, e1, e2, h1⟩ := nods_sim s (at_ := []) (fun x hx => absurd hx List.not_mem_nil) r
  obtain ⟨o, at1, e3, e4, h2⟩ := frmGo_sim s 1000 0 [] h1
  rw [List.map_nil] at e2
  exact ⟨rs, o, at1, by rw [frm, e1]; simp only [e3], by rw [frm, e2]; simp only [e4], h2⟩
end
end Go.Proofs.YtbghglkplbnnkaaGreatDoor
-- GcInv
namespace Go.Proofs.YtbghglkplbnnkaaGreatDoor
open Go.RowKit

theorem hd_no_fw {v : Int} (h : hdOk v = true) : fwOk v = false := by
  have := hdOk_yes h
  exact decide_eq_false (by omega)
theorem hd_of_fw {t : Int} (h : 16 ≤ t) : hdOk (33554432 + t) = false := decide_eq_false (by omega)
theorem fw_yes {t : Int} (h0 : 1 ≤ t) (h1 : t ≤ 1000) : fwOk (33554432 + t) = true ∧ fwA (33554432 + t) = t := by
  have : fwOk (33554432 + t) = true := decide_eq_true (by omega)
  exact ⟨this, by rw [fwA, if_pos this]; omega⟩
theorem objGo_apart {W : List Int} {fr : Int} : ∀ (n : Nat) (a : Int), a ≤ fr → fr - a < (n : Int) → (objGo W fr n a).2 = true → (objGo W fr n a).1.Pairwise (fun x y => x + osz W x ≤ y)
  | 0, a, h1, h2, _ => by omega
  | n + 1, a, h1, h2, h3 => by
    by_cases q : fr ≤ a
    · rw [objGo_end q]
      exact List.Pairwise.nil
    · by_cases r : hdOk (W.getD a.toNat 0) = false ∨ fr < a + 1 + prS (W.getD a.toNat 0) + prW (W.getD a.toNat 0)
      · rw [objGo_no n q r] at h3
        exact absurd h3 (by decide)
      · have hr : ¬ fr < a + 1 + prS (W.getD a.toNat 0) + prW (W.getD a.toNat 0) := fun e => r (.inr e)
        have hp := shOk_yes (pr_range (W.getD a.toNat 0))
        rw [objGo_yes n q r] at h3 ⊢
        refine List.pairwise_cons.2 ⟨fun y hy => ?_, objGo_apart n _ (by omega) (by omega) h3⟩
        have := ((objGo_used (W := W) (fr := fr) n _ (by omega) (by omega) h3).2 y hy).1
        have ho : osz W a = 1 + prS (W.getD a.toNat 0) + prW (W.getD a.toNat 0) := rfl
        omega
theorem objGo_same {V W : List Int} {fr : Int} : ∀ (n : Nat) (a : Int), (∀ y ∈ (objGo W fr n a).1, V.getD y.toNat 0 = W.getD y.toNat 0) → (objGo W fr n a).2 = true → objGo V fr n a = objGo W fr n a
  | 0, _, _, _ => rfl
  | n + 1, a, h, h3 => by
    by_cases q : fr ≤ a
    · rw [objGo_end q, objGo_end q]
    · by_cases r : hdOk (W.getD a.toNat 0) = false ∨ fr < a + 1 + prS (W.getD a.toNat 0) + prW (W.getD a.toNat 0)
      · rw [objGo_no n q r] at h3
        exact absurd h3 (by decide)
      · rw [objGo_yes n q r] at h h3
        have e : V.getD a.toNat 0 = W.getD a.toNat 0 := h a (List.mem_cons_self ..)
        rw [objGo_yes (W := V) n q (by rw [e]; exact r), objGo_yes n q r, e, objGo_same n _ (fun y hy => h y (List.mem_cons_of_mem _ hy)) h3]
theorem celL_same {V W : List Int} {a b : Int} {n : Nat} (h : ∀ i, i < n → V.getD (b.toNat + i) 0 = W.getD (a.toNat + i) 0) : celL V b n = celL W a n :=
  List.map_congr_left (fun i hi => h i (List.mem_range.1 hi))
theorem RefL.diag {R : Int → Int → Prop} : ∀ {l : List Int}, (∀ x ∈ l, R x x) → RefL R l l
  | [], _ => True.intro
  | x :: r, h => ⟨h x (by simp), RefL.diag (fun y hy => h y (by simp [hy]))⟩
def Val (T O : List Int) (x : Int) : Prop := x = 0 ∨ x ∈ T ∨ x ∈ O
def Live (V T O : List Int) (k : Int) : Prop := k ∈ T ∨ (k ∈ O ∧ hdOk (V.getD k.toNat 0) = true)
structure Gi (H L : Nat) (V T O : List Int) (Z : Int → Int) : Prop where
  len : V.length = 16 + 2 * H
  ok : hOk H L V = true
  num : NumC V
  ob : objs H L V = (T, true)
  old : ∀ o ∈ O, 16 + (1 - hSp V) * (H : Int) ≤ o ∧ o + Z o ≤ 16 + (1 - hSp V) * (H : Int) + H ∧ 1 ≤ Z o
  apart : O.Pairwise (fun a b => a + Z a ≤ b)
  kind : ∀ o ∈ O, (hdOk (V.getD o.toNat 0) = true ∧ osz V o = Z o) ∨ ∃ t ∈ T, V.getD o.toNat 0 = 33554432 + t
  gc : O ≠ [] → hGc V ≠ 0
  root : ∀ x ∈ celL V 8 8, Val T O x
  slot : ∀ t ∈ T, ∀ x ∈ slL V t, Val T O x
  oslot : ∀ o ∈ O, hdOk (V.getD o.toNat 0) = true → ∀ x ∈ slL V o, Val T O x
section
variable {H L : Nat} {V T O : List Int} {Z : Int → Int}
theorem Gi.geo (g : Gi H L V T O Z) : 8 ≤ (H : Int) ∧ (H : Int) ≤ 400 ∧ (hSp V = 0 ∨ hSp V = 1) ∧ 0 ≤ hSp V * (H : Int) ∧ hSp V * (H : Int) ≤ H ∧ hSp V * (H : Int) + (1 - hSp V) * (H : Int) = H ∧ 16 + hSp V * (H : Int) ≤ hFr V ∧ hFr V ≤ 16 + hSp V * (H : Int) + H ∧
    ((hSp V * (H : Int) = 0 ∧ (1 - hSp V) * (H : Int) = H) ∨ (hSp V * (H : Int) = H ∧ (1 - hSp V) * (H : Int) = 0)) := by
  obtain ⟨f1, f2, _, f4, _⟩ := fine_yes g.ok
  have hq := geOk_yes f1
  rcases f2 with x | x
  · rw [x] at f4 ⊢
    omega
  · rw [x] at f4 ⊢
    omega
theorem Gi.used (g : Gi H L V T O Z) : (∀ t ∈ T, 16 + hSp V * (H : Int) ≤ t ∧ t + osz V t ≤ hFr V ∧ hdOk (V.getD t.toNat 0) = true) ∧ T.Pairwise (fun x y => x + osz V x ≤ y) := by
  have hg := g.geo
  have e := g.ob
  rw [objs, if_pos g.ok] at e
  have e1 : (objGo V (hFr V) 1000 (16 + hSp V * (H : Int))).1 = T := by rw [e]
  have e2 : (objGo V (hFr V) 1000 (16 + hSp V * (H : Int))).2 = true := by rw [e]
  have u := (objGo_used (W := V) (fr := hFr V) 1000 (16 + hSp V * (H : Int)) (by omega) (by omega) e2).2
  have d := objGo_hd (W := V) (fr := hFr V) 1000 (16 + hSp V * (H : Int)) (by omega)
  have p := objGo_apart (W := V) (fr := hFr V) 1000 (16 + hSp V * (H : Int)) (by omega) (by omega) e2
  rw [e1] at u d p
  exact ⟨fun t ht => ⟨(u t ht).1, (u t ht).2, (d t ht).2⟩, p⟩
theorem Gi.inT (g : Gi H L V T O Z) {t : Int} (ht : t ∈ T) : inB H (hSp V) t = true ∧ 16 ≤ t ∧ t < 16 + 2 * (H : Int) := by
  have hg := g.geo
  have u := g.used.1 t ht
  have z := osz_pos V t
  exact ⟨decide_eq_true (by omega), by omega, by omega⟩
theorem Gi.inO (g : Gi H L V T O Z) {o : Int} (ho : o ∈ O) : inB H (hSp V) o = false ∧ inB H (1 - hSp V) o = true ∧ 16 ≤ o ∧ o < 16 + 2 * (H : Int) ∧ hGc V ≠ 0 := by
  have hg := g.geo
  have u := g.old o ho
  exact ⟨decide_eq_false (by omega), decide_eq_true (by omega), by omega, by omega, g.gc (fun e => by rw [e] at ho; exact absurd ho List.not_mem_nil)⟩
theorem Gi.key0 (g : Gi H L V T O Z) : lk H L V 0 = (0, true) := by
  rw [lk, if_neg (by rw [g.ok]; decide), if_pos (.inl rfl)]
theorem Gi.keyT (g : Gi H L V T O Z) {t : Int} (ht : t ∈ T) : lk H L V t = (t, true) := by
  rw [lk, if_neg (by rw [g.ok]; decide), if_pos (.inr (g.inT ht).1)]
theorem Gi.keyO (g : Gi H L V T O Z) {o : Int} (ho : o ∈ O) (hd : hdOk (V.getD o.toNat 0) = true) (hz : osz V o = Z o) : lk H L V o = (o, true) := by
  obtain ⟨i1, i2, i3, i4, i5⟩ := g.inO ho
  have u := g.old o ho
  rw [osz] at hz
  rw [lk, if_neg (by rw [g.ok]; decide), if_neg (by rw [i1]; simp; omega), if_neg (by rw [i2]; simp [i5]), if_neg (by rw [hd_no_fw hd]; decide), if_pos ⟨hd, by omega⟩]
theorem Gi.keyF (g : Gi H L V T O Z) {o t : Int} (ho : o ∈ O) (ht : t ∈ T) (e : V.getD o.toNat 0 = 33554432 + t) : lk H L V o = (t, true) := by
  obtain ⟨i1, i2, i3, i4, i5⟩ := g.inO ho
  obtain ⟨j1, j2, j3⟩ := g.inT ht
  have hg := g.geo
  obtain ⟨w1, w2⟩ := fw_yes (t := t) (by omega) (by omega)
  rw [lk, if_neg (by rw [g.ok]; decide), if_neg (by rw [i1]; simp; omega), if_neg (by rw [i2]; simp [i5]), e, if_pos w1, w2, if_pos j1]
theorem Gi.key (g : Gi H L V T O Z) {x : Int} (hx : Val T O x) : ∃ k, lk H L V x = (k, true) ∧ (k = 0 ∨ Live V T O k) := by
  rcases hx with rfl | hx | hx
  · exact ⟨0, g.key0, .inl rfl⟩
  · exact ⟨x, g.keyT hx, .inr (.inl hx)⟩
  · rcases g.kind x hx with ⟨d, z⟩ | ⟨t, ht, e⟩
    · exact ⟨x, g.keyO hx d z, .inr (.inr ⟨hx, d⟩)⟩
    · exact ⟨t, g.keyF hx ht e, .inr (.inl ht)⟩
theorem Gi.size (g : Gi H L V T O Z) {k : Int} (hk : k ∈ O) (hd : hdOk (V.getD k.toNat 0) = true) : osz V k = Z k := by
  rcases g.kind k hk with ⟨_, z⟩ | ⟨t, ht, e⟩
  · exact z
  · rw [e, hd_of_fw (g.inT ht).2.1] at hd
    exact absurd hd (by decide)
theorem Gi.nb (g : Gi H L V T O Z) {k : Int} (hk : Live V T O k) : nodB H V k = true := by
  rcases hk with hk | ⟨hk, hd⟩
  · obtain ⟨i1, _⟩ := g.inT hk
    obtain ⟨_, u2, u3⟩ := g.used.1 k hk
    rw [osz] at u2
    rw [nodB, i1, u3, if_pos rfl, decide_eq_true (by omega)]
    rfl
  · obtain ⟨i1, i2, _⟩ := g.inO hk
    have z := g.size hk hd
    have u := g.old k hk
    rw [osz] at z
    rw [nodB, i1, i2, hd, if_neg (by decide), decide_eq_true (by omega)]
    rfl
theorem Gi.ne0 (g : Gi H L V T O Z) {k : Int} (hk : Live V T O k) : k ≠ 0 := by
  rcases hk with hk | ⟨hk, _⟩
  · have := (g.inT hk).2.1
    omega
  · have := (g.inO hk).2.2.1
    omega
theorem Gi.slots (g : Gi H L V T O Z) {k : Int} (hk : Live V T O k) : ∀ x ∈ slL V k, Val T O x := by
  rcases hk with hk | ⟨hk, hd⟩
  · exact g.slot k hk
  · exact g.oslot k hk hd
end
end Go.Proofs.YtbghglkplbnnkaaGreatDoor
-- GcMov
namespace Go.Proofs.YtbghglkplbnnkaaGreatDoor
open Go.RowKit

theorem Val.more {T O : List Int} {x y : Int} (h : Val T O x) : Val (T ++ [y]) O x := by
  rcases h with h | h | h
  · exact .inl h
  · exact .inr (.inl (List.mem_append.2 (.inl h)))
  · exact .inr (.inr h)
section
variable {H L : Nat} {V T O : List Int} {Z : Int → Int} {a : Int}
structure MvF (H L : Nat) (V : List Int) (Z : Int → Int) (a : Int) (n f z : Nat) : Prop where
  m : Mov H L V a n f z
  ea : a = (n : Int)
  ef : hFr V = (f : Int)
  ez : Z a = (z : Int)
  eo : osz V a = (z : Int)
  ev : folV H L V a = (f : Int)
  le : (f : Int) + z ≤ 16 + hSp V * (H : Int) + H
theorem Gi.mvf (g : Gi H L V T O Z) (ha : a ∈ O) (hd : hdOk (V.getD a.toNat 0) = true) (he : folE H L V a = 0) : ∃ n f z, MvF H L V Z a n f z := by
  have hz := g.size ha hd
  have hM : folM H L V a = true := by
    have i := g.inO ha
    rw [folM, g.ok, g.keyO ha hd hz, i.1, decide_eq_true (show a ≠ 0 by omega)]
    simp
  obtain ⟨n, f, z, m⟩ := fol_mov (h := (H : Int)) (l := (L : Int)) (W := V) (by have := g.len; omega) he hM
  have hsz := m.sz
  have eo : osz V a = (z : Int) := by rw [hsz]; rfl
  exact ⟨n, f, z, m, m.ea, m.fr, by rw [← hz, eo], eo, m.ev, m.fe⟩
theorem MvF.cells {n f z : Nat} (x : MvF H L V Z a n f z) {b : Int} {k : Nat} (h0 : 4 ≤ b) (h1 : b + k ≤ (f : Int) ∨ (f : Int) + z ≤ b) (h2 : b + k ≤ (n : Int) ∨ (n : Int) < b) : celL (folW H L V a) b k = celL V b k :=
  celL_same (fun i hi => by rw [x.m.at, if_neg (by omega), if_neg (by omega), if_neg (by omega)])
theorem MvF.head {n f z : Nat} (x : MvF H L V Z a n f z) {b : Int} (h0 : 4 ≤ b) (h1 : b < (f : Int) ∨ (f : Int) + z ≤ b) (h2 : b ≠ (n : Int)) : (folW H L V a).getD b.toNat 0 = V.getD b.toNat 0 := by
  rw [x.m.at, if_neg (by omega), if_neg (by omega), if_neg (by omega)]
theorem MvF.new {n f z : Nat} (x : MvF H L V Z a n f z) : (folW H L V a).getD f 0 = V.getD n 0 ∧ slL (folW H L V a) (f : Int) = slL V a ∧ wdL (folW H L V a) (f : Int) = wdL V a := by
  have h1 := x.m.n16
  have h2 := x.m.f16
  have h3 := x.m.z1
  have h4 := x.m.ap
  have e : (folW H L V a).getD f 0 = V.getD n 0 := by rw [x.m.at, if_neg (by omega), if_neg (by omega), if_pos ⟨Nat.le_refl _, by omega⟩, Nat.sub_self, Nat.add_zero]
  have eo := x.eo
  have hp := shOk_yes (pr_range (V.getD n 0))
  have ea := x.ea
  have et : a.toNat = n := by omega
  rw [osz, et] at eo
  refine ⟨e, ?_, ?_⟩
  · rw [slL, slL, Int.toNat_natCast, et, e]
    refine celL_same (fun i hi => ?_)
    rw [x.m.at, if_neg (by omega), if_neg (by omega), if_pos (by omega)]
    congr 1
    omega
  · rw [wdL, wdL, Int.toNat_natCast, et, e]
    refine celL_same (fun i hi => ?_)
    rw [x.m.at, if_neg (by omega), if_neg (by omega), if_pos (by omega)]
    congr 1
    omega
theorem MvF.ctl {n f z : Nat} (x : MvF H L V Z a n f z) : hSp (folW H L V a) = hSp V ∧ hFr (folW H L V a) = (f : Int) + z ∧ hGc (folW H L V a) = hGc V ∧ hSc (folW H L V a) = hSc V ∧ (folW H L V a).getD n 0 = 33554432 + (f : Int) := by
  have h1 := x.m.n16
  have h2 := x.m.f16
  refine ⟨?_, ?_, ?_, ?_, ?_⟩
  · rw [hSp, x.m.at, if_neg (by omega), if_neg (by omega), if_neg (by omega)]; rfl
  · rw [hFr, x.m.at, if_neg (by omega), if_pos rfl]
  · rw [hGc, x.m.at, if_neg (by omega), if_neg (by omega), if_neg (by omega)]; rfl
  · rw [hSc, x.m.at, if_neg (by omega), if_neg (by omega), if_neg (by omega)]; rfl
  · rw [x.m.at, if_pos rfl]
theorem MvF.oldT {n f z : Nat} (x : MvF H L V Z a n f z) (g : Gi H L V T O Z) (ha : a ∈ O) {t : Int} (ht : t ∈ T) : (folW H L V a).getD t.toNat 0 = V.getD t.toNat 0 ∧ slL (folW H L V a) t = slL V t ∧ wdL (folW H L V a) t = wdL V t := by
  have hg := g.geo
  obtain ⟨u1, u2, u3⟩ := g.used.1 t ht
  have uo := g.old a ha
  have hp := shOk_yes (pr_range (V.getD t.toNat 0))
  have ea := x.ea
  have ef := x.ef
  rw [osz] at u2
  have e := x.head (b := t) (by omega) (by omega) (by omega)
  refine ⟨e, ?_, ?_⟩
  · rw [slL, slL, e]
    exact x.cells (by omega) (by omega) (by omega)
  · rw [wdL, wdL, e]
    exact x.cells (by omega) (by omega) (by omega)
theorem Gi.apart2 (g : Gi H L V T O Z) {o p : Int} (ho : o ∈ O) (hp : p ∈ O) (hne : o ≠ p) : o + Z o ≤ p ∨ p + Z p ≤ o := by
  have go : ∀ l : List Int, l.Pairwise (fun a b => a + Z a ≤ b) → o ∈ l → p ∈ l → o + Z o ≤ p ∨ p + Z p ≤ o := by
    intro l
    induction l with
    | nil => intro _ h _; exact absurd h List.not_mem_nil
    | cons y l ih =>
      intro h h1 h2
      obtain ⟨h3, h4⟩ := List.pairwise_cons.1 h
      rcases List.mem_cons.1 h1 with e1 | h1
      · rcases List.mem_cons.1 h2 with e2 | h2
        · exact absurd (e1.trans e2.symm) hne
        · rw [e1]
          exact .inl (h3 p h2)
      · rcases List.mem_cons.1 h2 with e2 | h2
        · rw [e2]
          exact .inr (h3 o h1)
        · exact ih h4 h1 h2
  exact go O g.apart ho hp
theorem MvF.oldO {n f z : Nat} (x : MvF H L V Z a n f z) (g : Gi H L V T O Z) (ha : a ∈ O) {o : Int} (ho : o ∈ O) (hne : o ≠ a) : (folW H L V a).getD o.toNat 0 = V.getD o.toNat 0 ∧ (hdOk (V.getD o.toNat 0) = true → slL (folW H L V a) o = slL V o ∧ wdL (folW H L V a) o = wdL V o) := by
  have hg := g.geo
  have uo := g.old a ha
  have vo := g.old o ho
  have ap := g.apart2 ho ha hne
  have ea := x.ea
  have ef := x.ef
  have le := x.le
  have z1 := x.m.z1
  have e := x.head (b := o) (by omega) (by omega) (by omega)
  refine ⟨e, fun hd => ?_⟩
  have hz := g.size ho hd
  have hp := shOk_yes (pr_range (V.getD o.toNat 0))
  rw [osz] at hz
  refine ⟨?_, ?_⟩
  · rw [slL, slL, e]
    exact x.cells (by omega) (by omega) (by omega)
  · rw [wdL, wdL, e]
    exact x.cells (by omega) (by omega) (by omega)
theorem MvF.roots {n f z : Nat} (x : MvF H L V Z a n f z) : celL (folW H L V a) 8 8 = celL V 8 8 := by
  have h1 := x.m.n16
  have h2 := x.m.f16
  exact x.cells (by omega) (by omega) (by omega)
theorem MvF.gi {n f z : Nat} (x : MvF H L V Z a n f z) (g : Gi H L V T O Z) (ha : a ∈ O) (hd : hdOk (V.getD a.toNat 0) = true) : Gi H L (folW H L V a) (T ++ [hFr V]) O Z := by
  have hg := g.geo
  obtain ⟨c0, c1, c2, c3, cn⟩ := x.ctl
  obtain ⟨n0, n1, n2⟩ := x.new
  have ea := x.ea
  have ef := x.ef
  have hWl : (V.length : Int) = 16 + 2 * (H : Int) := by have := g.len; omega
  have ok := fol_ok hWl g.ok a
  have eo := x.eo
  rw [osz, ea, Int.toNat_natCast] at eo
  rw [ea, Int.toNat_natCast] at hd
  have z1 := x.m.z1
  have f16 := x.m.f16
  refine ⟨(folW_len _ _ _ _).trans g.len, ok, fol_num hWl g.num a, ?_, ?_, g.apart, ?_, ?_, ?_, ?_, ?_⟩
  · have e := g.ob
    rw [objs, if_pos g.ok, ef] at e
    have hmore := objGo_more (W := V) (V := folW H L V a) (a := f) (n := z) z1 (by rw [n0]; exact hd) (by rw [n0]; exact eo) 1000 (16 + hSp V * (H : Int)) (by omega) (by omega) (by omega) (fun i hi hif => by
      have := x.m.n16
      have uo := g.old a ha
      rw [x.m.at, if_neg (by omega), if_neg (by omega), if_neg (by omega)]) (by rw [e])
    rw [objs, if_pos ok, c0, c1, hmore, e, ef]
  · rw [c0]
    exact g.old
  · intro o ho
    by_cases e : o = a
    · refine .inr ⟨hFr V, by simp, ?_⟩
      rw [e, show a.toNat = n by omega, cn, ef]
    · obtain ⟨e1, _⟩ := x.oldO g ha ho e
      rw [osz, e1]
      rcases g.kind o ho with q | ⟨t, ht, q⟩
      · exact .inl q
      · exact .inr ⟨t, List.mem_append.2 (.inl ht), q⟩
  · rw [c2]
    exact g.gc
  · rw [x.roots]
    exact fun y hy => (g.root y hy).more
  · intro t ht
    rcases List.mem_append.1 ht with ht | ht
    · rw [(x.oldT g ha ht).2.1]
      exact fun y hy => (g.slot t ht y hy).more
    · rw [List.mem_singleton.1 ht, ef, n1]
      exact fun y hy => (g.oslot a ha (by rw [ea, Int.toNat_natCast]; exact hd) y hy).more
  · intro o ho hdo
    have e : o ≠ a := fun e => by
      rw [e, show a.toNat = n by omega, cn, hd_of_fw (by omega)] at hdo
      exact absurd hdo (by decide)
    obtain ⟨e1, e2⟩ := x.oldO g ha ho e
    rw [e1] at hdo
    rw [(e2 hdo).1]
    exact fun y hy => (g.oslot o ho hdo y hy).more
def mvT (a f k : Int) : Int := if k = a then f else k
theorem MvF.live {n f z : Nat} (x : MvF H L V Z a n f z) (g : Gi H L V T O Z) (ha : a ∈ O) {k : Int} (hk : Live V T O k) : Live (folW H L V a) (T ++ [hFr V]) O (mvT a (hFr V) k) := by
  rw [mvT]
  by_cases e : k = a
  · rw [if_pos e]
    exact .inl (by simp)
  · rw [if_neg e]
    rcases hk with hk | ⟨hk, hd⟩
    · exact .inl (List.mem_append.2 (.inl hk))
    · exact .inr ⟨hk, by rw [(x.oldO g ha hk e).1]; exact hd⟩
theorem MvF.ref {n f z : Nat} (x : MvF H L V Z a n f z) (g : Gi H L V T O Z) (ha : a ∈ O) (hd : hdOk (V.getD a.toNat 0) = true) {y : Int} (hy : Val T O y) : Ref H L V (folW H L V a) (Live V T O) (mvT a (hFr V)) y y := by
  have g2 := x.gi g ha hd
  have hz := g.size ha hd
  rcases hy with rfl | hy | hy
  · exact ⟨0, g.key0, .inl rfl, by rw [if_pos rfl]; exact g2.key0⟩
  · have hl : Live V T O y := .inl hy
    have ne : y ≠ a := fun e => by
      have := (g.inT hy).1
      rw [e, (g.inO ha).1] at this
      exact absurd this (by decide)
    refine ⟨y, g.keyT hy, .inr hl, ?_⟩
    rw [if_neg (g.ne0 hl), mvT, if_neg ne]
    exact g2.keyT (List.mem_append.2 (.inl hy))
  · by_cases e : y = a
    · subst e
      have hl : Live V T O y := .inr ⟨hy, hd⟩
      refine ⟨y, g.keyO hy hd hz, .inr hl, ?_⟩
      rw [if_neg (g.ne0 hl), mvT, if_pos rfl]
      refine g2.keyF hy (by simp) ?_
      rw [show y.toNat = n by have := x.ea; omega, x.ctl.2.2.2.2, x.ef]
    · obtain ⟨e1, _⟩ := x.oldO g ha hy e
      rcases g.kind y hy with ⟨d, z'⟩ | ⟨t, ht, q⟩
      · have hl : Live V T O y := .inr ⟨hy, d⟩
        refine ⟨y, g.keyO hy d z', .inr hl, ?_⟩
        rw [if_neg (g.ne0 hl), mvT, if_neg e]
        exact g2.keyO hy (by rw [e1]; exact d) (by rw [osz, e1]; exact z')
      · have hl : Live V T O t := .inl ht
        have ne : t ≠ a := fun e => by
          have := (g.inT ht).1
          rw [e, (g.inO ha).1] at this
          exact absurd this (by decide)
        refine ⟨t, g.keyF hy ht q, .inr hl, ?_⟩
        rw [if_neg (g.ne0 hl), mvT, if_neg ne]
        exact g2.keyF hy (List.mem_append.2 (.inl ht)) (by rw [e1]; exact q)
theorem MvF.sim {n f z : Nat} (x : MvF H L V Z a n f z) (g : Gi H L V T O Z) (ha : a ∈ O) (hd : hdOk (V.getD a.toNat 0) = true) : Sim H L V (folW H L V a) (Live V T O) (mvT a (hFr V)) := by
  have g2 := x.gi g ha hd
  have hg := g.geo
  have nf : ¬ Live V T O (hFr V) := fun q => by
    rcases q with q | ⟨q, _⟩
    · have := (g.used.1 _ q).2.1
      have := osz_pos V (hFr V)
      omega
    · have := g.old _ q
      have := x.le
      have := x.ef
      have := x.m.z1
      omega
  have sl : ∀ k, Live V T O k → slL (folW H L V a) (mvT a (hFr V) k) = slL V k ∧ wdL (folW H L V a) (mvT a (hFr V) k) = wdL V k := fun k hk => by
    rw [mvT]
    by_cases e : k = a
    · rw [if_pos e, e, x.ef]
      exact x.new.2
    · rw [if_neg e]
      rcases hk with hk | ⟨hk, hd2⟩
      · exact (x.oldT g ha hk).2
      · exact (x.oldO g ha hk e).2 hd2
  refine ⟨fun p q hp hq e => ?_, fun p hp => ⟨g.ne0 hp, g2.ne0 (x.live g ha hp)⟩, fun p hp => ⟨g.nb hp, g2.nb (x.live g ha hp)⟩, fun p hp => ?_, fun p hp => (sl p hp).2⟩
  · rw [mvT, mvT] at e
    by_cases e1 : p = a
    · by_cases e2 : q = a
      · rw [e1, e2]
      · rw [if_pos e1, if_neg e2] at e
        rw [← e] at hq
        exact absurd hq nf
    · by_cases e2 : q = a
      · rw [if_neg e1, if_pos e2] at e
        rw [e] at hp
        exact absurd hp nf
      · rwa [if_neg e1, if_neg e2] at e
  · rw [(sl p hp).1]
    exact RefL.diag (fun y hy => x.ref g ha hd (g.slots hp y hy))
end
def gr (H L : Nat) (V : List Int) : Option (List Int × List (List Int × List Int)) := (frm H L V (celL V 8 8)).map (fun x => (x.1, x.2.1))
theorem gr_same {H L : Nat} {V V2 : List Int} {P : Int → Prop} {f : Int → Int} (s : Sim H L V V2 P f) (r : RefL (Ref H L V V2 P f) (celL V 8 8) (celL V2 8 8)) : gr H L V2 = gr H L V := by
  obtain ⟨rs, o, at1, e1, e2, _⟩ := frm_sim s r
  rw [gr, gr, e1, e2]
  rfl
theorem MvF.gr {H L : Nat} {V T O : List Int} {Z : Int → Int} {a : Int} {n f z : Nat} (x : MvF H L V Z a n f z) (g : Gi H L V T O Z) (ha : a ∈ O) (hd : hdOk (V.getD a.toNat 0) = true) : gr H L (folW H L V a) = gr H L V := by
  refine gr_same (x.sim g ha hd) ?_
  rw [x.roots]
  exact RefL.diag (fun y hy => x.ref g ha hd (g.root y hy))
end Go.Proofs.YtbghglkplbnnkaaGreatDoor
