import Derived.Test.YtbghglkplbnnkaaGreatDoorYGcA
import Derived.Test.YtbghglkplbnnkaaGreatDoorYHeapStart
set_option linter.unusedVariables false
set_option linter.unusedSimpArgs false
-- GcFix
namespace Go.Proofs.YtbghglkplbnnkaaGreatDoor
open Go.RowKit

def IsRef (V T : List Int) (c : Nat) : Prop := (8 ≤ c ∧ c < 16) ∨ ∃ t ∈ T, t < (c : Int) ∧ (c : Int) ≤ t + prS (V.getD t.toNat 0)
theorem mem_celL {V : List Int} {b : Int} {n : Nat} {x : Int} : x ∈ celL V b n ↔ ∃ i, i < n ∧ x = V.getD (b.toNat + i) 0 := by
  rw [celL, List.mem_map]
  constructor
  · rintro ⟨i, hi, e⟩
    exact ⟨i, List.mem_range.1 hi, e.symm⟩
  · rintro ⟨i, hi, e⟩
    exact ⟨i, List.mem_range.2 hi, e.symm⟩
theorem celL_off {V : List Int} {b : Int} {n c : Nat} {v : Int} (h : c < b.toNat ∨ b.toNat + n ≤ c) : celL (V.set c v) b n = celL V b n :=
  celL_same (fun i hi => getD_set_ne (by omega))
section
variable {H L : Nat} {V T O : List Int} {Z : Int → Int}
theorem Gi.apartT (g : Gi H L V T O Z) {o p : Int} (ho : o ∈ T) (hp : p ∈ T) (hne : o ≠ p) : o + osz V o ≤ p ∨ p + osz V p ≤ o := by
  have go : ∀ l : List Int, l.Pairwise (fun a b => a + osz V a ≤ b) → o ∈ l → p ∈ l → o + osz V o ≤ p ∨ p + osz V p ≤ o := by
    intro l
    induction l with
    | nil => intro _ h _; exact absurd h List.not_mem_nil
    | cons y l ih =>
      intro h h1 h2
      obtain ⟨h3, h4⟩ := List.pairwise_cons.1 h
      rcases List.mem_cons.1 h1 with e1 | h1
      · rcases List.mem_cons.1 h2 with e2 | h2
        · exact absurd (e1.trans e2.symm) hne
        · rw [e1]
          exact .inl (h3 p h2)
      · rcases List.mem_cons.1 h2 with e2 | h2
        · rw [e2]
          exact .inr (h3 o h1)
        · exact ih h4 h1 h2
  exact go T g.used.2 ho hp
theorem Gi.refT (g : Gi H L V T O Z) {c : Nat} (hc : IsRef V T c) {t : Int} (ht : t ∈ T) : c ≠ t.toNat ∧ ((c : Int) < t + 1 + prS (V.getD t.toNat 0) ∨ t + osz V t ≤ (c : Int)) := by
  have it := (g.inT ht).2.1
  have ot : osz V t = 1 + prS (V.getD t.toNat 0) + prW (V.getD t.toNat 0) := rfl
  have hp := shOk_yes (pr_range (V.getD t.toNat 0))
  rcases hc with hc | ⟨s, hs, h1, h2⟩
  · omega
  · have is := (g.inT hs).2.1
    have os : osz V s = 1 + prS (V.getD s.toNat 0) + prW (V.getD s.toNat 0) := rfl
    have hq := shOk_yes (pr_range (V.getD s.toNat 0))
    by_cases e : s = t
    · subst e
      omega
    · have := g.apartT hs ht e
      omega
theorem Gi.refO (g : Gi H L V T O Z) {c : Nat} (hc : IsRef V T c) {o : Int} (ho : o ∈ O) : c < o.toNat ∨ o.toNat + (Z o).toNat ≤ c := by
  have hg := g.geo
  have u := g.old o ho
  rcases hc with hc | ⟨s, hs, h1, h2⟩
  · omega
  · obtain ⟨u1, u2, _⟩ := g.used.1 s hs
    have os : osz V s = 1 + prS (V.getD s.toNat 0) + prW (V.getD s.toNat 0) := rfl
    have hq := shOk_yes (pr_range (V.getD s.toNat 0))
    omega
theorem Gi.refC (g : Gi H L V T O Z) {c : Nat} (hc : IsRef V T c) : 8 ≤ c ∧ c < V.length ∧ Val T O (V.getD c 0) := by
  have hl := g.len
  have hg := g.geo
  rcases hc with hc | ⟨s, hs, h1, h2⟩
  · refine ⟨by omega, by omega, g.root _ (mem_celL.2 ⟨c - 8, by omega, ?_⟩)⟩
    congr 1
    show c = 8 + (c - 8)
    omega
  · have is := g.inT hs
    refine ⟨by omega, ?_, g.slot s hs _ (mem_celL.2 ⟨c - (s + 1).toNat, by omega, ?_⟩)⟩
    · obtain ⟨u1, u2, _⟩ := g.used.1 s hs
      have os : osz V s = 1 + prS (V.getD s.toNat 0) + prW (V.getD s.toNat 0) := rfl
      have hq := shOk_yes (pr_range (V.getD s.toNat 0))
      omega
    · congr 1
      omega
theorem Gi.fix (g : Gi H L V T O Z) {c : Nat} (hc : IsRef V T c) {k : Int} (hk : lk H L V (V.getD c 0) = (k, true)) (kl : k = 0 ∨ Live V T O k) : Gi H L (V.set c k) T O Z ∧ gr H L (V.set c k) = gr H L V := by
  obtain ⟨c8, cl, hx⟩ := g.refC hc
  have hg := g.geo
  have hl := g.len
  have kv : Val T O k := by
    rcases kl with h | h | h
    · exact .inl h
    · exact .inr (.inl h)
    · exact .inr (.inr h.1)
  have kb : 0 ≤ k ∧ k < 4294967296 := by
    rcases kl with h | h | h
    · omega
    · have := g.inT h
      omega
    · have := g.inO h.1
      omega
  have ctl : ∀ i, i < 8 → (V.set c k).getD i 0 = V.getD i 0 := fun i hi => getD_set_ne (by omega)
  have e0 : hSp (V.set c k) = hSp V := ctl 0 (by decide)
  have e1 : hFr (V.set c k) = hFr V := ctl 1 (by decide)
  have e2 : hGc (V.set c k) = hGc V := ctl 2 (by decide)
  have hT : ∀ t ∈ T, (V.set c k).getD t.toNat 0 = V.getD t.toNat 0 := fun t ht => getD_set_ne (g.refT hc ht).1
  have hO : ∀ o ∈ O, (V.set c k).getD o.toNat 0 = V.getD o.toNat 0 := fun o ho => getD_set_ne (by
    have := g.refO hc ho
    have := g.old o ho
    omega)
  have ok : hOk H L (V.set c k) = true := ok_set g.ok (by omega) k
  have cell : ∀ i, (V.set c k).getD i 0 = k ∨ (V.set c k).getD i 0 = V.getD i 0 := fun i => by
    rw [getD_set]
    split
    · exact .inl rfl
    · exact .inr rfl
  have oS : ∀ o ∈ O, hdOk (V.getD o.toNat 0) = true → slL (V.set c k) o = slL V o ∧ wdL (V.set c k) o = wdL V o := fun o ho hd => by
    have r := g.refO hc ho
    have z := g.size ho hd
    have u := g.old o ho
    have hp := shOk_yes (pr_range (V.getD o.toNat 0))
    have i := g.inO ho
    rw [osz] at z
    rw [slL, slL, wdL, wdL, hO o ho]
    exact ⟨celL_off (by omega), celL_off (by omega)⟩
  have g2 : Gi H L (V.set c k) T O Z := by
    refine ⟨by rw [List.length_set]; exact hl, ok, g.num.set c kb.1 kb.2, ?_, by rw [e0]; exact g.old, g.apart, ?_, by rw [e2]; exact g.gc, ?_, ?_, ?_⟩
    · have e := g.ob
      rw [objs, if_pos g.ok] at e
      rw [objs, if_pos ok, e0, e1, objGo_same (W := V) 1000 _ (fun y hy => hT y (by rw [e] at hy; exact hy)) (by rw [e]), e]
    · intro o ho
      rw [osz, hO o ho]
      exact g.kind o ho
    · intro x hx2
      obtain ⟨i, hi, rfl⟩ := mem_celL.1 hx2
      rcases cell ((8 : Int).toNat + i) with q | q
      · rw [q]; exact kv
      · rw [q]; exact g.root _ (mem_celL.2 ⟨i, hi, rfl⟩)
    · intro t ht x hx2
      rw [slL, hT t ht] at hx2
      obtain ⟨i, hi, rfl⟩ := mem_celL.1 hx2
      rcases cell ((t + 1).toNat + i) with q | q
      · rw [q]; exact kv
      · rw [q]; exact g.slot t ht _ (mem_celL.2 ⟨i, hi, rfl⟩)
    · intro o ho hd x hx2
      rw [hO o ho] at hd
      rw [(oS o ho hd).1] at hx2
      exact g.oslot o ho hd x hx2
  refine ⟨g2, ?_⟩
  have live : ∀ p, Live V T O p → Live (V.set c k) T O p := fun p hp => by
    rcases hp with hp | ⟨hp, hd⟩
    · exact .inl hp
    · exact .inr ⟨hp, by rw [hO p hp]; exact hd⟩
  have keyL : ∀ p, (p = 0 ∨ Live V T O p) → lk H L (V.set c k) p = (p, true) := fun p hp => by
    rcases hp with rfl | hp | ⟨hp, hd⟩
    · exact g2.key0
    · exact g2.keyT hp
    · exact g2.keyO hp (by rw [hO p hp]; exact hd) (by rw [osz, hO p hp]; exact g.size hp hd)
  have idk : ∀ p : Int, (if p = 0 then 0 else id p) = p := fun p => by
    split
    · next h => exact h.symm
    · rfl
  have ref : ∀ x, Val T O x → Ref H L V (V.set c k) (Live V T O) id x x := fun x hx2 => by
    obtain ⟨p, hp1, hp2⟩ := g.key hx2
    refine ⟨p, hp1, hp2, ?_⟩
    rw [idk]
    rcases hx2 with rfl | hx2 | hx2
    · rw [g.key0] at hp1
      obtain rfl : (0 : Int) = p := (Prod.mk.inj hp1).1
      exact g2.key0
    · rw [g.keyT hx2] at hp1
      obtain rfl : x = p := (Prod.mk.inj hp1).1
      exact g2.keyT hx2
    · rcases g.kind x hx2 with ⟨d, z⟩ | ⟨t, ht, e⟩
      · rw [g.keyO hx2 d z] at hp1
        obtain rfl : x = p := (Prod.mk.inj hp1).1
        exact g2.keyO hx2 (by rw [hO x hx2]; exact d) (by rw [osz, hO x hx2]; exact z)
      · rw [g.keyF hx2 ht e] at hp1
        obtain rfl : t = p := (Prod.mk.inj hp1).1
        exact g2.keyF hx2 ht (by rw [hO x hx2]; exact e)
  have refc : Ref H L V (V.set c k) (Live V T O) id (V.getD c 0) k := ⟨k, hk, kl, by rw [idk]; exact keyL k kl⟩
  have cellR : ∀ i, Val T O (V.getD i 0) → Ref H L V (V.set c k) (Live V T O) id (V.getD i 0) ((V.set c k).getD i 0) := fun i hi => by
    by_cases e : c = i
    · subst e
      rw [getD_set_eq cl]
      exact refc
    · rw [getD_set_ne e]
      exact ref _ hi
  refine gr_same (P := Live V T O) (f := id) ⟨fun p q _ _ e => e, fun p hp => ⟨g.ne0 hp, g.ne0 hp⟩, fun p hp => ⟨g.nb hp, g2.nb (live p hp)⟩, fun p hp => ?_, fun p hp => ?_⟩ ?_
  · have e : (V.set c k).getD p.toNat 0 = V.getD p.toNat 0 := by
      rcases hp with hp | ⟨hp, _⟩
      · exact hT p hp
      · exact hO p hp
    rw [slL, slL, show id p = p from rfl, e]
    exact RefL.map (fun i hi => cellR _ (g.slots hp _ (mem_celL.2 ⟨i, List.mem_range.1 hi, rfl⟩)))
  · rcases hp with hp | ⟨hp, hd⟩
    · have r := (g.refT hc hp).2
      have i := (g.inT hp).2.1
      have hq := shOk_yes (pr_range (V.getD p.toNat 0))
      rw [osz] at r
      rw [wdL, wdL, show id p = p from rfl, hT p hp]
      exact celL_off (by omega)
    · exact (oS p hp hd).2
  · exact RefL.map (fun i hi => cellR _ (g.root _ (mem_celL.2 ⟨i, List.mem_range.1 hi, rfl⟩)))
end
end Go.Proofs.YtbghglkplbnnkaaGreatDoor
-- GcCel
namespace Go.Proofs.YtbghglkplbnnkaaGreatDoor
open Go.RowKit

def restZ (V : List Int) (Z : Int → Int) : List Int → Int
  | [] => 0
  | o :: r => (if hdOk (V.getD o.toNat 0) = true then Z o else 0) + restZ V Z r
theorem restZ_same {V W : List Int} {Z : Int → Int} : ∀ {O : List Int}, (∀ o ∈ O, V.getD o.toNat 0 = W.getD o.toNat 0) → restZ V Z O = restZ W Z O
  | [], _ => rfl
  | o :: r, h => by rw [restZ, restZ, h o (List.mem_cons_self ..), restZ_same (fun x hx => h x (List.mem_cons_of_mem _ hx))]
theorem restZ_one {V W : List Int} {Z : Int → Int} {a : Int} : ∀ {O : List Int}, O.Nodup → a ∈ O → (∀ o ∈ O, o ≠ a → W.getD o.toNat 0 = V.getD o.toNat 0) → hdOk (V.getD a.toNat 0) = true → hdOk (W.getD a.toNat 0) = false → restZ V Z O = restZ W Z O + Z a
  | [], _, h, _, _, _ => absurd h List.not_mem_nil
  | o :: r, hn, hm, hs, h1, h2 => by
    obtain ⟨n1, n2⟩ := List.nodup_cons.1 hn
    rcases List.mem_cons.1 hm with e | hm
    · subst e
      rw [restZ, restZ, h1, h2, if_pos rfl, if_neg (by decide), restZ_same (V := V) (W := W) (fun x hx => (hs x (List.mem_cons_of_mem _ hx) (fun e => n1 (e ▸ hx))).symm)]
      omega
    · have ne : o ≠ a := fun e => n1 (e ▸ hm)
      rw [restZ, restZ, hs o (List.mem_cons_self ..) ne, restZ_one n2 hm (fun x hx => hs x (List.mem_cons_of_mem _ hx)) h1 h2]
      omega
theorem restZ_ge {V : List Int} {Z : Int → Int} : ∀ {O : List Int}, (∀ o ∈ O, 1 ≤ Z o) → 0 ≤ restZ V Z O
  | [], _ => Int.le_refl _
  | o :: r, h => by
    have := restZ_ge (V := V) (fun x hx => h x (List.mem_cons_of_mem _ hx))
    have := h o (List.mem_cons_self ..)
    rw [restZ]
    split <;> omega
theorem restZ_mem {V : List Int} {Z : Int → Int} {a : Int} : ∀ {O : List Int}, (∀ o ∈ O, 1 ≤ Z o) → a ∈ O → hdOk (V.getD a.toNat 0) = true → Z a ≤ restZ V Z O
  | [], _, h, _ => absurd h List.not_mem_nil
  | o :: r, h, hm, h1 => by
    have := restZ_ge (V := V) (fun x hx => h x (List.mem_cons_of_mem _ hx))
    have := h o (List.mem_cons_self ..)
    rcases List.mem_cons.1 hm with e | hm
    · subst e
      rw [restZ, h1, if_pos rfl]
      omega
    · have := restZ_mem (V := V) (fun x hx => h x (List.mem_cons_of_mem _ hx)) hm h1
      rw [restZ]
      split <;> omega
def Room (H : Nat) (V O : List Int) (Z : Int → Int) : Prop := hFr V + restZ V Z O ≤ 16 + hSp V * (H : Int) + H
structure CelR (H L : Nat) (V T O : List Int) (Z : Int → Int) (c : Nat) (V2 T2 : List Int) : Prop where
  gi : Gi H L V2 T2 O Z
  gr : gr H L V2 = gr H L V
  sub : T2 = T ∨ T2 = T ++ [hFr V]
  at_ : V2.getD c 0 = 0 ∨ V2.getD c 0 ∈ T2
  new : ∀ t ∈ T2, t ∈ T ∨ (V2.getD c 0 = t ∧ hFr V ≤ t)
  stay : V.getD c 0 ∈ T → V2.getD c 0 = V.getD c 0
  cells : ∀ i : Nat, i ≠ c → ((4 ≤ i ∧ i < 16) ∨ ∃ t ∈ T, t ≤ (i : Int) ∧ (i : Int) < t + osz V t) → V2.getD i 0 = V.getD i 0
  sp : hSp V2 = hSp V
  gc : hGc V2 = hGc V
  sc : hSc V2 = hSc V
  fr : hFr V ≤ hFr V2
  room : Room H V O Z → Room H V2 O Z
section
variable {H L : Nat} {V T O : List Int} {Z : Int → Int}
theorem Gi.nodup (g : Gi H L V T O Z) : O.Nodup := by
  have h : ∀ l : List Int, (∀ o ∈ l, 1 ≤ Z o) → l.Pairwise (fun a b => a + Z a ≤ b) → l.Nodup := by
    intro l
    induction l with
    | nil => intro _ _; exact List.Pairwise.nil
    | cons y l ih =>
      intro h1 h2
      obtain ⟨h3, h4⟩ := List.pairwise_cons.1 h2
      refine List.nodup_cons.2 ⟨fun hy => ?_, ih (fun o ho => h1 o (List.mem_cons_of_mem _ ho)) h4⟩
      have := h3 y hy
      have := h1 y (List.mem_cons_self ..)
      omega
  exact h O (fun o ho => (g.old o ho).2.2) g.apart
theorem Gi.fol0 (g : Gi H L V T O Z) {x : Int} (hx : Val T O x) (room : Room H V O Z) : folE H L V x = 0 := by
  obtain ⟨k, hk, _⟩ := g.key hx
  rw [folE, if_neg (show ¬ hOk H L V = false by rw [g.ok]; decide), if_neg (show ¬ (lk H L V x).2 = false by rw [hk]; simp)]
  refine if_neg ?_
  rintro ⟨q1, q2⟩
  obtain ⟨_, _, q3, q4, q5⟩ := folM_yes q1
  rcases hx with e | hx | hx
  · exact q3 e
  · rw [(g.inT hx).1] at q4
    exact absurd q4 (by decide)
  · rcases g.kind x hx with ⟨d, z⟩ | ⟨t, ht, e⟩
    · have := restZ_mem (V := V) (Z := Z) (fun o ho => (g.old o ho).2.2) hx d
      have ez : folZ V x = osz V x := rfl
      rw [Room] at room
      omega
    · rw [g.keyF hx ht e] at q5
      have e5 : t = x := q5
      have := (g.inT ht).1
      rw [e5, q4] at this
      exact absurd this (by decide)
theorem Gi.fol6 (g : Gi H L V T O Z) {x : Int} (hx : Val T O x) : folE H L V x = 0 ∨ folE H L V x = 6 := by
  obtain ⟨k, hk, _⟩ := g.key hx
  rw [folE, if_neg (show ¬ hOk H L V = false by rw [g.ok]; decide), if_neg (show ¬ (lk H L V x).2 = false by rw [hk]; simp)]
  split
  · exact .inr rfl
  · exact .inl rfl
theorem Gi.cel (g : Gi H L V T O Z) {c : Nat} (hc : IsRef V T c) (e0 : celE H L V c = 0) : ∃ T2, CelR H L V T O Z c (celW H L V c) T2 := by
  obtain ⟨c8, cl, hx⟩ := g.refC hc
  have hg := g.geo
  rw [celW, if_pos e0, celV]
  rw [celE] at e0
  have plain : ∀ k, lk H L V (V.getD c 0) = (k, true) → (k = 0 ∨ k ∈ T) → folM H L V (V.getD c 0) = false → ∃ T2, CelR H L V T O Z c ((folW H L V (V.getD c 0)).set c (folV H L V (V.getD c 0))) T2 := fun k hk kl hM => by
    have eW : folW H L V (V.getD c 0) = V := if_neg (fun q => by rw [hM] at q; exact absurd q.2 (by decide))
    have eV : folV H L V (V.getD c 0) = k := by rw [folV, if_pos e0, if_neg (by rw [hM]; decide), hk]
    rw [eW, eV]
    obtain ⟨g2, r2⟩ := g.fix hc hk (kl.imp id .inl)
    have ctl : ∀ i, i < 8 → (V.set c k).getD i 0 = V.getD i 0 := fun i hi => getD_set_ne (by omega)
    refine ⟨T, g2, r2, .inl rfl, by rw [getD_set_eq cl]; exact kl, fun t ht => .inl ht, fun ht => ?_, fun i hi _ => getD_set_ne (fun e => hi e.symm), ctl 0 (by decide), ctl 2 (by decide), ctl 3 (by decide), Int.le_of_eq (ctl 1 (by decide)).symm, fun room => ?_⟩
    · rw [g.keyT ht] at hk
      rw [getD_set_eq cl]
      exact (Prod.mk.inj hk).1.symm
    have e1 : hFr (V.set c k) = hFr V := ctl 1 (by decide)
    have e2 : hSp (V.set c k) = hSp V := ctl 0 (by decide)
    rw [Room] at room ⊢
    rw [e1, e2, restZ_same (W := V) (fun o ho => getD_set_ne (by
      have := g.refO hc ho
      have := g.old o ho
      omega))]
    exact room
  rcases hx with e | hx | hx
  · refine plain 0 (by rw [e]; exact g.key0) (.inl rfl) ?_
    cases q : folM H L V (V.getD c 0)
    · rfl
    · exact absurd e (folM_yes q).2.2.1
  · refine plain _ (g.keyT hx) (.inr hx) ?_
    cases q : folM H L V (V.getD c 0)
    · rfl
    · have := (folM_yes q).2.2.2.1
      rw [(g.inT hx).1] at this
      exact absurd this (by decide)
  · rcases g.kind _ hx with ⟨d, z⟩ | ⟨t, ht, e⟩
    · obtain ⟨n, f, zz, m⟩ := g.mvf hx d e0
      have g1 := m.gi g hx d
      have r1 := m.gr g hx d
      obtain ⟨x0, x1, x2, x3, x4⟩ := m.ctl
      have o1 := m.ef
      have o2 := m.ez
      have o3 := m.ea
      have n16 := m.m.n16
      have f16 := m.m.f16
      have uo := g.old _ hx
      have keep : ∀ i : Nat, ((4 ≤ i ∧ i < 16) ∨ ∃ t ∈ T, t ≤ (i : Int) ∧ (i : Int) < t + osz V t) → (folW H L V (V.getD c 0)).getD i 0 = V.getD i 0 := fun i hi => by
        have hb : 4 ≤ (i : Int) ∧ ((i : Int) < f ∨ (f : Int) + zz ≤ (i : Int)) ∧ (i : Int) ≠ n := by
          rcases hi with hi | ⟨t, ht, h1, h2⟩
          · omega
          · obtain ⟨u1, u2, _⟩ := g.used.1 t ht
            omega
        have := m.head (b := (i : Int)) hb.1 hb.2.1 hb.2.2
        rwa [Int.toNat_natCast] at this
      have inC : (4 ≤ c ∧ c < 16) ∨ ∃ t ∈ T, t ≤ (c : Int) ∧ (c : Int) < t + osz V t := by
        rcases hc with hc | ⟨t, ht, h1, h2⟩
        · exact .inl (by omega)
        · have hq := shOk_yes (pr_range (V.getD t.toNat 0))
          have ot : osz V t = 1 + prS (V.getD t.toNat 0) + prW (V.getD t.toNat 0) := rfl
          exact .inr ⟨t, ht, by omega, by omega⟩
      have ec := keep c inC
      have hc1 : IsRef (folW H L V (V.getD c 0)) (T ++ [hFr V]) c := by
        rcases hc with hc | ⟨t, ht, h1, h2⟩
        · exact .inl hc
        · refine .inr ⟨t, List.mem_append.2 (.inl ht), h1, ?_⟩
          rw [(m.oldT g hx ht).1]
          exact h2
      have hk1 : lk H L (folW H L V (V.getD c 0)) ((folW H L V (V.getD c 0)).getD c 0) = (hFr V, true) := by
        rw [ec]
        exact g1.keyF hx (by simp) (by rw [show (V.getD c 0).toNat = n by omega, x4, o1])
      obtain ⟨g2, r2⟩ := g1.fix hc1 hk1 (.inr (.inl (by simp)))
      have cl1 : c < (folW H L V (V.getD c 0)).length := by rw [folW_len]; exact cl
      have ctl : ∀ i, i < 8 → ((folW H L V (V.getD c 0)).set c (hFr V)).getD i 0 = (folW H L V (V.getD c 0)).getD i 0 := fun i hi => getD_set_ne (by omega)
      rw [m.ev, ← o1]
      have e1 : hFr ((folW H L V (V.getD c 0)).set c (hFr V)) = hFr (folW H L V (V.getD c 0)) := ctl 1 (by decide)
      have e2 : hSp ((folW H L V (V.getD c 0)).set c (hFr V)) = hSp (folW H L V (V.getD c 0)) := ctl 0 (by decide)
      refine ⟨T ++ [hFr V], g2, r2.trans r1, .inr rfl, by rw [getD_set_eq cl1]; exact .inr (by simp), fun t ht => ?_, fun ht => ?_, fun i hi q => (getD_set_ne (fun e => hi e.symm)).trans (keep i q), (ctl 0 (by decide)).trans x0, (ctl 2 (by decide)).trans x2, (ctl 3 (by decide)).trans x3, ?_, fun room => ?_⟩
      · rcases List.mem_append.1 ht with ht | ht
        · exact .inl ht
        · rw [getD_set_eq cl1, List.mem_singleton.1 ht]
          exact .inr ⟨rfl, Int.le_refl _⟩
      · have h1 := (g.inT ht).1
        rw [(g.inO hx).1] at h1
        exact absurd h1 (by decide)
      · rw [e1, x1]
        omega
      · have hr := restZ_one (V := V) (W := (folW H L V (V.getD c 0)).set c (hFr V)) (Z := Z) g.nodup hx (fun o ho hne => by
          have q1 := g.refO hc ho
          have q2 := g.old o ho
          rw [getD_set_ne (by omega)]
          exact (m.oldO g hx ho hne).1) d (by
            have q1 := g.refO hc hx
            rw [getD_set_ne (by omega), show (V.getD c 0).toNat = n by omega, x4]
            exact hd_of_fw (by omega))
        rw [Room] at room ⊢
        rw [e1, e2, x0, x1]
        omega
    · refine plain t (g.keyF hx ht e) (.inr ht) ?_
      cases q : folM H L V (V.getD c 0)
      · rfl
      · obtain ⟨_, _, _, q4, q5⟩ := folM_yes q
        rw [g.keyF hx ht e] at q5
        have e5 : t = V.getD c 0 := q5
        have := (g.inT ht).1
        rw [e5, q4] at this
        exact absurd this (by decide)
end
end Go.Proofs.YtbghglkplbnnkaaGreatDoor
-- GcCol
namespace Go.Proofs.YtbghglkplbnnkaaGreatDoor
open Go.RowKit

structure SlR (H L : Nat) (V T O : List Int) (Z : Int → Int) (a i : Nat) (V2 T2 : List Int) : Prop where
  gi : Gi H L V2 T2 O Z
  gr : gr H L V2 = gr H L V
  room : Room H V O Z → Room H V2 O Z
  sub : ∃ X, T2 = T ++ X
  done : ∀ j, j < i → V2.getD (a + 1 + j) 0 = 0 ∨ V2.getD (a + 1 + j) 0 ∈ T2
  new : ∀ t ∈ T2, t ∈ T ∨ (hFr V ≤ t ∧ ∃ j, j < i ∧ V2.getD (a + 1 + j) 0 = t)
  stay : ∀ j, j < i → V.getD (a + 1 + j) 0 ∈ T → V2.getD (a + 1 + j) 0 = V.getD (a + 1 + j) 0
  cells : ∀ k : Nat, (∀ j, j < i → k ≠ a + 1 + j) → ((4 ≤ k ∧ k < 16) ∨ ∃ t ∈ T, t ≤ (k : Int) ∧ (k : Int) < t + osz V t) → V2.getD k 0 = V.getD k 0
  sp : hSp V2 = hSp V
  gc : hGc V2 = hGc V
  sc : hSc V2 = hSc V
  fr : hFr V ≤ hFr V2
section
variable {H L : Nat} {V T O : List Int} {Z : Int → Int}
theorem Gi.slots_go (g : Gi H L V T O Z) {a n : Nat} (hc : ∀ j, j < n → IsRef V T (a + 1 + j)) : ∀ i, i ≤ n → ((slotsGo H L V a i).1 = 0 ∨ (slotsGo H L V a i).1 = 6) ∧ (Room H V O Z → (slotsGo H L V a i).1 = 0) ∧ ((slotsGo H L V a i).1 = 0 → ∃ T2, SlR H L V T O Z a i (slotsGo H L V a i).2 T2)
  | 0, _ => ⟨.inl rfl, fun _ => rfl, fun _ => ⟨T, g, rfl, id, ⟨[], by simp⟩, fun j hj => absurd hj (Nat.not_lt_zero j), fun t ht => .inl ht, fun j hj => absurd hj (Nat.not_lt_zero j), fun _ _ _ => rfl, rfl, rfl, rfl, Int.le_refl _⟩⟩
  | i + 1, hi => by
    obtain ⟨e6, er, ex⟩ := g.slots_go hc i (by omega)
    rw [slotsGo]
    by_cases e0 : (slotsGo H L V a i).1 = 0
    rotate_left
    · rw [if_neg e0]
      exact ⟨e6, er, fun e => absurd e e0⟩
    obtain ⟨T2, r⟩ := ex e0
    rw [if_pos e0]
    clear e6 er ex e0
    generalize (slotsGo H L V a i).2 = V2 at *
    have hd : ∀ t ∈ T, V2.getD t.toNat 0 = V.getD t.toNat 0 := fun t ht => by
      have it := g.inT ht
      have z := osz_pos V t
      refine r.cells _ (fun j hj e => (g.refT (hc j (by omega)) ht).1 e.symm) (.inr ⟨t, ht, by omega, by omega⟩)
    have sub : ∀ t ∈ T, t ∈ T2 := fun t ht => by
      obtain ⟨X, e⟩ := r.sub
      rw [e]
      exact List.mem_append.2 (.inl ht)
    have reg : ∀ k : Nat, ((4 ≤ k ∧ k < 16) ∨ ∃ t ∈ T, t ≤ (k : Int) ∧ (k : Int) < t + osz V t) → ((4 ≤ k ∧ k < 16) ∨ ∃ t ∈ T2, t ≤ (k : Int) ∧ (k : Int) < t + osz V2 t) := fun k h => by
      rcases h with h | ⟨t, ht, h1, h2⟩
      · exact .inl h
      · exact .inr ⟨t, sub t ht, h1, by rw [osz, hd t ht]; exact h2⟩
    have rg : ∀ j, j < n → ((4 ≤ a + 1 + j ∧ a + 1 + j < 16) ∨ ∃ t ∈ T, t ≤ ((a + 1 + j : Nat) : Int) ∧ ((a + 1 + j : Nat) : Int) < t + osz V t) := fun j hj => by
      rcases hc j hj with h | ⟨t, ht, h1, h2⟩
      · exact .inl (by omega)
      · have ot : osz V t = 1 + prS (V.getD t.toNat 0) + prW (V.getD t.toNat 0) := rfl
        have hq := shOk_yes (pr_range (V.getD t.toNat 0))
        exact .inr ⟨t, ht, by omega, by omega⟩
    have hc2 : IsRef V2 T2 (a + 1 + i) := by
      rcases hc i (by omega) with h | ⟨t, ht, h1, h2⟩
      · exact .inl h
      · exact .inr ⟨t, sub t ht, h1, by rw [hd t ht]; exact h2⟩
    refine ⟨r.gi.fol6 (r.gi.refC hc2).2.2, fun rm => r.gi.fol0 (r.gi.refC hc2).2.2 (r.room rm), fun e1 => ?_⟩
    obtain ⟨T3, x⟩ := r.gi.cel hc2 e1
    refine ⟨T3, x.gi, x.gr.trans r.gr, fun rm => x.room (r.room rm), ?_, fun j hj => ?_, fun t ht => ?_, fun j hj hm => ?_, fun k hk hr => ?_, x.sp.trans r.sp, x.gc.trans r.gc, x.sc.trans r.sc, Int.le_trans r.fr x.fr⟩
    · obtain ⟨X, e⟩ := r.sub
      rcases x.sub with q | q
      · exact ⟨X, q.trans e⟩
      · exact ⟨X ++ [hFr V2], by rw [q, e, List.append_assoc]⟩
    · by_cases e : j = i
      · subst e
        exact x.at_
      · rw [x.cells (a + 1 + j) (by omega) (reg _ (rg j (by omega)))]
        refine (r.done j (by omega)).imp id (fun h => ?_)
        rcases x.sub with q | q
        · rw [q]; exact h
        · rw [q]; exact List.mem_append.2 (.inl h)
    · rcases x.new t ht with h | h
      · rcases r.new t h with h | ⟨hf, j, hj, e⟩
        · exact .inl h
        · refine .inr ⟨hf, j, by omega, ?_⟩
          rw [x.cells (a + 1 + j) (by omega) (reg _ (rg j (by omega)))]
          exact e
      · exact .inr ⟨Int.le_trans r.fr h.2, i, by omega, h.1⟩
    · by_cases e : j = i
      · subst e
        have same : V2.getD (a + 1 + j) 0 = V.getD (a + 1 + j) 0 := r.cells _ (fun q hq => by omega) (rg j (by omega))
        rw [x.stay (by rw [same]; exact sub _ hm), same]
      · rw [x.cells (a + 1 + j) (by omega) (reg _ (rg j (by omega)))]
        exact r.stay j (by omega) hm
    · rw [x.cells k (hk i (by omega)) (reg k hr)]
      exact r.cells k (fun j hj => hk j (by omega)) hr
theorem Gi.ctl (g : Gi H L V T O Z) {V2 : List Int} (len : V2.length = V.length) (ok : hOk H L V2 = true) (num : NumC V2) (sp : hSp V2 = hSp V) (fr : hFr V2 = hFr V) (gc : O ≠ [] → hGc V2 ≠ 0) (cells : ∀ i, 4 ≤ i → V2.getD i 0 = V.getD i 0) : Gi H L V2 T O Z ∧ gr H L V2 = gr H L V := by
  have hT : ∀ t ∈ T, V2.getD t.toNat 0 = V.getD t.toNat 0 := fun t ht => cells _ (by have := (g.inT ht).2.1; omega)
  have hO : ∀ o ∈ O, V2.getD o.toNat 0 = V.getD o.toNat 0 := fun o ho => cells _ (by have := (g.inO ho).2.2.1; omega)
  have cl : ∀ (b : Int) (n : Nat), 4 ≤ b → celL V2 b n = celL V b n := fun b n hb => celL_same (fun i _ => cells _ (by omega))
  have slw : ∀ k, 16 ≤ k → V2.getD k.toNat 0 = V.getD k.toNat 0 → slL V2 k = slL V k ∧ wdL V2 k = wdL V k := fun k hk e => by
    have hq := shOk_yes (pr_range (V.getD k.toNat 0))
    rw [slL, slL, wdL, wdL, e]
    exact ⟨cl _ _ (by omega), cl _ _ (by omega)⟩
  have sT : ∀ t ∈ T, slL V2 t = slL V t ∧ wdL V2 t = wdL V t := fun t ht => slw t (g.inT ht).2.1 (hT t ht)
  have sO : ∀ o ∈ O, slL V2 o = slL V o ∧ wdL V2 o = wdL V o := fun o ho => slw o (g.inO ho).2.2.1 (hO o ho)
  have g2 : Gi H L V2 T O Z := by
    refine ⟨len.trans g.len, ok, num, ?_, by rw [sp]; exact g.old, g.apart, fun o ho => by rw [osz, hO o ho]; exact g.kind o ho, gc, by rw [cl 8 8 (by decide)]; exact g.root, fun t ht => by rw [(sT t ht).1]; exact g.slot t ht, fun o ho hd => ?_⟩
    · have e := g.ob
      rw [objs, if_pos g.ok] at e
      rw [objs, if_pos ok, sp, fr, objGo_same (W := V) 1000 _ (fun y hy => hT y (by rw [e] at hy; exact hy)) (by rw [e]), e]
    · rw [hO o ho] at hd
      rw [(sO o ho).1]
      exact g.oslot o ho hd
  refine ⟨g2, ?_⟩
  have idk : ∀ p : Int, (if p = 0 then 0 else id p) = p := fun p => by
    split
    · next h => exact h.symm
    · rfl
  have ref : ∀ x, Val T O x → Ref H L V V2 (Live V T O) id x x := fun x hx => by
    obtain ⟨p, hp1, hp2⟩ := g.key hx
    refine ⟨p, hp1, hp2, ?_⟩
    rw [idk]
    rcases hx with rfl | hx | hx
    · rw [g.key0] at hp1
      obtain rfl : (0 : Int) = p := (Prod.mk.inj hp1).1
      exact g2.key0
    · rw [g.keyT hx] at hp1
      obtain rfl : x = p := (Prod.mk.inj hp1).1
      exact g2.keyT hx
    · rcases g.kind x hx with ⟨d, z⟩ | ⟨t, ht, e⟩
      · rw [g.keyO hx d z] at hp1
        obtain rfl : x = p := (Prod.mk.inj hp1).1
        exact g2.keyO hx (by rw [hO x hx]; exact d) (by rw [osz, hO x hx]; exact z)
      · rw [g.keyF hx ht e] at hp1
        obtain rfl : t = p := (Prod.mk.inj hp1).1
        exact g2.keyF hx ht (by rw [hO x hx]; exact e)
  have live : ∀ p, Live V T O p → Live V2 T O p := fun p hp => by
    rcases hp with hp | ⟨hp, hd⟩
    · exact .inl hp
    · exact .inr ⟨hp, by rw [hO p hp]; exact hd⟩
  refine gr_same (P := Live V T O) (f := id) ⟨fun p q _ _ e => e, fun p hp => ⟨g.ne0 hp, g.ne0 hp⟩, fun p hp => ⟨g.nb hp, g2.nb (live p hp)⟩, fun p hp => ?_, fun p hp => ?_⟩ ?_
  · have e : slL V2 p = slL V p := by
      rcases hp with hp | ⟨hp, _⟩
      · exact (sT p hp).1
      · exact (sO p hp).1
    rw [show id p = p from rfl, e]
    exact RefL.diag (fun y hy => ref y (g.slots hp y hy))
  · rcases hp with hp | ⟨hp, _⟩
    · exact (sT p hp).2
    · exact (sO p hp).2
  · rw [cl 8 8 (by decide)]
    exact RefL.diag (fun y hy => ref y (g.root y hy))
end
end Go.Proofs.YtbghglkplbnnkaaGreatDoor
-- GcPro
namespace Go.Proofs.YtbghglkplbnnkaaGreatDoor
open Go.RowKit

theorem objGo_first {W : List Int} {fr : Int} (n : Nat) {a : Int} (h : fr - a < (n : Int)) (ha : a ≤ fr) (h3 : (objGo W fr n a).2 = true) : a = fr ∨ a ∈ (objGo W fr n a).1 := by
  cases n with
  | zero => omega
  | succ n =>
    by_cases q : fr ≤ a
    · exact .inl (by omega)
    · by_cases r : hdOk (W.getD a.toNat 0) = false ∨ fr < a + 1 + prS (W.getD a.toNat 0) + prW (W.getD a.toNat 0)
      · rw [objGo_no n q r] at h3
        exact absurd h3 (by decide)
      · rw [objGo_yes n q r]
        exact .inr (List.mem_cons_self ..)
theorem objGo_next {W : List Int} {fr : Int} : ∀ (n : Nat) (a : Int), a ≤ fr → fr - a < (n : Int) → (objGo W fr n a).2 = true → ∀ t ∈ (objGo W fr n a).1, t + osz W t = fr ∨ t + osz W t ∈ (objGo W fr n a).1
  | 0, a, h1, h2, _ => by omega
  | n + 1, a, h1, h2, h3 => by
    by_cases q : fr ≤ a
    · rw [objGo_end q]
      exact fun t ht => absurd ht List.not_mem_nil
    · by_cases r : hdOk (W.getD a.toNat 0) = false ∨ fr < a + 1 + prS (W.getD a.toNat 0) + prW (W.getD a.toNat 0)
      · rw [objGo_no n q r] at h3
        exact absurd h3 (by decide)
      · have hr : ¬ fr < a + 1 + prS (W.getD a.toNat 0) + prW (W.getD a.toNat 0) := fun e => r (.inr e)
        have hp := shOk_yes (pr_range (W.getD a.toNat 0))
        rw [objGo_yes n q r] at h3 ⊢
        intro t ht
        rcases List.mem_cons.1 ht with rfl | ht
        · have e : t + osz W t = t + 1 + prS (W.getD t.toNat 0) + prW (W.getD t.toNat 0) := by rw [osz]; omega
          rw [e]
          exact (objGo_first n (by omega) (by omega) h3).imp id (fun h => List.mem_cons_of_mem _ h)
        · exact (objGo_next n _ (by omega) (by omega) h3 t ht).imp id (fun h => List.mem_cons_of_mem _ h)
theorem used_all {V W : List Int} {Z : Int → Int} : ∀ {T : List Int}, (∀ t ∈ T, hdOk (W.getD t.toNat 0) = true ∧ Z t = osz V t) → restZ W Z T = used V (fun _ => true) T
  | [], _ => rfl
  | t :: T, h => by
    obtain ⟨h1, h2⟩ := h t (List.mem_cons_self ..)
    rw [restZ, used, h1, if_pos rfl, if_pos rfl, h2, used_all (fun x hx => h x (List.mem_cons_of_mem _ hx))]
structure Pr0 (H L : Nat) (V T O : List Int) (Z : Int → Int) : Prop where
  gi : Gi H L V T O Z
  on : hGc V = 1
  roots : ∀ x ∈ celL V 8 8, x = 0 ∨ x ∈ T
  black : ∀ t ∈ T, t < hSc V → ∀ x ∈ slL V t, x = 0 ∨ x ∈ T
  scan : hSc V = hFr V ∨ hSc V ∈ T
def Reach (V T R : List Int) : Prop := ∀ t ∈ T, t ∈ R ∨ t ∈ celL V 8 8 ∨ ∃ s ∈ T, s < t ∧ t ∈ slL V s
structure Pro (H L : Nat) (V T O : List Int) (Z : Int → Int) (R : List Int) : Prop where
  p : Pr0 H L V T O Z
  room : Room H V O Z
  reach : Reach V T R
section
variable {H L : Nat} {V T O : List Int} {Z : Int → Int} {R : List Int}
theorem gi_lists (g : Gi H L V T O Z) : (16 + hSp V * (H : Int) = hFr V ∨ 16 + hSp V * (H : Int) ∈ T) ∧ (∀ t ∈ T, t + osz V t = hFr V ∨ t + osz V t ∈ T) ∧ used V (fun _ => true) T = hFr V - (16 + hSp V * (H : Int)) := by
  have hg := g.geo
  have e := g.ob
  rw [objs, if_pos g.ok] at e
  have e1 : (objGo V (hFr V) 1000 (16 + hSp V * (H : Int))).1 = T := by rw [e]
  have e2 : (objGo V (hFr V) 1000 (16 + hSp V * (H : Int))).2 = true := by rw [e]
  have a1 := objGo_first 1000 (by omega) (by omega) e2
  have a2 := objGo_next 1000 _ (by omega) (by omega) e2
  have a3 := (objGo_used 1000 _ (by omega) (by omega) e2).1
  rw [e1] at a1 a2 a3
  exact ⟨a1, a2, a3⟩
theorem Gi.turn (g : Gi H L V T [] Z) : Gi H L (turned H V) [] T (osz V) ∧ gr H L (turned H V) = gr H L V ∧ Room H (turned H V) T (osz V) ∧ hSp (turned H V) = 1 - hSp V ∧ hFr (turned H V) = 16 + (1 - hSp V) * (H : Int) ∧ hGc (turned H V) = 1 ∧ hSc (turned H V) = 16 + (1 - hSp V) * (H : Int) := by
  have hl := g.len
  have hg := g.geo
  have hWl : (V.length : Int) = 16 + 2 * (H : Int) := by omega
  obtain ⟨kp, ln⟩ := turned_keeps hWl g.ok g.num
  have cells : ∀ i, 4 ≤ i → (turned H V).getD i 0 = V.getD i 0 := fun i hi => by
    rw [turned, getD_set_ne (by omega), getD_set_ne (by omega), getD_set_ne (by omega), getD_set_ne (by omega)]
  obtain ⟨c0, c1, c2, c3⟩ : hSp (turned H V) = 1 - hSp V ∧ hFr (turned H V) = 16 + (1 - hSp V) * (H : Int) ∧ hGc (turned H V) = 1 ∧ hSc (turned H V) = 16 + (1 - hSp V) * (H : Int) := by
    have h4 : 4 ≤ V.length := by omega
    rw [turned]
    generalize 1 - hSp V = p
    generalize 16 + p * (H : Int) = q
    match V, h4 with
    | a :: b :: c :: d :: W, _ => exact ⟨rfl, rfl, rfl, rfl⟩
  have hT : ∀ t ∈ T, (turned H V).getD t.toNat 0 = V.getD t.toNat 0 := fun t ht => cells _ (by have := (g.inT ht).2.1; omega)
  have cl : ∀ (b : Int) (n : Nat), 4 ≤ b → celL (turned H V) b n = celL V b n := fun b n hb => celL_same (fun i _ => cells _ (by omega))
  have sT : ∀ t ∈ T, slL (turned H V) t = slL V t ∧ wdL (turned H V) t = wdL V t := fun t ht => by
    have hq := shOk_yes (pr_range (V.getD t.toNat 0))
    have := (g.inT ht).2.1
    rw [slL, slL, wdL, wdL, hT t ht]
    exact ⟨cl _ _ (by omega), cl _ _ (by omega)⟩
  have vv : ∀ x, Val T [] x → Val [] T x := fun x hx => by
    rcases hx with h | h | h
    · exact .inl h
    · exact .inr (.inr h)
    · exact absurd h List.not_mem_nil
  have e1s : 1 - (1 - hSp V) = hSp V := by omega
  have g2 : Gi H L (turned H V) [] T (osz V) := by
    refine ⟨ln.trans hl, kp.ok, kp.num, objs_none H L _ kp.ok (by rw [c0, c1]), fun o ho => ?_, g.used.2, fun o ho => .inl ?_, fun _ => by rw [c2]; decide, ?_, fun t ht => absurd ht List.not_mem_nil, fun o ho _ => ?_⟩
    · obtain ⟨u1, u2, _⟩ := g.used.1 o ho
      have := osz_pos V o
      rw [c0, e1s]
      exact ⟨u1, by omega, by omega⟩
    · obtain ⟨_, _, u3⟩ := g.used.1 o ho
      rw [osz, osz, hT o ho]
      exact ⟨u3, rfl⟩
    · rw [cl 8 8 (by decide)]
      exact fun x hx => vv x (g.root x hx)
    · rw [(sT o ho).1]
      exact fun x hx => vv x (g.slot o ho x hx)
  refine ⟨g2, ?_, ?_, c0, c1, c2, c3⟩
  · have idk : ∀ p : Int, (if p = 0 then 0 else id p) = p := fun p => by
      split
      · next h => exact h.symm
      · rfl
    have live : ∀ p, Live V T [] p → p ∈ T := fun p hp => by
      rcases hp with hp | ⟨hp, _⟩
      · exact hp
      · exact absurd hp List.not_mem_nil
    have live2 : ∀ p, p ∈ T → Live (turned H V) [] T p := fun p hp => .inr ⟨hp, by rw [hT p hp]; exact (g.used.1 p hp).2.2⟩
    have ref : ∀ x, Val T [] x → Ref H L V (turned H V) (Live V T []) id x x := fun x hx => by
      rcases hx with rfl | hx | hx
      · exact ⟨0, g.key0, .inl rfl, by rw [idk]; exact g2.key0⟩
      · refine ⟨x, g.keyT hx, .inr (.inl hx), ?_⟩
        rw [idk]
        exact g2.keyO hx (by rw [hT x hx]; exact (g.used.1 x hx).2.2) (by rw [osz, osz, hT x hx])
      · exact absurd hx List.not_mem_nil
    refine gr_same (P := Live V T []) (f := id) ⟨fun p q _ _ e => e, fun p hp => ⟨g.ne0 hp, g.ne0 hp⟩, fun p hp => ⟨g.nb hp, g2.nb (live2 p (live p hp))⟩, fun p hp => ?_, fun p hp => (sT p (live p hp)).2⟩ ?_
    · rw [show id p = p from rfl, (sT p (live p hp)).1]
      exact RefL.diag (fun y hy => ref y (g.slots hp y hy))
    · rw [cl 8 8 (by decide)]
      exact RefL.diag (fun y hy => ref y (g.root y hy))
  · rw [Room, c0, c1, used_all (V := V) (fun t ht => ⟨by rw [hT t ht]; exact (g.used.1 t ht).2.2, rfl⟩), (gi_lists g).2.2]
    omega
theorem Gi.begin (g : Gi H L V T [] Z) : (slotsGo H L (turned H V) 7 8).1 = 0 ∧ ∃ T2, Pro H L (slotsGo H L (turned H V) 7 8).2 T2 T (osz V) [] ∧ gr H L (slotsGo H L (turned H V) 7 8).2 = gr H L V ∧ hSp (slotsGo H L (turned H V) 7 8).2 = 1 - hSp V := by
  obtain ⟨g2, r2, room, c0, c1, c2, c3⟩ := g.turn
  have hg := g.geo
  obtain ⟨_, er, ex⟩ := g2.slots_go (a := 7) (n := 8) (fun j hj => .inl (by omega)) 8 (Nat.le_refl _)
  have e0 := er room
  obtain ⟨T2, x⟩ := ex e0
  refine ⟨e0, T2, ⟨⟨x.gi, x.gc.trans c2, fun y hy => ?_, fun t ht h => ?_, ?_⟩, x.room room, fun t ht => ?_⟩, x.gr.trans r2, x.sp.trans c0⟩
  · obtain ⟨i, hi, rfl⟩ := mem_celL.1 hy
    exact x.done i hi
  · have u := (x.gi.used.1 t ht).1
    rw [x.sc, c3] at h
    rw [x.sp, c0] at u
    omega
  · have l := (gi_lists x.gi).1
    rw [x.sp, c0] at l
    rw [x.sc, c3]
    exact l
  · rcases x.new t ht with h | ⟨_, j, hj, e⟩
    · exact absurd h List.not_mem_nil
    · exact .inr (.inl (mem_celL.2 ⟨j, hj, e.symm⟩))
theorem Pr0.step (p : Pr0 H L V T O Z) (n1 : hSc V ≠ hFr V) :
    hdOk (V.getD (hSc V).toNat 0) = true ∧ ¬ hFr V < hSc V + 1 + prS (V.getD (hSc V).toNat 0) + prW (V.getD (hSc V).toNat 0) ∧
    ((slotsGo H L V (hSc V).toNat (prS (V.getD (hSc V).toNat 0)).toNat).1 = 0 ∨ (slotsGo H L V (hSc V).toNat (prS (V.getD (hSc V).toNat 0)).toNat).1 = 6) ∧ (Room H V O Z → (slotsGo H L V (hSc V).toNat (prS (V.getD (hSc V).toNat 0)).toNat).1 = 0) ∧ ((slotsGo H L V (hSc V).toNat (prS (V.getD (hSc V).toNat 0)).toNat).1 = 0 → ∃ T2, (∃ X, T2 = T ++ X ∧ ∀ x ∈ X, hFr V ≤ x) ∧ Pr0 H L ((slotsGo H L V (hSc V).toNat (prS (V.getD (hSc V).toNat 0)).toNat).2.set 3 (hSc V + 1 + prS (V.getD (hSc V).toNat 0) + prW (V.getD (hSc V).toNat 0))) T2 O Z ∧ (Room H V O Z → Room H ((slotsGo H L V (hSc V).toNat (prS (V.getD (hSc V).toNat 0)).toNat).2.set 3 (hSc V + 1 + prS (V.getD (hSc V).toNat 0) + prW (V.getD (hSc V).toNat 0))) O Z) ∧ (∀ R, Reach V T R → Reach ((slotsGo H L V (hSc V).toNat (prS (V.getD (hSc V).toNat 0)).toNat).2.set 3 (hSc V + 1 + prS (V.getD (hSc V).toNat 0) + prW (V.getD (hSc V).toNat 0))) T2 R) ∧
      gr H L ((slotsGo H L V (hSc V).toNat (prS (V.getD (hSc V).toNat 0)).toNat).2.set 3 (hSc V + 1 + prS (V.getD (hSc V).toNat 0) + prW (V.getD (hSc V).toNat 0))) = gr H L V ∧ hSp ((slotsGo H L V (hSc V).toNat (prS (V.getD (hSc V).toNat 0)).toNat).2.set 3 (hSc V + 1 + prS (V.getD (hSc V).toNat 0) + prW (V.getD (hSc V).toNat 0))) = hSp V ∧ hSc ((slotsGo H L V (hSc V).toNat (prS (V.getD (hSc V).toNat 0)).toNat).2.set 3 (hSc V + 1 + prS (V.getD (hSc V).toNat 0) + prW (V.getD (hSc V).toNat 0))) = hSc V + osz V (hSc V)) := by
  have g := p.gi
  have ha : hSc V ∈ T := p.scan.resolve_left n1
  have hg := g.geo
  obtain ⟨u1, u2, u3⟩ := g.used.1 _ ha
  have ot : osz V (hSc V) = 1 + prS (V.getD (hSc V).toNat 0) + prW (V.getD (hSc V).toNat 0) := rfl
  have hq := shOk_yes (pr_range (V.getD (hSc V).toNat 0))
  have e5 : hSc V + 1 + prS (V.getD (hSc V).toNat 0) + prW (V.getD (hSc V).toNat 0) = hSc V + osz V (hSc V) := by omega
  rw [e5]
  generalize ea : hSc V = a at *
  have a16 := (g.inT ha).2.1
  obtain ⟨e6, er, ex⟩ := g.slots_go (a := a.toNat) (n := (prS (V.getD a.toNat 0)).toNat) (fun j hj => .inr ⟨a, ha, by omega, by omega⟩) _ (Nat.le_refl _)
  refine ⟨u3, by omega, e6, er, fun e0 => ?_⟩
  obtain ⟨T2, x⟩ := ex e0
  refine ⟨T2, ?_, ?_⟩
  · obtain ⟨X, e⟩ := x.sub
    refine ⟨X, e, fun y hy => ?_⟩
    have nT : T2.Nodup := (x.gi.used.2).imp (fun {y1 y2} h => by have := osz_pos (slotsGo H L V a.toNat (prS (V.getD a.toNat 0)).toNat).2 y1; omega)
    rcases x.new y (by rw [e]; exact List.mem_append.2 (.inr hy)) with h | h
    · rw [e] at nT
      exact absurd rfl ((List.nodup_append.1 nT).2.2 y h y hy)
    · exact h.1
  clear e6 er ex e0
  have xg := x.gi.geo
  have hl2 := x.gi.len
  have sub : ∀ t ∈ T, t ∈ T2 := fun t ht => by
    obtain ⟨X, e⟩ := x.sub
    rw [e]
    exact List.mem_append.2 (.inl ht)
  generalize (slotsGo H L V a.toNat (prS (V.getD a.toNat 0)).toNat).2 = V2 at *
  have hd : ∀ t ∈ T, V2.getD t.toNat 0 = V.getD t.toNat 0 := fun t ht => by
    have it := g.inT ht
    have z := osz_pos V t
    refine x.cells _ (fun j hj e => (g.refT (c := a.toNat + 1 + j) (.inr ⟨a, ha, by omega, by omega⟩) ht).1 e.symm) (.inr ⟨t, ht, by omega, by omega⟩)
  have oz : ∀ t ∈ T, osz V2 t = osz V t := fun t ht => by rw [osz, osz, hd t ht]
  have kp : Keeps H L V2 V2 := ⟨rfl, x.gi.ok, x.gi.num, rfl, rfl, Int.le_refl _⟩
  have fr2 := x.fr
  obtain ⟨k2, s2⟩ := kp.scan (x := a + osz V a) (by omega) (x.gc.trans p.on) (by rw [x.sc, ea]; omega) (by omega)
  have ctl : ∀ i, i ≠ 3 → (V2.set 3 (a + osz V a)).getD i 0 = V2.getD i 0 := fun i hi => getD_set_ne (fun e => hi e.symm)
  have q0 : hSp (V2.set 3 (a + osz V a)) = hSp V2 := ctl 0 (by decide)
  have q1 : hFr (V2.set 3 (a + osz V a)) = hFr V2 := ctl 1 (by decide)
  have q2 : hGc (V2.set 3 (a + osz V a)) = hGc V2 := ctl 2 (by decide)
  obtain ⟨g3, r3⟩ := x.gi.ctl (V2 := V2.set 3 (a + osz V a)) (by rw [List.length_set]) k2.ok k2.num q0 q1 (fun h => by rw [q2]; exact x.gi.gc h) (fun i hi => ctl i (by omega))
  have cl : ∀ (b : Int) (n : Nat), 4 ≤ b → celL (V2.set 3 (a + osz V a)) b n = celL V2 b n := fun b n hb => celL_same (fun i _ => ctl _ (by omega))
  have sl3 : ∀ t, 16 ≤ t → slL (V2.set 3 (a + osz V a)) t = slL V2 t := fun t ht => by
    rw [slL, slL, ctl _ (by omega)]
    exact cl _ _ (by omega)
  have rootS : celL V2 8 8 = celL V 8 8 := celL_same (fun i hi => by
    have : ((8 : Int).toNat + i) = 8 + i := rfl
    rw [this]
    exact x.cells _ (fun j hj => by omega) (.inl (by omega)))
  have slS : ∀ t ∈ T, t ≠ a → slL V2 t = slL V t := fun t ht hne => by
    have it := (g.inT ht).2.1
    have hq2 := shOk_yes (pr_range (V.getD t.toNat 0))
    have ot2 : osz V t = 1 + prS (V.getD t.toNat 0) + prW (V.getD t.toNat 0) := rfl
    rw [slL, slL, hd t ht]
    refine celL_same (fun i hi => x.cells _ (fun j hj => ?_) (.inr ⟨t, ht, by omega, by omega⟩))
    have := g.apartT ht ha hne
    omega
  have up : ∀ y, (y = 0 ∨ y ∈ T) → (y = 0 ∨ y ∈ T2) := fun y h => h.imp id (sub y)
  have slA : ∀ y ∈ slL V2 a, y = 0 ∨ y ∈ T2 := fun y hy => by
    rw [slL, hd a ha] at hy
    obtain ⟨i, hi, rfl⟩ := mem_celL.1 hy
    rw [show (a + 1).toNat + i = a.toNat + 1 + i by omega]
    exact x.done i hi
  refine ⟨⟨g3, q2.trans (x.gc.trans p.on), ?_, ?_, ?_⟩, fun rm => ?_, fun R hR => ?_, r3.trans x.gr, q0.trans x.sp, s2⟩
  rotate_left 3
  · have room := x.room rm
    rw [Room] at room ⊢
    rw [q0, q1, restZ_same (W := V2) (fun o ho => ctl _ (by have := (x.gi.inO ho).2.2.1; omega))]
    exact room
  · intro t ht
    rw [cl 8 8 (by decide), rootS]
    rcases x.new t ht with h | ⟨h, j, hj, e⟩
    · rcases hR t h with h1 | h1 | ⟨s, hs, h1, h2⟩
      · exact .inl h1
      · exact .inr (.inl h1)
      · refine .inr (.inr ⟨s, sub s hs, h1, ?_⟩)
        rw [sl3 s (g.inT hs).2.1]
        by_cases e : s = a
        · subst e
          obtain ⟨i, hi, rfl⟩ := mem_celL.1 h2
          rw [slL, hd s ha]
          refine mem_celL.2 ⟨i, hi, ?_⟩
          have := x.stay i hi (by rw [show s.toNat + 1 + i = (s + 1).toNat + i by omega]; exact h)
          rw [show (s + 1).toNat + i = s.toNat + 1 + i by omega]
          exact this.symm
        · rw [slS s hs e]
          exact h2
    · refine .inr (.inr ⟨a, sub a ha, by omega, ?_⟩)
      rw [sl3 a a16, slL, hd a ha]
      exact mem_celL.2 ⟨j, hj, by rw [show (a + 1).toNat + j = a.toNat + 1 + j by omega]; exact e.symm⟩
  · rw [cl 8 8 (by decide), rootS]
    exact fun y hy => up y (p.roots y hy)
  · intro t ht htl
    rw [s2] at htl
    have t16 := (x.gi.inT ht).2.1
    rw [sl3 t t16]
    by_cases e : t = a
    · rw [e]
      exact slA
    · have tT : t ∈ T := by
        rcases x.new t ht with h | ⟨h, _⟩
        · exact h
        · omega
      rw [slS t tT e]
      have hlt : t < a := by
        rcases g.apartT tT ha e with h | h
        · have := osz_pos V t
          omega
        · omega
      exact fun y hy => up y (p.black t tT (by rw [ea]; exact hlt) y hy)
  · rw [s2, q1]
    have := (gi_lists x.gi).2.1 a (sub a ha)
    rw [oz a ha] at this
    exact this
end
end Go.Proofs.YtbghglkplbnnkaaGreatDoor
