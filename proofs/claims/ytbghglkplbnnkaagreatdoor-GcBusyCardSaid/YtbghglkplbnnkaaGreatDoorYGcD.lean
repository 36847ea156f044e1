import Derived.Test.YtbghglkplbnnkaaGreatDoorYHeapE
import Derived.Test.YtbghglkplbnnkaaGreatDoorYGraphA
set_option linter.unusedVariables false
set_option linter.unusedSimpArgs false
-- GcNods
namespace Go.Proofs.YtbghglkplbnnkaaGreatDoor
open Go.RowKit Sec
open Go.Proofs.YtbghglkplbnnkaaGreatDoor.Bk

section
variable {h l : Int} {W : List Int}
theorem nods_app : ∀ (a b at_ : List Int), nods h l W at_ (a ++ b) = match nods h l W at_ a with
    | none => none
    | some (ns, at1) => match nods h l W at1 b with
      | none => none
      | some (ms, at2) => some (ns ++ ms, at2)
  | [], b, at_ => by
    rw [List.nil_append, nods]
    show nods h l W at_ b = match nods h l W at_ b with | none => none | some (ms, at2) => some ([] ++ ms, at2)
    cases nods h l W at_ b with
    | none => rfl
    | some r => rfl
  | x :: a, b, at_ => by
    rw [List.cons_append, nods, nods]
    cases e1 : nod h l W at_ x with
    | none => rfl
    | some r =>
      obtain ⟨n, at1⟩ := r
      simp only [nods_app a b at1]
      cases e2 : nods h l W at1 a with
      | none => rfl
      | some r =>
        obtain ⟨ns, at2⟩ := r
        simp only []
        cases nods h l W at2 b <;> rfl
theorem nods_one (at_ : List Int) (a : Int) : nods h l W at_ [a] = match nod h l W at_ a with | none => none | some (n, at1) => some ([n], at1) := by
  rw [nods]
  cases nod h l W at_ a with
  | none => rfl
  | some r => rfl
theorem nods_snoc {a at_ ns at1 : List Int} {x n : Int} {at2 : List Int} (e : nods h l W at_ a = some (ns, at1)) (e2 : nod h l W at1 x = some (n, at2)) : nods h l W at_ (a ++ [x]) = some (ns ++ [n], at2) := by
  rw [nods_app, e]
  simp only [nods_one, e2]
theorem nods_fall {a at_ ns at1 : List Int} {x : Int} (b : List Int) (e : nods h l W at_ a = some (ns, at1)) (e2 : nod h l W at1 x = none) : nods h l W at_ (a ++ x :: b) = none := by
  rw [nods_app, e]
  show (match nods h l W at1 (x :: b) with | none => none | some (ms, at2) => some (ns ++ ms, at2)) = none
  rw [nods, e2]
structure AtOk (W A : List Int) : Prop where
  nd : A.Nodup
  rg : ∀ x ∈ A, 16 ≤ x ∧ x < (W.length : Int) ∧ x + 1 + prS (W.getD x.toNat 0) + prW (W.getD x.toNat 0) ≤ (W.length : Int)
  le : A ≠ [] → W.length ≤ 816
theorem AtOk.nil (W : List Int) : AtOk W [] := ⟨List.nodup_nil, fun x hx => (by cases hx), fun q => absurd rfl q⟩
theorem AtOk.len {A : List Int} (k : AtOk W A) : A.length ≤ 816 := by
  by_cases e : A = []
  · rw [e]
    exact Nat.zero_le _
  refine Nat.le_trans ?_ (k.le e)
  have hs : A ⊆ (List.range W.length).map (fun n : Nat => (n : Int)) := fun x hx => by
    obtain ⟨h0, h1, _⟩ := k.rg x hx
    exact List.mem_map.2 ⟨x.toNat, List.mem_range.2 (by omega), by omega⟩
  have := List.Nodup.length_le_of_subset k.nd hs
  simpa using this
theorem AtOk.nod (hWl : (W.length : Int) = 16 + 2 * h) {A A1 : List Int} {a n : Int} (k : AtOk W A) (e : nod h l W A a = some (n, A1)) : AtOk W A1 ∧ 0 ≤ n ∧ n ≤ (A1.length : Int) ∧ A.length ≤ A1.length ∧ ∀ j, j < A.length → A1.getD j 0 = A.getD j 0 := by
  unfold Go.Proofs.YtbghglkplbnnkaaGreatDoor.nod at e
  by_cases q : (lk h l W a).2 = false
  · rw [if_pos q] at e
    cases e
  · rw [if_neg q] at e
    by_cases z : (lk h l W a).1 = 0
    · rw [if_pos z] at e
      simp only [Option.some.injEq, Prod.mk.injEq] at e
      obtain ⟨rfl, rfl⟩ := e
      exact ⟨k, by omega, by omega, Nat.le_refl _, fun _ _ => rfl⟩
    · rw [if_neg z] at e
      by_cases m : (lk h l W a).1 ∈ A
      · rw [if_pos m] at e
        simp only [Option.some.injEq, Prod.mk.injEq] at e
        obtain ⟨rfl, rfl⟩ := e
        have := List.idxOf_lt_length_of_mem m
        exact ⟨k, by omega, by omega, Nat.le_refl _, fun _ _ => rfl⟩
      · rw [if_neg m] at e
        by_cases b : nodB h W (lk h l W a).1 = true
        · rw [if_pos b] at e
          simp only [Option.some.injEq, Prod.mk.injEq] at e
          obtain ⟨rfl, rfl⟩ := e
          obtain ⟨hok, t, ht, h16, hlt, _⟩ := lk_range hWl (by cases w : (lk h l W a).2 with | false => exact absurd w q | true => rfl) z
          have hge := geOk_yes (fine_yes hok).1
          refine ⟨⟨?_, fun x hx => ?_, fun _ => by omega⟩, by omega, by rw [List.length_append]; simp, by rw [List.length_append]; simp, fun j hj => ?_⟩
          rotate_left 2
          · rw [List.getD_eq_getElem?_getD, List.getElem?_append_left hj, List.getD_eq_getElem?_getD]
          · rw [List.nodup_append]
            refine ⟨k.nd, by simp, fun x hx y hy => ?_⟩
            rw [List.mem_singleton] at hy
            subst hy
            intro e
            exact m (e ▸ hx)
          · rcases List.mem_append.1 hx with hx | hx
            · exact k.rg x hx
            · rw [List.mem_singleton] at hx
              obtain ⟨f1, f2, _, f4, _⟩ := fine_yes hok
              have hm : 0 ≤ hSp W * h ∧ hSp W * h ≤ h ∧ 0 ≤ (1 - hSp W) * h ∧ (1 - hSp W) * h ≤ h := by rcases f2 with e | e <;> rw [e] <;> omega
              have hb : x + 1 + prS (W.getD x.toNat 0) + prW (W.getD x.toNat 0) ≤ (W.length : Int) := by
                rw [← hx] at b
                simp only [nodB, Bool.and_eq_true, decide_eq_true_eq] at b
                obtain ⟨_, _, b3⟩ := b
                split at b3 <;> omega
              have hxt : x = (t : Int) := hx.trans ht
              clear hx b
              subst hxt
              omega
        · rw [if_neg b] at e
          cases e
theorem frmGo_end {A : List Int} {out : List (List Int × List Int)} {n k : Nat} (hk : ¬ k < A.length) : frmGo h l W (n + 1) k A out = some (out, A) := by
  rw [frmGo, if_neg hk]
theorem frmGo_next {A A1 T : List Int} {out : List (List Int × List Int)} {n k : Nat} (hk : k < A.length) (e : nods h l W A (slL W (A.getD k 0)) = some (T, A1)) : frmGo h l W (n + 1) k A out = frmGo h l W n (k + 1) A1 (out ++ [(T, wdL W (A.getD k 0))]) := by
  rw [frmGo, if_pos hk]
  simp only [e]
theorem frmGo_fall {A : List Int} {out : List (List Int × List Int)} {n k : Nat} (hk : k < A.length) (e : nods h l W A (slL W (A.getD k 0)) = none) : frmGo h l W (n + 1) k A out = none := by
  rw [frmGo, if_pos hk]
  simp only [e]
theorem celL_len (W : List Int) (a : Int) (n : Nat) : (celL W a n).length = n := by simp [celL]
theorem celL_at (W : List Int) (a : Int) {n m : Nat} (hm : m < n) : (celL W a n).take (m + 1) = (celL W a n).take m ++ [W.getD (a.toNat + m) 0] ∧ celL W a n = (celL W a n).take m ++ W.getD (a.toNat + m) 0 :: (celL W a n).drop (m + 1) := by
  have hl : m < (celL W a n).length := by rw [celL_len]; exact hm
  have he : (celL W a n)[m] = W.getD (a.toNat + m) 0 := by simp [celL]
  refine ⟨by rw [List.take_succ_eq_append_getElem hl, he], ?_⟩
  rw [← he, ← List.drop_eq_getElem_cons hl, List.take_append_drop]
end
end Go.Proofs.YtbghglkplbnnkaaGreatDoor
-- GcFr
namespace Go.Proofs.YtbghglkplbnnkaaGreatDoor
open Go.RowKit Sec
open Go.Proofs.YtbghglkplbnnkaaGreatDoor.Bk

structure NdS (w : World) (p : Nat) (vA : Value) (A : List Int) (K : Nat → Prop) (u : World) : Prop where
  b : Below w.heap.size w u
  hp : w.heap.size ≤ p
  pa : u.cell? ⟨p, 0, none⟩ = some vA
  pf : u.frozen? ⟨p, 0, none⟩ = false
  oa : u.ownsRow w.heap.size 3 1 vA A.length (vals A)
  ne : vA.ownBlock ≠ some p
  kl : ∀ k, K k → k < u.heap.size ∧ k ≠ p ∧ vA.ownBlock ≠ some k
section
variable {w u u' : World} {p : Nat} {vA : Value} {A : List Int} {K : Nat → Prop}
theorem NdS.lt (x : NdS w p vA A K u) : p < u.heap.size := cell_in x.pa
theorem NdS.turn (x : NdS w p vA A K u) (hs : u.heap.size ≤ u'.heap.size) (b : Below w.heap.size w u') (hb : ∀ k, k < u.heap.size → ¬ K k → u'.heap[k]? = u.heap[k]?) : NdS w p vA A (fun k => K k ∨ (u.heap.size ≤ k ∧ k < u'.heap.size)) u' := by
  have ep : u'.heap[p]? = u.heap[p]? := hb p x.lt (fun q => (x.kl p q).2.1 rfl)
  refine ⟨b, x.hp, (World.cell?_of_block (a := ⟨p, 0, none⟩) ep).trans x.pa, (World.frozen?_of_block (a := ⟨p, 0, none⟩) ep).trans x.pf, hb_same x.oa (fun g hg => hb g (x.oa.lt g hg).2 (fun q => (x.kl g q).2.2 hg)), x.ne, fun k q => ?_⟩
  rcases q with q | q
  · obtain ⟨h1, h2, h3⟩ := x.kl k q
    exact ⟨Nat.lt_of_lt_of_le h1 hs, h2, h3⟩
  · refine ⟨q.2, fun e => ?_, fun e => ?_⟩
    · have := x.lt
      omega
    · have := (x.oa.lt k e).2
      omega
theorem NdS.below (x : NdS w p vA A K u) (y : Below u.heap.size u u') : NdS w p vA A (fun k => K k ∨ (u.heap.size ≤ k ∧ k < u'.heap.size)) u' := x.turn y.size (geo_next x.b y) (fun k hk _ => y.block k hk)
theorem NdS.mono {K' : Nat → Prop} (x : NdS w p vA A K u) (hk : ∀ k, K' k → K k) : NdS w p vA A K' u := ⟨x.b, x.hp, x.pa, x.pf, x.oa, x.ne, fun k q => x.kl k (hk k q)⟩
variable {B b g c : Nat} {h l : Int} {W : List Int}
theorem NdS.node (x : NdS w p vA A K u) (k : HIs B w b h l W g c) (hWl : (W.length : Int) = 16 + 2 * h) (hr : Ints64 W) (hlen : A.length ≤ 900) (a : Int) :
    Calls Tryz.prog 40 #[.pointer (some ⟨b, 0, none⟩), .pointer (some ⟨p, 0, none⟩), .int .i64 a, .int .i64 (hSp W), .int .i64 (hFr W)] u fun e u' =>
      match nod h l W A a with
      | none => e = .returned (.tuple #[.int .i64 0, .bool false]) ∧ Below u.heap.size u u'
      | some (n, A1) => ∃ v1, e = .returned (.tuple #[.int .i64 n, .bool true]) ∧ NdS w p v1 A1 K u' ∧ (∀ k, K k → u'.heap[k]? = u.heap[k]?) ∧ u.heap.size ≤ u'.heap.size := by
  refine (rnode_is (k.below x.b) hWl hr x.oa x.pa x.pf hlen x.ne x.b.size a).mono ?_
  rintro e u' ⟨m, o, rfl, y⟩
  unfold NdPost at y
  cases q : nod h l W A a with
  | none =>
    rw [q] at y
    obtain ⟨⟨rfl, rfl⟩, y⟩ := y
    exact ⟨rfl, y⟩
  | some r =>
    obtain ⟨n, A1⟩ := r
    rw [q] at y
    obtain ⟨v1, ⟨rfl, rfl⟩, y1, y2, y3, y4, y5⟩ := y
    have bS := y5.b w.heap.size x.hp (Nat.le_refl _)
    refine ⟨v1, rfl, ⟨x.b.trans bS, x.hp, y2, y3, y1, y4, fun k hk => ?_⟩, fun k hk => ?_, bS.size⟩
    · obtain ⟨h1, h2, h3⟩ := x.kl k hk
      refine ⟨Nat.lt_of_lt_of_le h1 bS.size, h2, fun e => ?_⟩
      rcases y5.blk k e with e | e
      · exact h3 e
      · omega
    · obtain ⟨h1, h2, h3⟩ := x.kl k hk
      exact y5.same k h1 h2 h3
end
def IIn (F : Nat → Prop) (x : IArg) : Prop := ∀ a, x.a = some a → F a.block
def GArg.In (F : Nat → Prop) (x : GArg) : Prop := IIn F x.r ∧ (∀ a, x.a = some a → F a.block) ∧ ∀ z ∈ x.n, IIn F z.s ∧ IIn F z.w
structure RbX (rb : Nat) (u : World) : Prop where
  c0 : u.cell? ⟨rb, 0, none⟩ = some (.slice none 0 0)
  c1 : u.cell? ⟨rb, 1, none⟩ = some (.slice none 0 0)
  f0 : u.frozen? ⟨rb, 0, none⟩ = false
  f1 : u.frozen? ⟨rb, 1, none⟩ = false
theorem RbX.keep {rb : Nat} {u u' : World} (x : RbX rb u) (e : u'.heap[rb]? = u.heap[rb]?) : RbX rb u' :=
  ⟨(World.cell?_of_block (a := ⟨rb, 0, none⟩) e).trans x.c0, (World.cell?_of_block (a := ⟨rb, 1, none⟩) e).trans x.c1, (World.frozen?_of_block (a := ⟨rb, 0, none⟩) e).trans x.f0, (World.frozen?_of_block (a := ⟨rb, 1, none⟩) e).trans x.f1⟩
structure FrR (w : World) (rb q : Nat) (rr : IArg) (vN : Value) (NL : List NArg) (F : Nat → Prop) (u : World) : Prop where
  q0 : u.cell? ⟨q, 0, none⟩ = some rr.val
  q1 : u.cell? ⟨q, 1, none⟩ = some vN
  qf : u.frozen? ⟨q, 1, none⟩ = false
  qS : w.heap.size ≤ q
  rl : rr.At u
  rk : IIn F rr
  on : u.ownsRow w.heap.size 61 2 vN NL.length (flat NArg.cells NL)
  nl : ∀ z ∈ NL, z.At u ∧ IIn F z.s ∧ IIn F z.w
  nF : ∀ k, vN.ownBlock = some k → ¬ F k ∧ k ≠ q
  qF : ¬ F q
  lt : ∀ k, F k → k < u.heap.size
  rbx : RbX rb u
  rF : ¬ F rb ∧ rb ≠ q ∧ vN.ownBlock ≠ some rb
  lo : ∀ k, F k → w.heap.size ≤ k
theorem IArg.At.blocks {u u' : World} {x : IArg} {F : Nat → Prop} (h : x.At u) (i : IIn F x) (hs : u.heap.size ≤ u'.heap.size) (hb : ∀ k, F k → u'.heap[k]? = u.heap[k]?) : x.At u' :=
  ⟨h.1.of_blocks hs (fun a e => hb _ (i a e)), h.2⟩
section
variable {w u u' : World} {rb q : Nat} {rr : IArg} {vN : Value} {NL : List NArg} {F : Nat → Prop}
theorem FrR.keep (x : FrR w rb q rr vN NL F u) (hs : u.heap.size ≤ u'.heap.size) (hb : ∀ k, (k = q ∨ vN.ownBlock = some k ∨ F k ∨ k = rb) → u'.heap[k]? = u.heap[k]?) : FrR w rb q rr vN NL F u' := by
  have eq := hb q (.inl rfl)
  have hF : ∀ k, F k → u'.heap[k]? = u.heap[k]? := fun k y => hb k (.inr (.inr (.inl y)))
  exact ⟨(World.cell?_of_block (a := ⟨q, 0, none⟩) eq).trans x.q0, (World.cell?_of_block (a := ⟨q, 1, none⟩) eq).trans x.q1, (World.frozen?_of_block (a := ⟨q, 1, none⟩) eq).trans x.qf, x.qS, x.rl.blocks x.rk hs hF, x.rk, hb_same x.on (fun g hg => hb g (.inr (.inl hg))),
    fun z hz => have y := x.nl z hz; ⟨⟨y.1.1.blocks y.2.1 hs hF, y.1.2.blocks y.2.2 hs hF⟩, y.2⟩, x.nF, x.qF, fun k y => Nat.lt_of_lt_of_le (x.lt k y) hs, x.rbx.keep (hb rb (.inr (.inr (.inr rfl)))), x.rF, x.lo⟩
theorem FrR.below (x : FrR w rb q rr vN NL F u) (y : Below u.heap.size u u') : FrR w rb q rr vN NL F u' := x.keep y.size (fun k hk => by
  rcases hk with rfl | hk | hk | rfl
  · exact y.block _ (cell_in x.q0)
  · exact y.block _ (x.on.lt k hk).2
  · exact y.block _ (x.lt k hk)
  · exact y.block _ (cell_in x.rbx.c0))
theorem FrR.push (x : FrR w rb q rr vN NL F u) {z : NArg} (hz : z.At u) {u1 u2 : World} (y : Below u.heap.size u u1) {v2 : Value}
    (zq : ∀ a, (z.s.a = some a ∨ z.w.a = some a) → a.block < u.heap.size ∧ a.block ≠ q ∧ vN.ownBlock ≠ some a.block ∧ a.block ≠ rb) (zl : ∀ a, (z.s.a = some a ∨ z.w.a = some a) → w.heap.size ≤ a.block)
    (ho : u2.ownsRow w.heap.size 61 2 v2 (NL.length + 1) (flat NArg.cells NL ++ z.cells)) (hg : u1.grownBy u2 vN.ownBlock) (hat : ∀ k, v2.ownBlock = some k → vN.ownBlock = some k ∨ u1.heap.size ≤ k) :
    FrR w rb q rr v2 (NL ++ [z]) (fun k => F k ∨ ∃ a, (z.s.a = some a ∨ z.w.a = some a) ∧ a.block = k) (u2.setCell ⟨q, 1, none⟩ v2) := by
  have hrl : rb < u.heap.size := cell_in x.rbx.c0
  have hql : q < u.heap.size := cell_in x.q0
  have ys := y.size
  have gs := hg.size
  have same : ∀ k, k < u.heap.size → vN.ownBlock ≠ some k → u2.heap[k]? = u.heap[k]? := fun k h1 h2 => (hg.block k (by omega) (fun e => h2 e.symm)).trans (y.block k h1)
  have eq : u2.heap[q]? = u.heap[q]? := same q hql (fun e => (x.nF q e).2 rfl)
  have c0 : u2.cell? ⟨q, 0, none⟩ = some rr.val := (World.cell?_of_block (a := ⟨q, 0, none⟩) eq).trans x.q0
  have c1 : u2.cell? ⟨q, 1, none⟩ = some vN := (World.cell?_of_block (a := ⟨q, 1, none⟩) eq).trans x.q1
  have so : ∀ k, k ≠ q → (u2.setCell ⟨q, 1, none⟩ v2).heap[k]? = u2.heap[k]? := fun k h1 => heap_setCell_other _ _ _ _ h1
  have ss : (u2.setCell ⟨q, 1, none⟩ v2).heap.size = u2.heap.size := by simp
  have all : ∀ k, k < u.heap.size → vN.ownBlock ≠ some k → k ≠ q → (u2.setCell ⟨q, 1, none⟩ v2).heap[k]? = u.heap[k]? := fun k h1 h2 h3 => (so k h3).trans (same k h1 h2)
  have hF : ∀ k, F k → (u2.setCell ⟨q, 1, none⟩ v2).heap[k]? = u.heap[k]? := fun k hk => all k (x.lt k hk) (fun e => (x.nF k e).1 hk) (fun e => x.qF (e ▸ hk))
  have hs : u.heap.size ≤ (u2.setCell ⟨q, 1, none⟩ v2).heap.size := by omega
  have v2q : v2.ownBlock ≠ some q := fun e => by
    rcases hat q e with e | e
    · exact (x.nF q e).2 rfl
    · omega
  have zAt : ∀ (i : IArg), i.At u → (∀ a, i.a = some a → a.block < u.heap.size ∧ a.block ≠ q ∧ vN.ownBlock ≠ some a.block ∧ a.block ≠ rb) → i.At (u2.setCell ⟨q, 1, none⟩ v2) := fun i hi hq =>
    ⟨hi.1.of_blocks hs (fun a e => all a.block (hq a e).1 (hq a e).2.2.1 (hq a e).2.1), hi.2⟩
  refine ⟨by simp [go_sem, c0], World.cell?_setCell_same _ _ _ c1, by rw [World.frozen?_setCell]; exact (World.frozen?_of_block (a := ⟨q, 1, none⟩) eq).trans x.qf, x.qS, x.rl.blocks x.rk hs hF, fun a e => .inl (x.rk a e), ?_, fun y' hy => ?_, fun k e => ⟨?_, fun e2 => v2q (e2 ▸ e)⟩, ?_, fun k hk => ?_, x.rbx.keep (all rb hrl x.rF.2.2 x.rF.2.1), ⟨?_, x.rF.2.1, fun e => ?_⟩, fun k hk => ?_⟩
  · rw [List.length_append]
    have e : flat NArg.cells (NL ++ [z]) = flat NArg.cells NL ++ z.cells := by simp [flat]
    rw [e]
    exact hb_same ho (fun g hg' => so g (fun e => v2q (e ▸ hg')))
  · rcases List.mem_append.1 hy with hy | hy
    · obtain ⟨⟨n1, n2⟩, n3, n4⟩ := x.nl y' hy
      exact ⟨⟨n1.blocks n3 hs hF, n2.blocks n4 hs hF⟩, fun a e => .inl (n3 a e), fun a e => .inl (n4 a e)⟩
    · rw [List.mem_singleton] at hy
      subst hy
      exact ⟨⟨zAt _ hz.1 (fun a e => zq a (.inl e)), zAt _ hz.2 (fun a e => zq a (.inr e))⟩, fun a e => .inr ⟨a, .inl e, rfl⟩, fun a e => .inr ⟨a, .inr e, rfl⟩⟩
  · rintro (hk | ⟨a, ha, rfl⟩)
    · rcases hat k e with e | e
      · exact (x.nF k e).1 hk
      · have := x.lt k hk
        omega
    · obtain ⟨z1, z2, z3, _⟩ := zq a ha
      rcases hat _ e with e | e
      · exact z3 e
      · omega
  · rintro (hk | ⟨a, ha, e⟩)
    · exact x.qF hk
    · exact (zq a ha).2.1 e
  · rcases hk with hk | ⟨a, ha, rfl⟩
    · exact Nat.lt_of_lt_of_le (x.lt k hk) hs
    · exact Nat.lt_of_lt_of_le (zq a ha).1 hs
  · rintro (hk | ⟨a, ha, e⟩)
    · exact x.rF.1 hk
    · exact (zq a ha).2.2.2 e
  · rcases hat rb e with e | e
    · exact x.rF.2.2 e
    · omega
  · rcases hk with hk | ⟨a, ha, rfl⟩
    · exact x.lo k hk
    · exact zl a ha
end
structure FrX (w : World) (xb : Nat) (vS : Value) (T : List Int) (u : World) : Prop where
  x0 : u.cell? ⟨xb, 0, none⟩ = some vS
  x1 : u.cell? ⟨xb, 1, none⟩ = some (.slice none 0 0)
  f0 : u.frozen? ⟨xb, 0, none⟩ = false
  f1 : u.frozen? ⟨xb, 1, none⟩ = false
  xS : w.heap.size ≤ xb
  os : u.ownsRow w.heap.size 3 1 vS T.length (vals T)
  ne : vS.ownBlock ≠ some xb
section
variable {w u u' : World} {xb : Nat} {vS : Value} {T : List Int}
theorem FrX.lt (x : FrX w xb vS T u) : xb < u.heap.size := cell_in x.x0
theorem FrX.keep (x : FrX w xb vS T u) (hb : ∀ k, (k = xb ∨ vS.ownBlock = some k) → u'.heap[k]? = u.heap[k]?) : FrX w xb vS T u' := by
  have eq := hb xb (.inl rfl)
  exact ⟨(World.cell?_of_block (a := ⟨xb, 0, none⟩) eq).trans x.x0, (World.cell?_of_block (a := ⟨xb, 1, none⟩) eq).trans x.x1, (World.frozen?_of_block (a := ⟨xb, 0, none⟩) eq).trans x.f0, (World.frozen?_of_block (a := ⟨xb, 1, none⟩) eq).trans x.f1, x.xS, hb_same x.os (fun g hg => hb g (.inr hg)), x.ne⟩
theorem FrX.below (x : FrX w xb vS T u) (y : Below u.heap.size u u') : FrX w xb vS T u' := x.keep (fun k hk => by
  rcases hk with rfl | hk
  · exact y.block _ x.lt
  · exact y.block _ (x.os.lt k hk).2)
theorem FrX.start (hw : w.heap.size ≤ u.heap.size) (t : TypeId) : FrX w u.heap.size (.slice none 0 0) [] (u.alloc (.cells #[.slice none 0 0, .slice none 0 0] t)) := by
  refine ⟨by simp, by simp, by simp, by simp, hw, World.ownsRow_nil _ _ _ _, fun e => by cases e⟩
theorem FrX.push (x : FrX w xb vS T u) {n : Int} {u1 u2 : World} (y : Below u.heap.size u u1) {v2 : Value}
    (ho : u2.ownsRow w.heap.size 3 1 v2 (T.length + 1) (vals T ++ [.int .i64 n])) (hg : u1.grownBy u2 vS.ownBlock) (hat : ∀ k, v2.ownBlock = some k → vS.ownBlock = some k ∨ u1.heap.size ≤ k) :
    FrX w xb v2 (T ++ [n]) (u2.setCell ⟨xb, 0, none⟩ v2) := by
  have hxl := x.lt
  have ys := y.size
  have eq : u2.heap[xb]? = u.heap[xb]? := (hg.block xb (by omega) (fun e => x.ne e.symm)).trans (y.block xb hxl)
  have c0 : u2.cell? ⟨xb, 0, none⟩ = some vS := (World.cell?_of_block (a := ⟨xb, 0, none⟩) eq).trans x.x0
  have c1 : u2.cell? ⟨xb, 1, none⟩ = some (.slice none 0 0) := (World.cell?_of_block (a := ⟨xb, 1, none⟩) eq).trans x.x1
  have v2q : v2.ownBlock ≠ some xb := fun e => by
    rcases hat xb e with e | e
    · exact x.ne e
    · omega
  refine ⟨World.cell?_setCell_same _ _ _ c0, by simp [go_sem, c1], by rw [World.frozen?_setCell]; exact (World.frozen?_of_block (a := ⟨xb, 0, none⟩) eq).trans x.f0, by rw [World.frozen?_setCell]; exact (World.frozen?_of_block (a := ⟨xb, 1, none⟩) eq).trans x.f1, x.xS, ?_, v2q⟩
  rw [List.length_append]
  have e : vals (T ++ [n]) = vals T ++ [.int .i64 n] := by simp [vals]
  rw [e]
  exact hb_same ho (fun g hg' => heap_setCell_other _ _ _ _ (fun e => v2q (by rw [hg', e])))
end
theorem num_flat : ∀ l : List Int, vals l = flat (fun z : Int => [Value.int .i64 z]) l
  | [] => rfl
  | z :: l => by
    show Value.int .i64 z :: vals l = [Value.int .i64 z] ++ flat _ l
    rw [num_flat l]
    rfl
theorem num_lies {w : World} {a : Option Addr} {l : List Int} (h : LiesAt w a (vals l)) {k : Nat} (hk : k < l.length) : ∃ g o : Nat, a = some ⟨g, o, none⟩ ∧ g < w.heap.size ∧ w.cell? ⟨g, o + k, none⟩ = some (.int .i64 (l.getD k 0)) := by
  rw [num_flat] at h
  obtain ⟨g, o, h1, h2, h3⟩ := h.elem (k := 1) (fun _ => rfl) (by decide) (List.getElem?_eq_getElem hk)
  have := h3 0 _ rfl
  rw [Nat.mul_one, Nat.add_zero] at this
  exact ⟨g, o, h1, h2, by rw [this, List.getD_eq_getElem?_getD, List.getElem?_eq_getElem hk]; rfl⟩
theorem own_iarg {u : World} {base : Nat} {v : Value} {T : List Int} (o : u.ownsRow base 3 1 v T.length (vals T)) (hw : ∀ z ∈ T, (Lit.int .i64 z).wf = true) (hl : T.length ≤ maxLen) : ∃ i : IArg, v = i.val ∧ i.l = T ∧ i.At u ∧ ∀ a, i.a = some a → v.ownBlock = some a.block := by
  obtain ⟨a, c, rfl, h1, h2⟩ := own_form o
  refine ⟨⟨a, T, c⟩, rfl, rfl, ⟨h1, hw, hl⟩, fun b e => ?_⟩
  have e : a = some b := e
  subst e
  simp [Value.ownBlock]
def Apt (F : Nat → Prop) (rb q : Nat) (vN : Value) (k : Nat) : Prop := ¬ F k ∧ k ≠ q ∧ vN.ownBlock ≠ some k ∧ k ≠ rb
def Fr2 (w : World) (rb p q : Nat) (rr : IArg) (vN : Value) (NL : List NArg) (vA : Value) (A : List Int) (u : World) : Prop :=
  ∃ K F : Nat → Prop, NdS w p vA A K u ∧ FrR w rb q rr vN NL F u ∧ ∀ k, (k = q ∨ vN.ownBlock = some k ∨ F k ∨ k = rb) → K k
def Fr3 (w : World) (rb p q xb : Nat) (rr : IArg) (vN : Value) (NL : List NArg) (vS : Value) (T : List Int) (vA : Value) (A : List Int) (u : World) : Prop :=
  ∃ K F : Nat → Prop, NdS w p vA A K u ∧ FrR w rb q rr vN NL F u ∧ FrX w xb vS T u ∧ (∀ k, (k = q ∨ vN.ownBlock = some k ∨ F k ∨ k = xb ∨ vS.ownBlock = some k ∨ k = rb) → K k) ∧ ∀ k, (k = xb ∨ vS.ownBlock = some k) → Apt F rb q vN k
def Fr4 (w : World) (rb p q xb : Nat) (rr : IArg) (vN : Value) (NL : List NArg) (z : NArg) (vA : Value) (A : List Int) (u : World) : Prop :=
  ∃ K F : Nat → Prop, NdS w p vA A K u ∧ FrR w rb q rr vN NL F u ∧ u.cell? ⟨xb, 0, none⟩ = some z.s.val ∧ u.cell? ⟨xb, 1, none⟩ = some z.w.val ∧ z.At u ∧ (∀ k, (k = q ∨ vN.ownBlock = some k ∨ F k ∨ k = rb) → K k) ∧ (∀ a, (z.s.a = some a ∨ z.w.a = some a) → a.block < u.heap.size ∧ K a.block ∧ Apt F rb q vN a.block) ∧ ∀ a, (z.s.a = some a ∨ z.w.a = some a) → w.heap.size ≤ a.block
section
variable {w u u' : World} {rb p q xb : Nat} {rr : IArg} {vN : Value} {NL : List NArg} {vA vS : Value} {A T : List Int}
theorem Fr2.b (x : Fr2 w rb p q rr vN NL vA A u) : Below w.heap.size w u := x.elim fun _ y => y.elim fun _ z => z.1.b
theorem Fr2.below (x : Fr2 w rb p q rr vN NL vA A u) (y : Below u.heap.size u u') : Fr2 w rb p q rr vN NL vA A u' := by
  obtain ⟨K, F, x1, x2, x3⟩ := x
  exact ⟨_, F, x1.below y, x2.below y, fun k hk => .inl (x3 k hk)⟩
theorem Fr3.below (x : Fr3 w rb p q xb rr vN NL vS T vA A u) (y : Below u.heap.size u u') : Fr3 w rb p q xb rr vN NL vS T vA A u' := by
  obtain ⟨K, F, x1, x2, x3, x4, x5⟩ := x
  exact ⟨_, F, x1.below y, x2.below y, x3.below y, fun k hk => .inl (x4 k hk), x5⟩
theorem Fr3.b (x : Fr3 w rb p q xb rr vN NL vS T vA A u) : Below w.heap.size w u := x.elim fun _ y => y.elim fun _ z => z.1.b
theorem Fr2.box (x : Fr2 w rb p q rr vN NL vA A u) (t : TypeId) : Fr3 w rb p q u.heap.size rr vN NL (.slice none 0 0) [] vA A (u.alloc (.cells #[.slice none 0 0, .slice none 0 0] t)) := by
  obtain ⟨K, F, x1, x2, x3⟩ := x
  have y : Below u.heap.size u (u.alloc (.cells #[.slice none 0 0, .slice none 0 0] t)) := (Below.refl _ _).alloc (Nat.le_refl _) _
  have hs : (u.alloc (.cells #[.slice none 0 0, .slice none 0 0] t)).heap.size = u.heap.size + 1 := by simp
  refine ⟨_, F, x1.below y, x2.below y, FrX.start x1.b.size t, fun k hk => ?_, fun k hk => ?_⟩
  · rcases hk with hk | hk | hk | hk | hk | hk
    · exact .inl (x3 k (.inl hk))
    · exact .inl (x3 k (.inr (.inl hk)))
    · exact .inl (x3 k (.inr (.inr (.inl hk))))
    · exact .inr (by omega)
    · cases hk
    · exact .inl (x3 k (.inr (.inr (.inr hk))))
  · rcases hk with hk | hk
    · subst hk
      have hrl := cell_in x2.rbx.c0
      simp only at hrl
      refine ⟨fun e => ?_, fun e => ?_, fun e => ?_, fun e => by omega⟩
      · have := x2.lt _ e
        omega
      · have := cell_in x2.q0
        simp only at this
        omega
      · have := (x2.on.lt _ e).2
        omega
    · cases hk
variable {B b g c : Nat} {h l : Int} {W : List Int}
theorem Fr3.node (x : Fr3 w rb p q xb rr vN NL vS T vA A u) (k : HIs B w b h l W g c) (hWl : (W.length : Int) = 16 + 2 * h) (hr : Ints64 W) (hlen : A.length ≤ 900) (a : Int) :
    Calls Tryz.prog 40 #[.pointer (some ⟨b, 0, none⟩), .pointer (some ⟨p, 0, none⟩), .int .i64 a, .int .i64 (hSp W), .int .i64 (hFr W)] u fun e u' =>
      match nod h l W A a with
      | none => e = .returned (.tuple #[.int .i64 0, .bool false]) ∧ Below u.heap.size u u'
      | some (n, A1) => ∃ v1, e = .returned (.tuple #[.int .i64 n, .bool true]) ∧ Fr3 w rb p q xb rr vN NL vS T v1 A1 u' := by
  obtain ⟨K, F, x1, x2, x3, x4, x5⟩ := x
  refine (x1.node k hWl hr hlen a).mono ?_
  intro e u' y
  cases q' : nod h l W A a with
  | none =>
    rw [q'] at y
    exact y
  | some r =>
    obtain ⟨n, A1⟩ := r
    rw [q'] at y
    obtain ⟨v1, y0, y1, y2, y3⟩ := y
    exact ⟨v1, y0, K, F, y1, x2.keep y3 (fun k hk => y2 k (x4 k (by rcases hk with hk | hk | hk | hk; exact .inl hk; exact .inr (.inl hk); exact .inr (.inr (.inl hk)); exact .inr (.inr (.inr (.inr (.inr hk))))))), x3.keep (fun k hk => y2 k (x4 k (by rcases hk with hk | hk; exact .inr (.inr (.inr (.inl hk))); exact .inr (.inr (.inr (.inr (.inl hk))))))), x4, x5⟩
theorem Fr3.cells (x : Fr3 w rb p q xb rr vN NL vS T vA A u) : u.cell? ⟨xb, 0, none⟩ = some vS ∧ u.frozen? ⟨xb, 0, none⟩ = false ∧ u.cell? ⟨xb, 1, none⟩ = some (.slice none 0 0) ∧ u.frozen? ⟨xb, 1, none⟩ = false := by
  obtain ⟨K, F, _, _, x3, _⟩ := x
  exact ⟨x3.x0, x3.f0, x3.x1, x3.f1⟩
theorem Fr3.os (x : Fr3 w rb p q xb rr vN NL vS T vA A u) : u.ownsRow w.heap.size 3 1 vS T.length (vals T) := by
  obtain ⟨K, F, _, _, x3, _⟩ := x
  exact x3.os
theorem Fr3.push (x : Fr3 w rb p q xb rr vN NL vS T vA A u) {n : Int} {u1 u2 : World} (y : Below u.heap.size u u1) {gg m cap : Nat} (hm : m = T.length + 1)
    (ho : u2.ownsRow w.heap.size 3 1 (.slice (some ⟨gg, 0, none⟩) m cap) m (vals T ++ [.int .i64 n])) (hg : u1.grownBy u2 vS.ownBlock) (hat : vS.ownBlock = some gg ∨ gg = u1.heap.size) (hlt : gg < u2.heap.size) :
    Fr3 w rb p q xb rr vN NL (.slice (some ⟨gg, 0, none⟩) m cap) (T ++ [n]) vA A (u2.setCell ⟨xb, 0, none⟩ (.slice (some ⟨gg, 0, none⟩) m cap)) := by
  subst hm
  obtain ⟨K, F, x1, x2, x3, x4, x5⟩ := x
  have ys := y.size
  have gs := hg.size
  have hxl := x3.lt
  have ss : (u2.setCell ⟨xb, 0, none⟩ (.slice (some ⟨gg, 0, none⟩) (T.length + 1) cap)).heap.size = u2.heap.size := by simp
  have same : ∀ k, k < u.heap.size → vS.ownBlock ≠ some k → k ≠ xb → (u2.setCell ⟨xb, 0, none⟩ (.slice (some ⟨gg, 0, none⟩) (T.length + 1) cap)).heap[k]? = u.heap[k]? := fun k h1 h2 h3 =>
    (heap_setCell_other _ _ _ _ h3).trans ((hg.block k (by omega) (fun e => h2 e.symm)).trans (y.block k h1))
  have bb : Below w.heap.size w (u2.setCell ⟨xb, 0, none⟩ (.slice (some ⟨gg, 0, none⟩) (T.length + 1) cap)) :=
    ((geo_next x1.b y).grown hg (by have := x1.b.size; omega) (fun k e => (x3.os.lt k e).1)).setCell (p := ⟨xb, 0, none⟩) x3.xS _
  have hat' : ∀ k, (Value.slice (some ⟨gg, 0, none⟩) (T.length + 1) cap).ownBlock = some k → vS.ownBlock = some k ∨ u1.heap.size ≤ k := fun k e => by
    obtain rfl : gg = k := by simpa [Value.ownBlock] using e
    rcases hat with z | z
    · exact .inl z
    · exact .inr (by omega)
  refine ⟨_, F, x1.turn (by omega) bb (fun k h1 h2 => same k h1 (fun e => h2 (x4 k (.inr (.inr (.inr (.inr (.inl e))))))) (fun e => h2 (x4 k (.inr (.inr (.inr (.inl e))))))), ?_, x3.push y ho hg hat', fun k hk => ?_, fun k hk => ?_⟩
  · refine x2.keep (by omega) (fun k hk => same k ?_ (fun e => ?_) (fun e => ?_))
    · rcases hk with rfl | hk | hk | rfl
      · exact cell_in x2.q0
      · exact (x2.on.lt k hk).2
      · exact x2.lt k hk
      · exact cell_in x2.rbx.c0
    · obtain ⟨z1, z2, z3, z4⟩ := x5 k (.inr e)
      rcases hk with hk | hk | hk | hk
      · exact z2 hk
      · exact z3 hk
      · exact z1 hk
      · exact z4 hk
    · obtain ⟨z1, z2, z3, z4⟩ := x5 k (.inl e)
      rcases hk with hk | hk | hk | hk
      · exact z2 hk
      · exact z3 hk
      · exact z1 hk
      · exact z4 hk
  · rcases hk with hk | hk | hk | hk | hk | hk
    rotate_right
    · exact .inl (x4 k (.inr (.inr (.inr (.inr (.inr hk))))))
    · exact .inl (x4 k (.inl hk))
    · exact .inl (x4 k (.inr (.inl hk)))
    · exact .inl (x4 k (.inr (.inr (.inl hk))))
    · exact .inl (x4 k (.inr (.inr (.inr (.inl hk)))))
    · obtain rfl : gg = k := by simpa [Value.ownBlock] using hk
      rcases hat with z | z
      · exact .inl (x4 gg (.inr (.inr (.inr (.inr (.inl z))))))
      · exact .inr (by omega)
  · rcases hk with hk | hk
    · exact x5 k (.inl hk)
    · rcases hat' k hk with z | z
      · exact x5 k (.inr z)
      · have hrl := cell_in x2.rbx.c0
        simp only at hrl
        refine ⟨fun e => ?_, fun e => ?_, fun e => ?_, fun e => by omega⟩
        · have := x2.lt _ e
          omega
        · have := cell_in x2.q0
          simp only at this
          omega
        · have := (x2.on.lt _ e).2
          omega
theorem Fr3.words (x : Fr3 w rb p q xb rr vN NL vS T vA A u) {ws : List Int} {u1 u2 : World} (y : Below u.heap.size u u1) {vW : Value}
    (ho : u2.ownsRow u1.heap.size 3 1 vW ws.length (vals ws)) (hg : u1.grownBy u2 none) (hT : ∀ z ∈ T, (Lit.int .i64 z).wf = true) (hW : ∀ z ∈ ws, (Lit.int .i64 z).wf = true) (h1 : T.length ≤ maxLen) (h2 : ws.length ≤ maxLen) :
    ∃ z : NArg, z.data = (T, ws) ∧ vW = z.w.val ∧ Fr4 w rb p q xb rr vN NL z vA A (u2.setCell ⟨xb, 1, none⟩ vW) := by
  obtain ⟨K, F, x1, x2, x3, x4, x5⟩ := x
  have ys := y.size
  have gs := hg.size
  have hxl := x3.lt
  have ss : (u2.setCell ⟨xb, 1, none⟩ vW).heap.size = u2.heap.size := by simp
  have same0 : ∀ k, k < u.heap.size → u2.heap[k]? = u.heap[k]? := fun k h1 => (hg.block k (by omega) (fun e => by cases e)).trans (y.block k h1)
  have so : ∀ k, k ≠ xb → (u2.setCell ⟨xb, 1, none⟩ vW).heap[k]? = u2.heap[k]? := fun k h3 => heap_setCell_other _ _ _ _ h3
  have same : ∀ k, k < u.heap.size → k ≠ xb → (u2.setCell ⟨xb, 1, none⟩ vW).heap[k]? = u.heap[k]? := fun k h1 h3 => (so k h3).trans (same0 k h1)
  have bb : Below w.heap.size w (u2.setCell ⟨xb, 1, none⟩ vW) :=
    ((geo_next x1.b y).grown hg (by have := x1.b.size; omega) (fun k e => by cases e)).setCell (p := ⟨xb, 1, none⟩) x3.xS _
  have oS : (u2.setCell ⟨xb, 1, none⟩ vW).ownsRow w.heap.size 3 1 vS T.length (vals T) := hb_same x3.os (fun k hk => same k (x3.os.lt k hk).2 (fun e => x3.ne (by rw [hk, e])))
  have wx : vW.ownBlock ≠ some xb := fun e => by
    have := (ho.lt _ e).1
    omega
  have oW : (u2.setCell ⟨xb, 1, none⟩ vW).ownsRow u1.heap.size 3 1 vW ws.length (vals ws) := hb_same ho (fun k hk => so k (fun e => wx (by rw [hk, e])))
  obtain ⟨i1, e1, l1, a1, k1⟩ := own_iarg oS hT h1
  obtain ⟨i2, e2, l2, a2, k2⟩ := own_iarg oW hW h2
  have c0 : u2.cell? ⟨xb, 0, none⟩ = some vS := (World.cell?_of_block (a := ⟨xb, 0, none⟩) (same0 xb hxl)).trans x3.x0
  have c1 : u2.cell? ⟨xb, 1, none⟩ = some (.slice none 0 0) := (World.cell?_of_block (a := ⟨xb, 1, none⟩) (same0 xb hxl)).trans x3.x1
  refine ⟨⟨i1, i2⟩, by rw [NArg.data, l1, l2], e2, _, F, x1.turn (by omega) bb (fun k h1 h2 => same k h1 (fun e => h2 (x4 k (.inr (.inr (.inr (.inl e))))))), ?_, ?_, ?_, ⟨a1, a2⟩, fun k hk => .inl (x4 k ?_), fun a ha => ?_, fun a ha => ?_⟩
  · refine x2.keep (by omega) (fun k hk => same k ?_ (fun e => ?_))
    · rcases hk with rfl | hk | hk | rfl
      · exact cell_in x2.q0
      · exact (x2.on.lt k hk).2
      · exact x2.lt k hk
      · exact cell_in x2.rbx.c0
    · obtain ⟨z1, z2, z3, z4⟩ := x5 k (.inl e)
      rcases hk with hk | hk | hk | hk
      · exact z2 hk
      · exact z3 hk
      · exact z1 hk
      · exact z4 hk
  · show _ = some i1.val
    rw [← e1]
    simp [go_sem, c0]
  · show _ = some i2.val
    rw [← e2]
    exact World.cell?_setCell_same _ _ _ c1
  · rcases hk with hk | hk | hk | hk
    · exact .inl hk
    · exact .inr (.inl hk)
    · exact .inr (.inr (.inl hk))
    · exact .inr (.inr (.inr (.inr (.inr hk))))
  · have hrl := cell_in x2.rbx.c0
    simp only at hrl
    rcases ha with ha | ha
    · have e := k1 a ha
      have hl := (x3.os.lt _ e).2
      exact ⟨by omega, .inl (x4 _ (.inr (.inr (.inr (.inr (.inl e)))))), x5 _ (.inr e)⟩
    · have e := k2 a ha
      obtain ⟨hl1, hl2⟩ := oW.lt _ e
      refine ⟨by omega, .inr ⟨by omega, by omega⟩, fun e => ?_, fun e => ?_, fun e => ?_, fun e => by omega⟩
      · have := x2.lt _ e
        omega
      · have := cell_in x2.q0
        simp only at this
        omega
      · have := (x2.on.lt _ e).2
        omega
  · rcases ha with ha | ha
    · exact (x3.os.lt _ (k1 a ha)).1
    · have h1 := (oW.lt _ (k2 a ha)).1
      have h2 := x1.b.size
      omega
theorem Fr4.push {z : NArg} (x : Fr4 w rb p q xb rr vN NL z vA A u) {u1 u2 : World} (y : Below u.heap.size u u1) {gg m cap : Nat} (hm : m = NL.length + 1)
    (ho : u2.ownsRow w.heap.size 61 2 (.slice (some ⟨gg, 0, none⟩) m cap) m (flat NArg.cells NL ++ z.cells)) (hg : u1.grownBy u2 vN.ownBlock) (hat : vN.ownBlock = some gg ∨ gg = u1.heap.size) (hlt : gg < u2.heap.size) :
    Fr2 w rb p q rr (.slice (some ⟨gg, 0, none⟩) m cap) (NL ++ [z]) vA A (u2.setCell ⟨q, 1, none⟩ (.slice (some ⟨gg, 0, none⟩) m cap)) := by
  subst hm
  obtain ⟨K, F, x1, x2, x3, x4, x5, x6, x7, x8⟩ := x
  have ys := y.size
  have gs := hg.size
  have ss : (u2.setCell ⟨q, 1, none⟩ (.slice (some ⟨gg, 0, none⟩) (NL.length + 1) cap)).heap.size = u2.heap.size := by simp
  have same : ∀ k, k < u.heap.size → vN.ownBlock ≠ some k → k ≠ q → (u2.setCell ⟨q, 1, none⟩ (.slice (some ⟨gg, 0, none⟩) (NL.length + 1) cap)).heap[k]? = u.heap[k]? := fun k h1 h2 h3 =>
    (heap_setCell_other _ _ _ _ h3).trans ((hg.block k (by omega) (fun e => h2 e.symm)).trans (y.block k h1))
  have bb : Below w.heap.size w (u2.setCell ⟨q, 1, none⟩ (.slice (some ⟨gg, 0, none⟩) (NL.length + 1) cap)) :=
    ((geo_next x1.b y).grown hg (by have := x1.b.size; omega) (fun k e => (x2.on.lt k e).1)).setCell (p := ⟨q, 1, none⟩) x2.qS _
  have hat' : ∀ k, (Value.slice (some ⟨gg, 0, none⟩) (NL.length + 1) cap).ownBlock = some k → vN.ownBlock = some k ∨ u1.heap.size ≤ k := fun k e => by
    obtain rfl : gg = k := by simpa [Value.ownBlock] using e
    rcases hat with z | z
    · exact .inl z
    · exact .inr (by omega)
  refine ⟨_, _, x1.turn (by omega) bb (fun k h1 h2 => same k h1 (fun e => h2 (x6 k (.inr (.inl e)))) (fun e => h2 (x6 k (.inl e)))), x2.push x5 y (fun a ha => ⟨(x7 a ha).1, (x7 a ha).2.2.2⟩) x8 ho hg hat', fun k hk => ?_⟩
  rcases hk with hk | hk | (hk | ⟨a, ha, rfl⟩) | hk
  rotate_right
  · exact .inl (x6 k (.inr (.inr (.inr hk))))
  · exact .inl (x6 k (.inl hk))
  · obtain rfl : gg = k := by simpa [Value.ownBlock] using hk
    rcases hat with z | z
    · exact .inl (x6 gg (.inr (.inl z)))
    · exact .inr (by omega)
  · exact .inl (x6 k (.inr (.inr (.inl hk))))
  · exact .inl (x7 a ha).2.1
theorem Fr2.told (x : Fr2 w rb p q rr vN NL vA A u) (hrb : w.heap.size ≤ rb) (hl : NL.length ≤ maxLen) : u.cell? ⟨q, 0, none⟩ = some rr.val ∧ u.cell? ⟨q, 1, none⟩ = some vN ∧ RbX rb u ∧
    ∀ v0 v1, ∃ G : GArg, G.r = rr ∧ G.n = NL ∧ G.val = .agg #[rr.val, vN] ∧ (G.At ((u.setCell ⟨rb, 0, none⟩ v0).setCell ⟨rb, 1, none⟩ v1) ∧ G.In (fun k => w.heap.size ≤ k ∧ k < ((u.setCell ⟨rb, 0, none⟩ v0).setCell ⟨rb, 1, none⟩ v1).heap.size)) ∧ Below w.heap.size w ((u.setCell ⟨rb, 0, none⟩ v0).setCell ⟨rb, 1, none⟩ v1) := by
  obtain ⟨K, F, x1, x2, x3⟩ := x
  refine ⟨x2.q0, x2.q1, x2.rbx, fun v0 v1 => ?_⟩
  have so : ∀ k, k ≠ rb → ((u.setCell ⟨rb, 0, none⟩ v0).setCell ⟨rb, 1, none⟩ v1).heap[k]? = u.heap[k]? := fun k h => (heap_setCell_other _ ⟨rb, 1, none⟩ _ _ h).trans (heap_setCell_other _ ⟨rb, 0, none⟩ _ _ h)
  have hs : u.heap.size ≤ ((u.setCell ⟨rb, 0, none⟩ v0).setCell ⟨rb, 1, none⟩ v1).heap.size := by simp
  have hF : ∀ k, F k → ((u.setCell ⟨rb, 0, none⟩ v0).setCell ⟨rb, 1, none⟩ v1).heap[k]? = u.heap[k]? := fun k hk => so k (fun e => x2.rF.1 (e ▸ hk))
  have hlt : ∀ k, F k → w.heap.size ≤ k ∧ k < ((u.setCell ⟨rb, 0, none⟩ v0).setCell ⟨rb, 1, none⟩ v1).heap.size := fun k hk => ⟨x2.lo k hk, Nat.lt_of_lt_of_le (x2.lt k hk) hs⟩
  have on : ((u.setCell ⟨rb, 0, none⟩ v0).setCell ⟨rb, 1, none⟩ v1).ownsRow w.heap.size 61 2 vN NL.length (flat NArg.cells NL) := hb_same x2.on (fun k hk => so k (fun e => x2.rF.2.2 (by rw [hk, e])))
  obtain ⟨a, c, rfl, h1, _⟩ := own_formK on
  exact ⟨⟨rr, a, NL, c⟩, rfl, rfl, rfl, ⟨⟨x2.rl.blocks x2.rk hs hF, h1, fun z hz => ⟨(x2.nl z hz).1.1.blocks (x2.nl z hz).2.1 hs hF, (x2.nl z hz).1.2.blocks (x2.nl z hz).2.2 hs hF⟩, hl⟩, ⟨fun b e => hlt _ (x2.rk b e), fun b e => on.lt _ (by rw [show a = some b from e]; rfl), fun z hz => ⟨fun b e => hlt _ ((x2.nl z hz).2.1 b e), fun b e => hlt _ ((x2.nl z hz).2.2 b e)⟩⟩⟩, (x1.b.setCell (p := ⟨rb, 0, none⟩) hrb _).setCell (p := ⟨rb, 1, none⟩) hrb _⟩
theorem grown_cell {u u1 u2 : World} {row : Option Nat} (y : Below u.heap.size u u1) (hg : u1.grownBy u2 row) {g : Nat} (hl : g < u.heap.size) (hn : row ≠ some g) (o : Nat) : u2.cell? ⟨g, o, none⟩ = u.cell? ⟨g, o, none⟩ ∧ u2.frozen? ⟨g, o, none⟩ = u.frozen? ⟨g, o, none⟩ := by
  have ys := y.size
  have e : u2.heap[g]? = u.heap[g]? := (hg.block g (by omega) (fun e => hn e.symm)).trans (y.block g hl)
  exact ⟨World.cell?_of_block (a := ⟨g, o, none⟩) e, World.frozen?_of_block (a := ⟨g, o, none⟩) e⟩
theorem Fr3.sep (x : Fr3 w rb p q xb rr vN NL vS T vA A u) : xb < u.heap.size ∧ vS.ownBlock ≠ some xb := by
  obtain ⟨K, F, _, _, x3, _⟩ := x
  exact ⟨x3.lt, x3.ne⟩
theorem Fr3.rbx (x : Fr3 w rb p q xb rr vN NL vS T vA A u) : RbX rb u ∧ rb < u.heap.size := by
  obtain ⟨K, F, _, x2, _⟩ := x
  exact ⟨x2.rbx, cell_in x2.rbx.c0⟩
theorem Fr4.sep {z : NArg} (x : Fr4 w rb p q xb rr vN NL z vA A u) : q < u.heap.size ∧ vN.ownBlock ≠ some q ∧ u.cell? ⟨q, 1, none⟩ = some vN ∧ u.frozen? ⟨q, 1, none⟩ = false ∧ u.cell? ⟨xb, 0, none⟩ = some z.s.val ∧ u.cell? ⟨xb, 1, none⟩ = some z.w.val ∧ u.ownsRow w.heap.size 61 2 vN NL.length (flat NArg.cells NL) ∧ Below w.heap.size w u := by
  obtain ⟨K, F, x1, x2, x3, x4, _⟩ := x
  exact ⟨cell_in x2.q0, fun e => (x2.nF q e).2 rfl, x2.q1, x2.qf, x3, x4, x2.on, x1.b⟩
end
end Go.Proofs.YtbghglkplbnnkaaGreatDoor
-- FromSt
namespace Go.Proofs.YtbghglkplbnnkaaGreatDoor
open Go.RowKit Sec
open Go.Proofs.YtbghglkplbnnkaaGreatDoor.Bk

structure FrG (w : World) (rb gr q : Nat) (R : List Int) (u : World) : Prop where
  rx : RbX rb u
  q0 : u.cell? ⟨q, 0, none⟩ = some (.slice (some ⟨gr, 0, none⟩) 8 8)
  q1 : u.cell? ⟨q, 1, none⟩ = some (.slice none 0 0)
  qf : u.frozen? ⟨q, 1, none⟩ = false
  o : u.ownsRow w.heap.size 3 1 (.slice (some ⟨gr, 0, none⟩) 8 8) 8 (vals R)
  rl : R.length = 8
def Fr1 (w : World) (rb gr p q : Nat) (R : List Int) (vA : Value) (A : List Int) (u : World) : Prop :=
  (NdS w p vA A (fun k => k = rb ∨ k = gr ∨ k = q) u ∧ FrG w rb gr q R u) ∧ w.heap.size ≤ rb ∧ w.heap.size ≤ q ∧ rb ≠ gr ∧ rb ≠ q ∧ gr ≠ q
section
variable {w u u' : World} {rb gr p q : Nat} {R A : List Int} {vA : Value}
structure Two2 (u : World) (g : Nat) (v0 v1 : Value) : Prop where
  lt : g < u.heap.size
  c0 : u.cell? ⟨g, 0, none⟩ = some v0
  c1 : u.cell? ⟨g, 1, none⟩ = some v1
  f0 : u.frozen? ⟨g, 0, none⟩ = false
  f1 : u.frozen? ⟨g, 1, none⟩ = false
theorem Two2.made (w : World) (v0 v1 : Value) (t : TypeId) : Two2 (w.alloc (.cells #[v0, v1] t)) w.heap.size v0 v1 := by
  refine ⟨?_, ?_, ?_, ?_, ?_⟩ <;> simp
theorem Two2.below {g : Nat} {v0 v1 : Value} (h : Two2 u g v0 v1) (b : Below u.heap.size u u') : Two2 u' g v0 v1 :=
  ⟨Nat.lt_of_lt_of_le h.lt b.size, (b.cell (p := ⟨g, 0, none⟩) h.lt).trans h.c0, (b.cell (p := ⟨g, 1, none⟩) h.lt).trans h.c1, (b.frozen (p := ⟨g, 0, none⟩) h.lt).trans h.f0, (b.frozen (p := ⟨g, 1, none⟩) h.lt).trans h.f1⟩
theorem fr_same {w : World} {a : Addr} {x : Value} (h : (w.cell? a).isSome = true) : (w.setCell a x).cell? a = some x := by
  obtain ⟨v, hv⟩ := Option.isSome_iff_exists.1 h
  exact World.cell?_setCell_same _ _ _ hv
theorem Two2.set2 {g : Nat} {z0 z1 : Value} (h : Two2 u g z0 z1) (v0 v1 : Value) : Two2 ((u.setCell ⟨g, 0, none⟩ v0).setCell ⟨g, 1, none⟩ v1) g v0 v1 := by
  obtain ⟨l0, c0, c1, f0, f1⟩ := h
  refine ⟨?_, ?_, ?_, ?_, ?_⟩ <;> (first | exact (by simpa using l0) | (simp only [World.frozen?_setCell]; assumption) | simp [go_sem, fr_same, c0, c1])
theorem Two2.load {g : Nat} {v0 v1 : Value} (h : Two2 u g v0 v1) : (loadVar 27 ⟨g, 0, none⟩).run Tryz.prog u = .ok (.agg #[v0, v1]) u := by
  obtain ⟨l0, c0, c1, f0, f1⟩ := h
  simp [go_sem, c0, c1]
theorem fr_results2 {fn : Func} {t v : Tmp} {T : TypeId} (h : fn.results = #[.cell t T, .tmp v]) {tmps : Array Value} {P : Program} {w : World} {a : Addr} {x y : Value} (ht : tmps.getD t undef = .pointer (some a)) (hl : (loadVar T a).run P w = .ok x w) (hu : tmps.getD v undef = y) :
    (results fn tmps).run P w = .ok (.tuple #[x, y]) w := by
  have ht' : tmps[t]?.getD undef = .pointer (some a) := by simpa using ht
  have hu' : tmps[v]?.getD undef = y := by simpa using hu
  simp [results, h, ht', hu', hl, asAddr]
theorem RbX.two {rb : Nat} (x : RbX rb u) : Two2 u rb (.slice none 0 0) (.slice none 0 0) := ⟨cell_in x.c0, x.c0, x.c1, x.f0, x.f1⟩
theorem root_set {ns : List Int} {n : Nat} (hn : ns.length = n) (h8 : n < 8) (z : Int) : (ns ++ List.replicate (8 - n) 0).set n z = (ns ++ [z]) ++ List.replicate (8 - (n + 1)) 0 := by
  subst hn
  rw [show 8 - ns.length = (8 - (ns.length + 1)) + 1 by omega, List.replicate_succ, List.set_append_right _ _ (Nat.le_refl _), Nat.sub_self, List.set_cons_zero, List.append_assoc]
  rfl
theorem one_made (w : World) (v : Value) (t : TypeId) : (w.alloc (.cells #[v] t)).cell? ⟨w.heap.size, 0, none⟩ = some v ∧ (w.alloc (.cells #[v] t)).frozen? ⟨w.heap.size, 0, none⟩ = false := by
  constructor <;> simp
theorem Fr1.start (w : World) : Fr1 w w.heap.size (w.heap.size + 1) (w.heap.size + 1 + 1 + 1) (w.heap.size + 1 + 1) [0, 0, 0, 0, 0, 0, 0, 0] (.slice none 0 0) []
    ((((w.alloc (.cells #[.slice none 0 0, .slice none 0 0] 27)).alloc (.cells #[.int .i64 0, .int .i64 0, .int .i64 0, .int .i64 0, .int .i64 0, .int .i64 0, .int .i64 0, .int .i64 0] 3)).alloc (.cells #[.slice (some ⟨w.heap.size + 1, 0, none⟩) 8 8, .slice none 0 0] 27)).alloc (.cells #[.slice none 0 0] 24)) := by
  have t1 := Two2.made w (.slice none 0 0) (.slice none 0 0) 27
  have s1 : (w.alloc (.cells #[.slice none 0 0, .slice none 0 0] 27)).heap.size = w.heap.size + 1 := by simp
  have b1 : Below w.heap.size w (w.alloc (.cells #[.slice none 0 0, .slice none 0 0] 27)) := (Below.refl _ _).alloc (Nat.le_refl _) _
  generalize w.alloc (.cells #[.slice none 0 0, .slice none 0 0] 27) = u1 at *
  have o2 := World.ownsRow_lit (base := w.heap.size) (e := 3) (size := 1) u1 #[.int .i64 0, .int .i64 0, .int .i64 0, .int .i64 0, .int .i64 0, .int .i64 0, .int .i64 0, .int .i64 0] 8 (by omega) (by decide) rfl
  have s2 : (u1.alloc (.cells #[.int .i64 0, .int .i64 0, .int .i64 0, .int .i64 0, .int .i64 0, .int .i64 0, .int .i64 0, .int .i64 0] 3)).heap.size = w.heap.size + 2 := by simp [s1]
  have b2 : Below u1.heap.size u1 (u1.alloc (.cells #[.int .i64 0, .int .i64 0, .int .i64 0, .int .i64 0, .int .i64 0, .int .i64 0, .int .i64 0, .int .i64 0] 3)) := (Below.refl _ _).alloc (Nat.le_refl _) _
  rw [s1] at o2
  generalize u1.alloc (.cells #[.int .i64 0, .int .i64 0, .int .i64 0, .int .i64 0, .int .i64 0, .int .i64 0, .int .i64 0, .int .i64 0] 3) = u2 at *
  have t3 := Two2.made u2 (.slice (some ⟨w.heap.size + 1, 0, none⟩) 8 8) (.slice none 0 0) 27
  have s3 : (u2.alloc (.cells #[.slice (some ⟨w.heap.size + 1, 0, none⟩) 8 8, .slice none 0 0] 27)).heap.size = w.heap.size + 3 := by simp [s2]
  have b3 : Below u2.heap.size u2 (u2.alloc (.cells #[.slice (some ⟨w.heap.size + 1, 0, none⟩) 8 8, .slice none 0 0] 27)) := (Below.refl _ _).alloc (Nat.le_refl _) _
  rw [s2] at t3
  generalize u2.alloc (.cells #[.slice (some ⟨w.heap.size + 1, 0, none⟩) 8 8, .slice none 0 0] 27) = u3 at *
  obtain ⟨p0, p1⟩ := one_made u3 (.slice none 0 0) 24
  have s4 : (u3.alloc (.cells #[.slice none 0 0] 24)).heap.size = w.heap.size + 4 := by simp [s3]
  have b4 : Below u3.heap.size u3 (u3.alloc (.cells #[.slice none 0 0] 24)) := (Below.refl _ _).alloc (Nat.le_refl _) _
  rw [s3] at p0 p1
  generalize u3.alloc (.cells #[.slice none 0 0] 24) = u4 at *
  have r := (((t1.below b2).below b3).below b4)
  have q := t3.below b4
  have o := own_below (own_below o2 b3) b4
  refine ⟨⟨⟨geo_next (geo_next (geo_next b1 b2) b3) b4, by omega, p0, p1, World.ownsRow_nil _ _ _ _, fun e => (by cases e), fun k hk => ?_⟩, ⟨⟨r.c0, r.c1, r.f0, r.f1⟩, q.c0, q.c1, q.f1, o, rfl⟩⟩, Nat.le_refl _, by omega, by omega, by omega, by omega⟩
  exact ⟨by omega, by omega, fun e => (by cases e)⟩
theorem FrG.keep (x : FrG w rb gr q R u) (hb : ∀ k, (k = rb ∨ k = gr ∨ k = q) → u'.heap[k]? = u.heap[k]?) : FrG w rb gr q R u' := by
  have eq := hb q (.inr (.inr rfl))
  exact ⟨x.rx.keep (hb rb (.inl rfl)), (World.cell?_of_block (a := ⟨q, 0, none⟩) eq).trans x.q0, (World.cell?_of_block (a := ⟨q, 1, none⟩) eq).trans x.q1, (World.frozen?_of_block (a := ⟨q, 1, none⟩) eq).trans x.qf, hb_same x.o (fun k hk => by
    obtain rfl : gr = k := by simpa [Value.ownBlock] using hk
    exact hb gr (.inr (.inl rfl))), x.rl⟩
variable {B b g c : Nat} {h l : Int} {W : List Int}
theorem Fr1.node (x : Fr1 w rb gr p q R vA A u) (k : HIs B w b h l W g c) (hWl : (W.length : Int) = 16 + 2 * h) (hr : Ints64 W) (hlen : A.length ≤ 900) (a : Int) :
    Calls Tryz.prog 40 #[.pointer (some ⟨b, 0, none⟩), .pointer (some ⟨p, 0, none⟩), .int .i64 a, .int .i64 (hSp W), .int .i64 (hFr W)] u fun e u' =>
      match nod h l W A a with
      | none => e = .returned (.tuple #[.int .i64 0, .bool false]) ∧ Below u.heap.size u u'
      | some (n, A1) => ∃ v1, e = .returned (.tuple #[.int .i64 n, .bool true]) ∧ Fr1 w rb gr p q R v1 A1 u' := by
  obtain ⟨⟨x1, x2⟩, x3⟩ := x
  refine (x1.node k hWl hr hlen a).mono ?_
  intro e u' y
  cases q' : nod h l W A a with
  | none =>
    rw [q'] at y
    exact y
  | some r =>
    obtain ⟨n, A1⟩ := r
    rw [q'] at y
    obtain ⟨v1, y0, y1, y2, y3⟩ := y
    exact ⟨v1, y0, ⟨y1, x2.keep y2⟩, x3⟩
theorem Fr1.bel (x : Fr1 w rb gr p q R vA A u) : Below w.heap.size w u := x.1.1.b
theorem Fr1.below (x : Fr1 w rb gr p q R vA A u) (y : Below u.heap.size u u') : Fr1 w rb gr p q R vA A u' :=
  ⟨⟨(x.1.1.below y).mono (fun k hk => .inl hk), x.1.2.keep (fun k hk => y.block k (x.1.1.kl k hk).1)⟩, x.2⟩
theorem Fr1.arr (x : Fr1 w rb gr p q R vA A u) {k : Nat} (hk : k < 8) : u.cell? ⟨gr, k, none⟩ = some (.int .i64 (R.getD k 0)) ∧ u.frozen? ⟨gr, k, none⟩ = false :=
  owns_cell x.1.2.o (hb_vals (by rw [x.1.2.rl]; exact hk))
theorem Fr1.put (x : Fr1 w rb gr p q R vA A u) (k : Nat) (z : Int) : Fr1 w rb gr p q (R.set k z) vA A (u.setCell ⟨gr, k, none⟩ (.int .i64 z)) := by
  obtain ⟨⟨x1, x2⟩, x3, x3', x4, x5, x6⟩ := x
  have hg := x2.o.lt gr rfl
  have same : ∀ j, j ≠ gr → (u.setCell ⟨gr, k, none⟩ (.int .i64 z)).heap[j]? = u.heap[j]? := fun j q => heap_setCell_other _ _ _ _ q
  have hs : (u.setCell ⟨gr, k, none⟩ (.int .i64 z)).heap.size = u.heap.size := by simp
  have eq := same q (fun e => x6 e.symm)
  refine ⟨⟨(x1.turn (by omega) (x1.b.setCell (p := ⟨gr, k, none⟩) hg.1 _) (fun j _ hj => same j (fun e => hj (.inr (.inl e))))).mono (fun j hj => .inl hj), ⟨x2.rx.keep (same rb x4), (World.cell?_of_block (a := ⟨q, 0, none⟩) eq).trans x2.q0, (World.cell?_of_block (a := ⟨q, 1, none⟩) eq).trans x2.q1, (World.frozen?_of_block (a := ⟨q, 1, none⟩) eq).trans x2.qf, ?_, by rw [List.length_set]; exact x2.rl⟩⟩, x3, x3', x4, x5, x6⟩
  rw [vals, List.map_set]
  exact owns_set x2.o k _
theorem Fr1.done (x : Fr1 w rb gr p q R vA A u) (hw : ∀ z ∈ R, (Lit.int .i64 z).wf = true) : Fr2 w rb p q ⟨some ⟨gr, 0, none⟩, R, 8⟩ (.slice none 0 0) [] vA A u := by
  obtain ⟨⟨x1, x2⟩, x3, x3', x4, x5, x6⟩ := x
  refine ⟨_, fun k => k = gr, x1, ⟨?_, x2.q1, x2.qf, x3', ⟨?_, hw, by rw [x2.rl]; decide⟩, fun a e => ?_, World.ownsRow_nil _ _ _ _, fun z hz => (by cases hz), fun k hk => (by cases hk), ?_, fun k hk => ?_, x2.rx, ⟨x4, x5, fun e => by cases e⟩, fun k hk => by rw [show k = gr from hk]; exact (x2.o.lt gr rfl).1⟩, fun k hk => ?_⟩
  · rw [x2.q0]
    show _ = some (Value.slice (some ⟨gr, 0, none⟩) R.length 8)
    rw [x2.rl]
  · obtain ⟨a, c', e, h1, _⟩ := own_form x2.o
    have e : (some (⟨gr, 0, none⟩ : Addr)) = a := by simpa using congrArg (fun v => match v with | Value.slice a _ _ => a | _ => none) e
    rw [e]
    exact h1
  · have e : some (⟨gr, 0, none⟩ : Addr) = some a := e
    cases e
    exact rfl
  · exact fun e => x6 e.symm
  · subst hk
    exact (x1.kl _ (.inr (.inl rfl))).1
  · rcases hk with hk | hk | hk | hk
    · exact .inr (.inr hk)
    · cases hk
    · exact .inr (.inl hk)
    · exact .inl hk
end
theorem mkEight (u : World) : (Instr.makeSlice 24 (.int .i64 8) (.int .i64 8)).run Tryz.prog u =
    .ok (.slice (some ⟨u.heap.size, 0, none⟩) 8 8) (u.alloc (.cells #[.int .i64 0, .int .i64 0, .int .i64 0, .int .i64 0, .int .i64 0, .int .i64 0, .int .i64 0, .int .i64 0] 3)) := by
  obtain ⟨i1, hi, hz0, hz1, hz2⟩ := info_parts (show (Tryz.prog.info? 3).map (fun i => (i.zero, i.size, i.bytes)) = some (some (.int .i64 0), 1, 8) by kernel_rfl)
  have h := run_make (P := Tryz.prog) u 24 3 i1 _ Tryz.underlying24 hi hz0 .i64 .i64 8 8 (by omega) (Int.le_refl _) (by rw [hz2]; omega) (by omega)
  have e8 : (8 : Int).toNat = 8 := rfl
  simpa [hz1, e8, Value.cells, show madeCells #[Value.int .i64 0] 8 = #[.int .i64 0, .int .i64 0, .int .i64 0, .int .i64 0, .int .i64 0, .int .i64 0, .int .i64 0, .int .i64 0] from by apply Array.ext <;> simp [madeCells, Nat.mod_one] <;> (intro i hi; match i, hi with | 0, _ | 1, _ | 2, _ | 3, _ | 4, _ | 5, _ | 6, _ | 7, _ => exact fun _ => rfl)] using h
theorem wf_small {z : Int} (h0 : -9223372036854775808 ≤ z) (h1 : z ≤ 9223372036854775807) : (Lit.int .i64 z).wf = true := by
  simp only [Lit.wf, IntKind.min, IntKind.max, IntKind.signed, IntKind.bits, Bool.and_eq_true, decide_eq_true_eq, if_true]
  omega
theorem Fr2.p0 {w u : World} {rb p q : Nat} {rr : IArg} {vN vA : Value} {NL : List NArg} {A : List Int} (x : Fr2 w rb p q rr vN NL vA A u) : u.cell? ⟨p, 0, none⟩ = some vA ∧ u.ownsRow w.heap.size 3 1 vA A.length (vals A) := by
  obtain ⟨K, F, x1, _⟩ := x
  exact ⟨x1.pa, x1.oa⟩
theorem Fr2.nodes {w u : World} {rb p q : Nat} {rr : IArg} {vN vA : Value} {NL : List NArg} {A : List Int} (x : Fr2 w rb p q rr vN NL vA A u) : ∃ a c, vN = .slice a NL.length c := by
  obtain ⟨K, F, _, x2, _⟩ := x
  exact owns_slice x2.on
theorem Fr3.p0 {w u : World} {rb p q xb : Nat} {rr : IArg} {vN vA vS : Value} {NL : List NArg} {A T : List Int} (x : Fr3 w rb p q xb rr vN NL vS T vA A u) : u.cell? ⟨p, 0, none⟩ = some vA ∧ u.ownsRow w.heap.size 3 1 vA A.length (vals A) := by
  obtain ⟨K, F, x1, _⟩ := x
  exact ⟨x1.pa, x1.oa⟩
theorem quiet_same {f : FuncId} {args : Array Value} {u : World} {r : Ending} (h : Calls Tryz.prog f args u fun e w' => e = r ∧ w' = u) : Calls Tryz.prog f args u fun e w' => e = r ∧ ∃ m, w' = u.drewN m :=
  h.mono fun _ _ ⟨x, y⟩ => ⟨x, 0, y.trans rfl⟩
theorem his_lies {B : Nat} {w : World} {b g c : Nat} {h l : Int} {W : List Int} (k : HIs B w b h l W g c) {x M : Nat} (hx : x + M ≤ W.length) {a : Int} (ha : a.toNat = x) : LiesAt w (some ⟨g, x, none⟩) (vals (celL W a M)) := fun j u hu => by
  have hj : j < M := by
    have := (List.getElem?_eq_some_iff.1 hu).1
    simpa [vals, celL] using this
  refine ⟨_, rfl, k.glt.2, ?_⟩
  have e : u = .int .i64 (W.getD (x + j) 0) := by
    simp [vals, celL, hj, ha] at hu
    simpa using hu.symm
  rw [e]
  have := (k.at (i := x + j) (by omega)).1
  by_cases e0 : j = 0
  · subst e0
    simpa [Addr.add] using this
  · simpa [Addr.add, e0] using this
theorem own_filled {u : World} {base : Nat} {ws : List Int} {M cap : Nat} (hM : ws.length = M) (hb : base ≤ u.heap.size) (hc : M ≤ cap) (hm : cap ≤ maxLen) : (u.alloc (.cells ((vals ws).toArray ++ Builtin.zeroCells #[Value.int .i64 0] (cap - M)) 3)).ownsRow base 3 1 (.slice (some ⟨u.heap.size, 0, none⟩) M cap) M (vals ws) := by
  have hl : (vals ws).length = M := by simp [vals]; exact hM
  refine ⟨by rw [hl, Nat.mul_one], .inr ⟨u.heap.size, cap, _, rfl, hb, heap_alloc_new u _, hc, hm, ?_, ?_⟩⟩
  · simp only [Array.size_append, List.size_toArray, size_zeroCells, hl]
    simp
    omega
  · rw [Array.toList_append]
    show ((vals ws) ++ _).take (M * 1) = vals ws
    rw [Nat.mul_one, ← hl]
    exact List.take_left
theorem Fr3.wordsAt {w wr : World} {rb p q xb : Nat} {rr : IArg} {vN : Value} {NL : List NArg} {vA vS : Value} {A T : List Int} (x : Fr3 w rb p q xb rr vN NL vS T vA A wr) {ws : List Int} {M : Nat} (hM : ws.length = M) (hl : M ≤ maxLen) (hT : ∀ z ∈ T, (Lit.int .i64 z).wf = true) (hW : ∀ z ∈ ws, (Lit.int .i64 z).wf = true) (h1 : T.length ≤ maxLen) :
    ∃ z : NArg, z.data = (T, ws) ∧ Fr4 w rb p q xb rr vN NL z vA A ((wr.setCell ⟨xb, 1, none⟩ (.slice (some ⟨wr.heap.size, 0, none⟩) M ((Question.appendCap M 0 3).cut (wr.tape (wr.drawn + 1) (Question.appendCap M 0 3))))).alloc (.cells ((vals ws).toArray ++ Builtin.zeroCells #[Value.int .i64 0] ((Question.appendCap M 0 3).cut (wr.tape (wr.drawn + 1) (Question.appendCap M 0 3)) - M)) 3)).drew.drew := by
  have g1 : M ≤ (Question.appendCap M 0 3).cut (wr.tape (wr.drawn + 1) (Question.appendCap M 0 3)) := grownCap_ge wr.drew M 0 3
  have g2 : (Question.appendCap M 0 3).cut (wr.tape (wr.drawn + 1) (Question.appendCap M 0 3)) ≤ maxLen := grownCap_le_maxLen wr.drew M 0 3 hl
  generalize (Question.appendCap M 0 3).cut (wr.tape (wr.drawn + 1) (Question.appendCap M 0 3)) = cap at *
  have ho := own_filled (u := wr) (base := wr.heap.size) hM (Nat.le_refl _) g1 g2
  have hg : wr.grownBy ((wr.alloc (.cells ((vals ws).toArray ++ Builtin.zeroCells #[Value.int .i64 0] (cap - M)) 3)).drew.drew) none := ⟨rfl, rfl, rfl, by simp, fun k hk _ => heap_alloc_old wr _ hk⟩
  obtain ⟨z, z1, _, z3⟩ := x.words (ws := ws) (Below.refl _ _) (vW := .slice (some ⟨wr.heap.size, 0, none⟩) M cap) (by rw [hM]; exact ho) hg hT hW h1 (by rw [hM]; exact hl)
  refine ⟨z, z1, ?_⟩
  have hx := x.sep.1
  have e : ((wr.alloc (.cells ((vals ws).toArray ++ Builtin.zeroCells #[Value.int .i64 0] (cap - M)) 3)).drew.drew).setCell ⟨xb, 1, none⟩ (.slice (some ⟨wr.heap.size, 0, none⟩) M cap) = ((wr.setCell ⟨xb, 1, none⟩ (.slice (some ⟨wr.heap.size, 0, none⟩) M cap)).alloc (.cells ((vals ws).toArray ++ Builtin.zeroCells #[Value.int .i64 0] (cap - M)) 3)).drew.drew := by
    show (((wr.alloc (.cells ((vals ws).toArray ++ Builtin.zeroCells #[Value.int .i64 0] (cap - M)) 3)).setCell ⟨xb, 1, none⟩ (.slice (some ⟨wr.heap.size, 0, none⟩) M cap)).drew).drew = _
    rw [World.setCell_alloc_past _ _ _ _ hx]
  rw [← e]
  exact z3
end Go.Proofs.YtbghglkplbnnkaaGreatDoor
