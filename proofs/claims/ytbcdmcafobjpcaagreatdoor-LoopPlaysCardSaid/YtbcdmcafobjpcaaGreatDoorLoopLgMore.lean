/- A log beside rows that grow; rows that stay while a log turns. -/
import Derived.Test.YtbcdmcafobjpcaaGreatDoorLoopAlive
import Derived.Test.YtbcdmcafobjpcaaGreatDoorWideSame
import Derived.Test.YtbcdmcafobjpcaaGreatDoorWideGrow
namespace Go.Proofs.YtbcdmcafobjpcaaGreatDoor
open Go.RowKit Sec
open Go.Proofs.YtbcdmcafobjpcaaGreatDoor.Bk

section
variable {B : Nat} {G : Nat → Prop} {w w' : World} {q p fr n hd nx : Nat} {ep : Int} {all : List Chg} {K : Nat}
/-- A row that is no part of it has grown. -/
theorem AtK.grow {D : Dsk} (h : AtK B G w p D) {row : Option Nat} (g : w.grownBy w' row) (hr : ∀ k, row = some k → G k ∧ B ≤ k) : AtK B (fun k => G k ∨ (w.heap.size ≤ k ∧ k < w'.heap.size)) w' p D := by
  have hB := h.le
  have hb : Below B w w' := (Below.refl B w).grown g hB (fun k hk => (hr k hk).2)
  obtain ⟨t, y, e, hi, hf, hg⟩ := h
  refine ⟨t.below hb, y, e, hi.of_blocks g.size (fun k f => g.block k (hi.small k f) (fun r => (hg k (hr k r.symm).1).2 f)), hf, fun k r => ?_⟩
  rcases r with r | r
  · exact ⟨Nat.lt_of_lt_of_le (hg k r).1 g.size, (hg k r).2⟩
  · exact ⟨r.2, fun f => by have := hi.small k f; omega⟩
theorem LogAt.grow {D : Dsk} {fr n hd nx ep : Int} (h : LogAt B G w q p D fr n hd nx ep) {row : Option Nat} (g : w.grownBy w' row) (hr : ∀ k, row = some k → G k ∧ B ≤ k) : LogAt B (fun k => G k ∨ (w.heap.size ≤ k ∧ k < w'.heap.size)) w' q p D fr n hd nx ep := by
  refine ⟨(h.d.grow g (fun k hk => ⟨.inl (hr k hk).1, (hr k hk).2⟩)).mono (fun k r => by rcases r with (r | r) | r; exact .inl (.inl r); exact .inr r; exact .inl (.inr r)), h.c.of_block (g.block q h.c.lt (fun r => h.ng (hr q r.symm).1)), h.ge, fun r => ?_⟩
  rcases r with r | r
  · exact h.ng r
  · have := h.c.lt; omega
theorem Lg.grow (h : Lg B G w q p fr n hd nx ep all K) {row : Option Nat} (g : w.grownBy w' row) (hr : ∀ k, row = some k → G k ∧ B ≤ k) : Lg B (fun k => G k ∨ (w.heap.size ≤ k ∧ k < w'.heap.size)) w' q p fr n hd nx ep all K := by
  obtain ⟨D, h1, h2, h3, h4⟩ := h
  exact ⟨D, h1.grow g hr, h2, h3, h4⟩
/-- A row stays where its block stays. -/
theorem owns_keptG {base : Nat} {e : TypeId} {k n : Nat} {v : Value} {xs : List Value} (o : w.ownsRow base e k v n xs) (g : KeptG (fun b => v.ownBlock = some b) w w') : w'.ownsRow base e k v n xs := by
  refine ⟨o.1, ?_⟩
  rcases o.2 with r | ⟨g', cap, cur, hv, hg, hh, r⟩
  · exact .inl r
  · exact .inr ⟨g', cap, cur, hv, hg, by rw [g g' (by rw [hv]; rfl)]; exact hh, r⟩
theorem row_liesK {base : Nat} {e : TypeId} {k n c : Nat} {a : Option Addr} {xs : List Value} (h : w.ownsRow base e k (.slice a n c) n xs) : LiesAt w a xs := by
  obtain ⟨a', c', hv, hl, _⟩ := own_formK h
  obtain ⟨rfl, _⟩ : a = a' ∧ c = c' := by simpa using hv
  exact hl
theorem Lg.limit (h : Lg B G w q p fr n hd nx ep all K) {K' : Nat} (hK : K ≤ K') : Lg B G w q p fr n hd nx ep all K' := by
  obtain ⟨D, h1, h2, h3, h4⟩ := h
  exact ⟨D, h1, h2, ⟨h3.on, h3.lit, h3.waits, Nat.le_trans h3.deeds hK⟩, h4⟩
/-- May these be put, with numbers that are small? -/
theorem grOk_of {nx : Nat} {ep : Int} {c : List Chg} (h0 : nx + c.length < 4294967296) (e0 : 0 ≤ ep) (e1 : ep < 4294967296) (hc : ∀ x ∈ c, numI x.c = true ∧ numI x.v = true) : grOk nx ep c = true := by
  have hN : ∀ x : Int, 0 ≤ x → x < 4294967296 → numI x = true := fun x a b => decide_eq_true ⟨a, b⟩
  rw [grOk, List.all_eq_true]
  intro g hg
  obtain ⟨j, hj, rfl⟩ := List.getElem_of_mem hg
  obtain ⟨h1, h2, h3⟩ := gr_get (nx := nx) (ep := ep) (c := c) (by omega) (List.getElem?_eq_getElem hj)
  have hl : numI (groupL nx ep c)[j].l = true := by rw [h1]; exact hN _ (by omega) (by omega)
  have he : numI (groupL nx ep c)[j].e = true := by rw [h2]; exact hN _ e0 e1
  rcases Nat.lt_or_ge j c.length with r | r
  · have hx : (groupL nx ep c)[j] = gEnt nx ep j c[j] := by
      have h4 : (groupL (nx : Int) ep c)[j]? = some (gEnt nx ep j c[j]) := by
        rw [groupL, List.getElem?_append_left (by rw [gHead_len]; exact r), gHead, List.getElem?_mapIdx, List.getElem?_eq_getElem r]
        rfl
      rw [List.getElem?_eq_getElem hj] at h4
      exact Option.some.inj h4
    obtain ⟨c1, c2⟩ := hc c[j] (List.getElem_mem r)
    rw [hx] at hl he ⊢
    simp only [entOk, hl, he, Bool.and_true]
    simp [gEnt, c1, c2]
  · obtain rfl : j = c.length := by omega
    have hx : (groupL nx ep c)[c.length] = gEnd nx ep c.length := by
      have h4 : (groupL (nx : Int) ep c)[c.length]? = some (gEnd nx ep c.length) := by
        rw [groupL, List.getElem?_append_right (by rw [gHead_len]; exact Nat.le_refl _), gHead_len, Nat.sub_self]
        rfl
      rw [List.getElem?_eq_getElem hj] at h4
      simpa using h4
    rw [hx] at hl he ⊢
    simp only [entOk, hl, he, Bool.and_true]
    have c1 : numI (gEnd nx ep c.length).c = true := hN _ (by simp [gEnd]) (by simp [gEnd]; omega)
    have c2 : numI (gEnd nx ep c.length).v = true := hN 0 (by omega) (by omega)
    rw [c1, c2]
    simp [gEnd]
end
/-- append of a row of whatever length: where the news lie. -/
theorem wpList_append_rowF {P : Program} {ops : Array Oper} {rest : List Oper} {o : Oper} {ac : Act} {w : World} {Q : Exit → Act → World → Prop} (hgd : o.guard = none) (s x : Operand) (t : TypeId)
    (ho : o.op = .call { callee := .builtin .append, args := #[s, x], argTypes := #[t, t] })
    (base : Nat) (e : TypeId) (i : TypeInfo) (z : Value) (size bytes : Nat) (ht : P.underlying t = some (.slice e)) (hi : P.info? e = some i) (hz : i.zero = some z)
    (hsize : i.size = size) (hby : i.bytes = bytes) (hzs : z.cells.size = size) (hsz : 0 < size)
    (v : Value) (n : Nat) (xs : List Value) (hs : ac.eval s = v) (hown : w.ownsRow base e size v n xs)
    (a : Option Addr) (m c : Nat) (news : List Value) (hx : ac.eval x = .slice a m c) (hl : news.length = m * size) (hnews : LiesAt w a news) (h1 : ∀ u ∈ news, u.oneCell' = true)
    (h63 : n + m ≤ maxLen) (hbytes : (n + m) * bytes ≤ 140737488355328) (hbase : base ≤ w.heap.size)
    (h : ∀ v' w', w'.ownsRow base e size v' (n + m) (xs ++ news) → w.grownBy w' v.ownBlock → (∀ b, v'.ownBlock = some b → v.ownBlock = some b ∨ (w.heap.size ≤ b ∧ b < w'.heap.size)) → wpList P ops Q rest (ac.put o.dst v') w') : wpList P ops Q (o :: rest) ac w := by
  rcases Nat.eq_zero_or_pos m with h0 | h0
  · subst h0
    have hnn : news = [] := List.eq_nil_of_length_eq_zero (by simpa using hl)
    subst hnn
    refine wpList_append_run hgd s x t t ho v (.slice a 0 c) v hs hx ?_ (h v w (by simpa using hown) (grown_refl _ _) (fun b hb => .inl hb))
    rcases hown.2 with ⟨q, _⟩ | ⟨g, cap, cur, q, _, _, hc, _⟩
    · rw [q]; exact run_append_nil_zero w t o.type e i ht hi a c
    · rw [q]; exact Bk.run_append_zero w t o.type e i ht hi _ n cap hc a c
  · have h0c : 0 < news.length := by rw [hl]; exact Nat.mul_pos h0 hsz
    obtain ⟨b, rfl, _, _⟩ := hnews 0 _ (List.getElem?_eq_getElem h0c)
    refine wpList_append_lies w hgd s x t ho base e i z size bytes ht hi hz hsize hby hzs hsz v n xs hs hown b m c news hx hl (fun j u hu => by
      obtain ⟨b', hb, _, hc⟩ := hnews j u hu
      obtain rfl : b = b' := by simpa using hb
      exact hc) h1 h0 h63 hbytes hbase _ rfl ?_
    intro g cap w' ho' hg' hat hlt
    refine h _ w' ho' hg' (fun b hb => ?_)
    obtain rfl : g = b := by simpa [Value.ownBlock] using hb
    rcases hat with q | q
    · exact .inl q
    · exact .inr ⟨by rw [q]; exact Nat.le_refl _, hlt⟩
end Go.Proofs.YtbcdmcafobjpcaaGreatDoor
