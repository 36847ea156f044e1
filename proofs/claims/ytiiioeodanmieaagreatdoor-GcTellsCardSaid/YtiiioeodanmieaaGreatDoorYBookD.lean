import Derived.Test.YtiiioeodanmieaaGreatDoorYBookC
set_option linter.unusedVariables false
set_option linter.unusedSimpArgs false
-- BookGrow
namespace Go.Proofs.YtiiioeodanmieaaGreatDoor.Bk
open Go.RowKit

def Grew (w w' : World) (v : Value) (n g cap : Nat) : Prop := (v = .slice (some ⟨g, 0, none⟩) n cap ∧ w.grownBy w' (some g)) ∨ (w.heap.size ≤ g ∧ w.grownBy w' none)
theorem run_append_two {P : Program} (w : World) (t ty : TypeId) (base : Nat) (e : TypeId) (i : TypeInfo) (z : Value) (bytes : Nat) (ht : P.underlying t = some (.slice e)) (hi : P.info? e = some i) (hz : i.zero = some z)
    (hsize : i.size = 1) (hby : i.bytes = bytes) (hzs : z.cells.size = 1)
    (v : Value) (n : Nat) (xs : List Value) (hown : w.ownsRow base e 1 v n xs)
    (ad : Addr) (m c : Nat) (news : List Value) (hl : news.length = m * 1) (hnews : ∀ j u, news[j]? = some u → w.cell? (ad.add j) = some u) (h1 : ∀ u ∈ news, u.oneCell' = true)
    (hm : 0 < m) (h63 : n + m ≤ maxLen) (hbytes : (n + m) * bytes ≤ 140737488355328) (hbase : base ≤ w.heap.size) :
    ∃ g cap w', (Builtin.append_ #[t, t] ty #[v, .slice (some ad) m c]).run P w = .ok (.slice (some ⟨g, 0, none⟩) (n + m) cap) w' ∧
      w'.ownsRow base e 1 (.slice (some ⟨g, 0, none⟩) (n + m) cap) (n + m) (xs ++ news) ∧ Grew w w' v n g cap ∧ base ≤ g ∧ g < w'.heap.size := by
  obtain ⟨g, cap, w', hr, h2, h3, h4, h5⟩ := run_append_lies (P := P) w t ty base e i z 1 bytes ht hi hz hsize hby hzs (by omega) v n xs hown ad m c news hl hnews h1 hm h63 hbytes hbase _ rfl
  have hbg : base ≤ g := (h2.lt g rfl).1
  rcases hown.2 with ⟨hv, hn⟩ | ⟨g0, cap0, cur, hv, hb0, hh, hnc, hcm, hcs, htk⟩
  · refine ⟨g, cap, w', hr, h2, .inr ⟨?_, ?_⟩, hbg, h5⟩
    · rcases h4 with q | q
      · rw [hv] at q; cases q
      · omega
    · rw [hv] at h3
      exact h3
  · by_cases hroom : n + m ≤ cap0
    · have hr2 := run_append_room (P := P) w t ty e i ht hi g0 n cap0 cur hh ad m c news (by rw [hsize]; exact hl) hnews h1 hroom (by rw [hsize, hl, hcs]; omega)
      rw [← hv, hr] at hr2
      obtain ⟨rfl, rfl⟩ : g = g0 ∧ cap = cap0 := by
        have := (Result.ok.inj hr2).1
        simpa using this
      refine ⟨g, cap, w', hr, h2, .inl ⟨hv, ?_⟩, hbg, h5⟩
      rw [hv] at h3
      exact h3
    · have holds : ∀ j u, xs[j]? = some u → w.cell? ((⟨g0, 0, none⟩ : Addr).add j) = some u := hown.cells (g := g0) (by rw [hv]; rfl)
      obtain ⟨v', w2, hr2, r1, r2⟩ := run_append_arg_grows (P := P) w t ty e i z 1 bytes ht hi hz hsize hby hzs (by omega) ⟨g0, 0, none⟩ n cap0 xs hown.1 holds ad m c news hl hnews (by omega) h63 hbytes
      rw [← hv, hr] at hr2
      obtain ⟨e1, e2⟩ := Result.ok.inj hr2
      subst e2
      rw [← e1] at r1
      exact ⟨g, cap, w', hr, h2, .inr ⟨(r1.lt g rfl).1, r2⟩, hbg, h5⟩
theorem wpList_append_two {P : Program} {ops : Array Oper} {rest : List Oper} {o : Oper} {a : Act} {w : World} {Q : Exit → Act → World → Prop} (hgd : o.guard = none) (s x : Operand) (t : TypeId)
    (ho : o.op = .call { callee := .builtin .append, args := #[s, x], argTypes := #[t, t] })
    (base : Nat) (e : TypeId) (i : TypeInfo) (z : Value) (bytes : Nat) (ht : P.underlying t = some (.slice e)) (hi : P.info? e = some i) (hz : i.zero = some z)
    (hsize : i.size = 1) (hby : i.bytes = bytes) (hzs : z.cells.size = 1)
    (v : Value) (n : Nat) (xs : List Value) (hs : a.eval s = v) (hown : w.ownsRow base e 1 v n xs)
    (ad : Addr) (m c : Nat) (news : List Value) (hx : a.eval x = .slice (some ad) m c) (hl : news.length = m * 1) (hnews : ∀ j u, news[j]? = some u → w.cell? (ad.add j) = some u) (h1 : ∀ u ∈ news, u.oneCell' = true)
    (hm : 0 < m) (h63 : n + m ≤ maxLen) (hbytes : (n + m) * bytes ≤ 140737488355328) (hbase : base ≤ w.heap.size)
    (h : ∀ g cap w', w'.ownsRow base e 1 (.slice (some ⟨g, 0, none⟩) (n + m) cap) (n + m) (xs ++ news) → Grew w w' v n g cap → base ≤ g → g < w'.heap.size → wpList P ops Q rest (a.put o.dst (.slice (some ⟨g, 0, none⟩) (n + m) cap)) w') : wpList P ops Q (o :: rest) a w := by
  obtain ⟨g, cap, w', hr, h2, h3, h4, h5⟩ := run_append_two (P := P) w t o.type base e i z bytes ht hi hz hsize hby hzs v n xs hown ad m c news hl hnews h1 hm h63 hbytes hbase
  exact wpList_append_run hgd s x t t ho v (.slice (some ad) m c) _ hs hx hr (h g cap w' h2 h3 h4 h5)
theorem owns_head {w : World} {base : Nat} {e : TypeId} {g n m c : Nat} {xs ys : List Value} (h : w.ownsRow base e 1 (.slice (some ⟨g, 0, none⟩) m c) m ys) (hn : n ≤ m) (hx : ys.take n = xs) : w.ownsRow base e 1 (.slice (some ⟨g, 0, none⟩) n c) n xs := by
  rcases h.2 with ⟨q, _⟩ | ⟨g', cap, cur, hv, hg, hh, h1, h2, h3, h4⟩
  · cases q
  · obtain ⟨rfl, rfl⟩ : g = g' ∧ c = cap := by simpa using hv
    refine ⟨by rw [← hx, List.length_take, h.1]; omega, .inr ⟨g, c, cur, rfl, hg, hh, by omega, h2, h3, ?_⟩⟩
    rw [← hx, ← h4, List.take_take]
    congr 1
    omega
end Go.Proofs.YtiiioeodanmieaaGreatDoor.Bk
-- BookGrows
namespace Go.Proofs.YtiiioeodanmieaaGreatDoor.Bk
open Go.RowKit

structure GrowInts (w wr : World) (base p : Nat) (L : List IL) (C : Nat → List Int) (N : Nat) (Lo : List IL) (vo : Value) : Prop where
  below : Below base w wr
  turn : Turn w wr p (fun _ => False) (OfType w 3)
  book : BookB wr p
  held : HeldInts wr base p L C
  out : wr.ownsRow w.heap.size 25 1 vo Lo.length (Lo.map IL.cell)
  lo : ∀ (i : Nat) (y : IL), Lo[i]? = some y → wr.ownsRow base 3 1 y.cell y.l.length (vals y.l) ∧ y.l = marksI (i : Int) 0 y.l.length ∧ y.l.length ≤ 2000 ∧ (∀ g, y.cell.ownBlock = some g → g < N ∧ ∀ (j : Nat) (x : IL), i ≠ j → L[j]? = some x → x.cell.ownBlock ≠ some g)
  N : w.heap.size ≤ N ∧ N ≤ wr.heap.size
theorem GrowInts.next {w wr w' : World} {base p N : Nat} {L Lo : List IL} {C : Nat → List Int} {vo : Value} (h : GrowInts w wr base p L C N Lo vo) (hp : base ≤ p) (b : Below wr.heap.size wr w') : GrowInts w w' base p L C N Lo vo :=
  ⟨h.below.trans (b.mono (Nat.le_trans hp (Nat.le_of_lt h.book.lt))), h.turn.trans (Turn.of_below b h.book.lt), book_of_block (b.block p h.book.lt) h.book, h.held.below h.book b, own_below h.out b,
    fun i y hy => ⟨own_below (h.lo i y hy).1 b, (h.lo i y hy).2⟩, ⟨h.N.1, Nat.le_trans h.N.2 b.size⟩⟩
theorem GrowInts.grown {w wr w' : World} {base p N g : Nat} {L Lo : List IL} {C : Nat → List Int} {vo : Value} (h : GrowInts w wr base p L C N Lo vo) (hp : base ≤ p) (hg : wr.grownBy w' (some g)) (c1 : g ≠ p) (c2 : OfType w 3 g ∨ w.heap.size ≤ g) (c3 : base ≤ g)
    (c4 : ∀ (i : Nat) (x : IL), L[i]? = some x → w'.ownsRow base 3 1 x.cell x.l.length (vals (C i))) (c5 : OfType wr 3 g) (c6 : ∀ (i : Nat) (y : IL), Lo[i]? = some y → y.cell.ownBlock ≠ some g) : GrowInts w w' base p L C N Lo vo := by
  have hpl := h.book.lt
  have t := h.turn.more hg hpl (fun g' e => by
    obtain rfl : g = g' := by simpa using e
    exact ⟨c1, c2⟩)
  obtain ⟨ao, co, e0, o0⟩ := h.held.ex
  have nO : ∀ {b v m cs}, wr.ownsRow b 25 1 v m cs → ∀ g', v.ownBlock = some g' → some g ≠ some g' := fun ho g' e q => by
    obtain rfl : g = g' := by simpa using q
    exact not_type ho (show 25 ≠ 3 by decide) e c5
  have hbp : w'.heap[p]? = wr.heap[p]? := grown_block hg hpl (fun e => c1 (by simpa using e))
  refine ⟨h.below.grown hg (Nat.le_trans hp (Nat.le_of_lt hpl)) (fun k hk => by
      obtain rfl : g = k := by simpa using hk
      exact c3), t, book_of_block hbp h.book, ⟨⟨ao, co, (World.cell?_of_block (w := wr) (a := ⟨p, 2, none⟩) hbp).trans e0, owns_grown o0 hg (nO o0)⟩, c4, h.held.apart, h.held.small⟩, owns_grown h.out hg (nO h.out), fun i y hy => ⟨owns_grown (h.lo i y hy).1 hg (fun g' e q => ?_), (h.lo i y hy).2⟩, ⟨h.N.1, Nat.le_trans h.N.2 hg.size⟩⟩
  obtain rfl : g = g' := by simpa using q
  exact c6 i y hy e
theorem GrowInts.step {w wr w' : World} {base p N g cap k q m cl : Nat} {al : Option Addr} {L Lo : List IL} {C C0 : Nat → List Int} {vo : Value} {x : IL} {xs ys : List Int} (h : GrowInts w wr base p L C N Lo vo) (hp : base ≤ p) (hw : HeldInts w base p L C0)
    (hx : L[k]? = some x) (hk : k = Lo.length) (hv : wr.ownsRow base 3 1 (.slice al q cl) q (vals xs)) (hq : x.l.length ≤ q) (hblk : (al = x.a ∧ cl = x.c) ∨ ∀ g', Value.ownBlock (.slice al q cl) = some g' → N ≤ g')
    (hgr : Grew wr w' (.slice al q cl) q g cap) (hown : w'.ownsRow base 3 1 (.slice (some ⟨g, 0, none⟩) (q + m) cap) (q + m) (vals ys)) (hys : ys.take x.l.length = C k) :
    GrowInts w w' base p L C N Lo vo ∧ ((some ⟨g, 0, none⟩ = x.a ∧ cap = x.c) ∨ ∀ g', Value.ownBlock (.slice (some ⟨g, 0, none⟩) (q + m) cap) = some g' → N ≤ g') := by
  rcases hgr with ⟨e, hg⟩ | ⟨e, hg⟩
  · obtain ⟨rfl, rfl⟩ : al = some ⟨g, 0, none⟩ ∧ cl = cap := by simpa using e
    have c5 : OfType wr 3 g := by
      obtain ⟨cur, hh⟩ := own_type hv rfl
      exact ⟨cur, _, hh⟩
    have c1 : g ≠ p := not_book h.book hv (by decide) rfl
    have c3 : base ≤ g := (hv.lt g rfl).1
    rcases hblk with ⟨b1, b2⟩ | hN
    · have hxg : x.cell.ownBlock = some g := by rw [IL.cell, ← b1]; rfl
      have c2 : OfType w 3 g := by
        obtain ⟨cur, hh⟩ := own_type (hw.each k x hx) hxg
        exact ⟨cur, _, hh⟩
      refine ⟨h.grown hp hg c1 (.inl c2) c3 (fun i y hy => ?_) c5 (fun i y hy => ?_), .inl ⟨b1, b2⟩⟩
      · by_cases hi : i = k
        · subst hi
          obtain rfl : x = y := by rw [hx] at hy; simpa using hy
          rw [IL.cell, ← b1, ← b2]
          exact owns_head hown (by omega) (by rw [← hys]; simp [vals])
        · exact owns_grown (h.held.each i y hy) hg (fun g' e q => by
            obtain rfl : g = g' := by simpa using q
            exact h.held.apart i k y x hi hy hx g e hxg)
      · intro e
        have hne : i ≠ k := by have := (List.getElem?_eq_some_iff.1 hy).1; omega
        exact ((h.lo i y hy).2.2.2 g e).2 k x hne hx hxg
    · have hNg := hN g rfl
      have hN0 := h.N.1
      refine ⟨h.grown hp hg c1 (.inr (by omega)) c3 (fun i y hy => ?_) c5 (fun i y hy e => ?_), .inr hN⟩
      · exact owns_grown (h.held.each i y hy) hg (fun g' e q => by
          obtain rfl : g = g' := by simpa using q
          have := ((hw.each i y hy).lt g e).2
          omega)
      · have := ((h.lo i y hy).2.2.2 g e).1
        omega
  · refine ⟨h.next hp (below_none hg), .inr (fun g' e' => ?_)⟩
    obtain rfl : g = g' := by simpa [Value.ownBlock] using e'
    exact Nat.le_trans h.N.2 e
theorem GrowInts.push {w wr w' : World} {base p N g cap : Nat} {L Lo : List IL} {C C0 : Nat → List Int} {vo : Value} {x y : IL} (h : GrowInts w wr base p L C N Lo vo) (hp : base ≤ p) (hw : HeldInts w base p L C0) (hwb : BookB w p) (hx : L[Lo.length]? = some x)
    (hy : wr.ownsRow base 3 1 y.cell y.l.length (vals y.l)) (hm : ∀ i, i = Lo.length → y.l = marksI (i : Int) 0 y.l.length) (hs : y.l.length ≤ 2000) (hblk : (y.a = x.a ∧ y.c = x.c) ∨ ∀ g', y.cell.ownBlock = some g' → N ≤ g')
    (hgr : Grew wr w' vo Lo.length g cap) (hown : w'.ownsRow w.heap.size 25 1 (.slice (some ⟨g, 0, none⟩) (Lo.length + 1) cap) (Lo.length + 1) (Lo.map IL.cell ++ [y.cell])) :
    GrowInts w w' base p L C w'.heap.size (Lo ++ [y]) (.slice (some ⟨g, 0, none⟩) (Lo.length + 1) cap) := by
  have hpl := h.book.lt
  have hsz : wr.heap.size ≤ w'.heap.size := by
    rcases hgr with ⟨_, q⟩ | ⟨_, q⟩ <;> exact q.size
  have hbw : base ≤ w.heap.size := Nat.le_trans hp (Nat.le_of_lt hwb.lt)
  have hrow : ∃ row, wr.grownBy w' row ∧ ∀ g', row = some g' → w.heap.size ≤ g' ∧ OfType wr 25 g' := by
    rcases hgr with ⟨e, q⟩ | ⟨_, q⟩
    · refine ⟨_, q, fun g' e' => ?_⟩
      obtain rfl : g = g' := by simpa using e'
      have hg : vo.ownBlock = some g := by rw [e]; rfl
      obtain ⟨cur, hh⟩ := own_type h.out hg
      exact ⟨(h.out.lt g hg).1, cur, _, hh⟩
    · exact ⟨_, q, fun g' e' => by cases e'⟩
  obtain ⟨row, hg, hr⟩ := hrow
  have nE : ∀ {v m cs}, wr.ownsRow base 3 1 v m cs → ∀ g', v.ownBlock = some g' → row ≠ some g' := fun ho g' e q => not_type ho (show 3 ≠ 25 by decide) e (hr g' q).2
  have hrp : ∀ g', row = some g' → g' ≠ p := fun g' e q => by
    have := (hr g' e).1
    have := hwb.lt
    omega
  have t := h.turn.more hg hpl (fun g' e => ⟨hrp g' e, .inr (hr g' e).1⟩)
  obtain ⟨ao, co, e0, o0⟩ := h.held.ex
  obtain ⟨ao', co', e0', o0'⟩ := hw.ex
  have hbp : w'.heap[p]? = wr.heap[p]? := grown_block hg hpl (fun e => hrp p e rfl)
  have hsame : Value.slice ao L.length co = .slice ao' L.length co' := by
    have := (h.turn.cell 2 id)
    rw [e0, e0'] at this
    simpa using this
  refine ⟨h.below.grown hg (Nat.le_trans hbw h.turn.size) (fun k hk => Nat.le_trans hbw (hr k hk).1), t, book_of_block hbp h.book, ⟨⟨ao, co, (World.cell?_of_block (w := wr) (a := ⟨p, 2, none⟩) hbp).trans e0, owns_grown o0 hg (fun g' e q => ?_)⟩, fun i z hz => owns_grown (h.held.each i z hz) hg (nE (h.held.each i z hz)), h.held.apart, h.held.small⟩, ?_, fun i z hz => ?_, ⟨Nat.le_trans h.turn.size hsz, Nat.le_refl _⟩⟩
  · rw [hsame] at e
    have := (o0'.lt g' e).2
    have := (hr g' q).1
    omega
  · simpa using hown
  · rcases Nat.lt_or_ge i Lo.length with e | e
    · rw [List.getElem?_append_left e] at hz
      obtain ⟨z1, z2, z3, z4⟩ := h.lo i z hz
      exact ⟨owns_grown z1 hg (nE z1), z2, z3, fun g' hg' => ⟨Nat.lt_of_lt_of_le (z1.lt g' hg').2 hsz, (z4 g' hg').2⟩⟩
    · rw [List.getElem?_append_right e] at hz
      have hi : i = Lo.length := by have := (List.getElem?_eq_some_iff.1 hz).1; simp at this; omega
      subst hi
      obtain rfl : y = z := by simpa using hz
      refine ⟨owns_grown hy hg (nE hy), hm _ rfl, hs, fun g' hg' => ⟨Nat.lt_of_lt_of_le (hy.lt g' hg').2 hsz, fun j u hj hu hug => ?_⟩⟩
      rcases hblk with ⟨b1, b2⟩ | hN
      · have hxg : x.cell.ownBlock = some g' := by
          rw [IL.cell, ← b1]
          rw [IL.cell] at hg'
          cases hya : y.a with
          | none => rw [hya] at hg'; cases hg'
          | some b => rw [hya] at hg'; exact hg'
        exact hw.apart Lo.length j x u hj hx hu g' hxg hug
      · have h1 := hN g' hg'
        have h2 := ((hw.each j u hu).lt g' hug).2
        have h3 := h.N.1
        omega
end Go.Proofs.YtiiioeodanmieaaGreatDoor.Bk
-- BookGrowW
namespace Go.Proofs.YtiiioeodanmieaaGreatDoor.Bk
open Go.RowKit

theorem marks_addInts (k n m : Nat) : marksI (k : Int) 0 (n + m) = marksI (k : Int) 0 n ++ marksI (k : Int) n m := by
  induction m with
  | zero => rw [Nat.add_zero, show marksI (k : Int) n 0 = [] from rfl, List.append_nil]
  | succ m ih => 
    first
      | rw [← Nat.add_assoc, marksT_snoc, ih, marksT_snoc, List.append_assoc, Nat.zero_add]
      | rw [← Nat.add_assoc, marksI_snoc, ih, marksI_snoc, List.append_assoc, Nat.zero_add]
theorem marks_takeInts (k n m : Nat) : (marksI (k : Int) 0 (n + m)).take n = marksI (k : Int) 0 n := by
  rw [marks_addInts, List.take_left' (by first | rw [marksT_len] | rw [marksI_len])]
theorem enc_addInts (a b : List Int) : vals (a ++ b) = vals a ++ vals b := by simp [vals]
theorem grow_startInts {w : World} {base p : Nat} {L : List IL} {C : Nat → List Int} (hb : BookB w p) (h : HeldInts w base p L C) : GrowInts w w base p L C w.heap.size [] (.slice none 0 0) :=
  ⟨Below.refl _ _, Turn.refl _ _ _ _, hb, h, World.ownsRow_nil _ _ _ _, fun i y hy => by simp at hy, ⟨Nat.le_refl _, Nat.le_refl _⟩⟩

set_option maxRecDepth 100000 in
set_option maxHeartbeats 4000000 in
theorem growInts_is (base p : Nat) (L : List IL) (C : Nat → List Int) (w : World) (hb : BookB w p) (hp : base ≤ p) (h : HeldInts w base p L C) (hC : ∀ (k : Nat) (x : IL), L[k]? = some x → C k = marksI (k : Int) 0 x.l.length) (hL : L.length ≤ 200) :
    Calls Tryz.prog 88 #[.pointer (some ⟨p, 0, none⟩)] w fun e w' => ∃ N Lo vo, e = .returned vo ∧ Lo.length = L.length ∧ GrowInts w w' base p L C N Lo vo := by
  obtain ⟨i0, hi, hz0, hz1, hz2⟩ := info_parts outInfoInts
  have HI := Lib.hid (And.intro hi (And.intro hz0 (And.intro hz1 hz2)))
  clear hi hz0 hz1 hz2
  obtain ⟨i1, hi, hz0, hz1, hz2⟩ := info_parts intInfo
  have HJ := Lib.hid (And.intro hi (And.intro hz0 (And.intro hz1 hz2)))
  clear hi hz0 hz1 hz2
  have HS := Lib.hid (grow_startInts hb h)
  have HB := Lib.hid (And.intro hb (And.intro h hC))
  have hLi : (L.length : Int) ≤ 200 := by omega
  clear h hb hC
  go_enter Tryz.func88, Tryz.ntmps88
  go_wp2
  go_loopw [3, 4] (fun ov i wr => ∃ (k N : Nat) (Lo : List IL), k ≤ L.length ∧ i = .int .i64 (k : Int) ∧ Hid (Lo.length = k ∧ GrowInts w wr base p L C N Lo ov)) (fun _ i _ => L.length - (intOf i).toNat)
  case atStart => exact ⟨0, _, [], Nat.zero_le _, rfl, Lib.hid ⟨rfl, HS.out⟩⟩
  case round =>
    obtain ⟨k, N, Lo, hk, rfl, HP⟩ := hrel
    obtain ⟨ao, co, c0, o0⟩ := HP.out.2.held.ex
    by_cases hlt : k < L.length
    · have hx : L[k]? = some L[k] := List.getElem?_eq_getElem hlt
      obtain ⟨go, co', hv, _, _, hgo⟩ := own_blk o0 (by omega)
      obtain ⟨rfl, rfl⟩ : ao = some ⟨go, 0, none⟩ ∧ co = co' := by simpa using hv
      have r0 := (owns_cell o0 (k := k) (x := L[k].cell) (by rw [List.getElem?_map, hx]; rfl)).1
      have hsm := HP.out.2.held.small _ (List.getElem_mem hlt)
      have hCk := HB.out.2.2 k _ hx
      generalize L[k] = x at *
      have r1 : wr.cell? ⟨go, k, none⟩ = some (.slice x.a x.l.length x.c) := r0
      have hi1 : (k : Int) < (L.length : Int) := by omega
      have hk1 : (k : Int) ≤ 1000 := by omega
      have HQ := Lib.hid (And.intro hx hCk)
      have HR : Hid (GrowInts w wr base p L C N Lo u3 ∧ wr.ownsRow base 3 1 (.slice x.a (x.l.length + 0) x.c) (x.l.length + 0) (vals (marksI (k : Int) 0 (x.l.length + 0))) ∧ ((x.a = x.a ∧ x.c = x.c) ∨ ∀ g', Value.ownBlock (.slice x.a (x.l.length + 0) x.c) = some g' → N ≤ g')) := Lib.hid ⟨HP.out.2, by
        have := HP.out.2.held.each k x hx
        rw [hCk] at this
        exact this, .inl ⟨rfl, rfl⟩⟩
      have HK := Lib.hid HP.out.1
      clear hx r0 hv o0 HP hCk
      go_wp2
      go_loopw [5, 6] (fun lv i wx => ∃ (q s cl : Nat) (al : Option Addr), q ≤ 12 ∧ s ≤ 1012 ∧ Hid (s = x.l.length + q) ∧ i = .int .i64 (q : Int) ∧ lv = .slice al s cl ∧ Hid (GrowInts w wx base p L C N Lo u3 ∧ wx.ownsRow base 3 1 (.slice al s cl) s (vals (marksI (k : Int) 0 s)) ∧ ((al = x.a ∧ cl = x.c) ∨ ∀ g', Value.ownBlock (.slice al s cl) = some g' → N ≤ g'))) (fun _ i _ => 12 - (intOf i).toNat)
      case atStart => exact ⟨0, x.l.length, x.c, x.a, Nat.zero_le _, by omega, Lib.hid rfl, rfl, rfl, Lib.hid ⟨HR.out.1, HR.out.2.1, .inl ⟨rfl, rfl⟩⟩⟩
      case round =>
        obtain ⟨q, s, cl, al, hq, hs1, hs2, rfl, rfl, HT⟩ := hrel
        have hsi : (s : Int) ≤ 1012 := by omega
        by_cases hq12 : q < 12
        · have hi2 : (q : Int) < 12 := by omega
          have hbs := HT.out.1.book.lt
          go_wp2_with (first
            | (go_at_call 141
               refine (markInts_is (k : Int) s 1 _ (by omega) hk1 (by omega) (by decide)).mono ?_
               rintro e w2 ⟨vm, rfl, b2, o2⟩
               obtain ⟨gm, cm, rfl, _⟩ := own_blk o2 (by omega)
               have H2 := Lib.hid (And.intro b2 o2)
               clear b2 o2)
            | (refine wpList_append_two rfl (.tmp 27) (.tmp 31) 25 rfl base 3 i1 _ 8 Tryz.underlying25 HJ.out.1 HJ.out.2.1 HJ.out.2.2.1 HJ.out.2.2.2 rfl (.slice al s cl) s (vals (marksI (k : Int) 0 s)) rfl (own_below HT.out.2.1 H2.out.1) _ 1 cm (vals (marksI (k : Int) s 1)) rfl (by first | rw [vals_len', marksT_len] | rw [vals_len', marksI_len]) (H2.out.2.cells (g := gm) rfl) vals_one (by omega) (by unfold maxLen; omega) (by omega) (by have := H2.out.1.size; omega) ?_
               intro g cap w4 hown4 hgr4 hb4 hlt4
               have H4 := Lib.hid (And.intro hown4 hgr4)
               clear hown4 hgr4 hb4 hlt4))
          have HN : Hid (GrowInts w w4 base p L C N Lo u3 ∧ w4.ownsRow base 3 1 (.slice (some ⟨g, 0, none⟩) (s + 1) cap) (s + 1) (vals (marksI (k : Int) 0 (s + 1))) ∧ ((some ⟨g, 0, none⟩ = x.a ∧ cap = x.c) ∨ ∀ g', Value.ownBlock (.slice (some ⟨g, 0, none⟩) (s + 1) cap) = some g' → N ≤ g')) := Lib.hid (by
            have ho := H4.out.1
            rw [← enc_addInts, ← marks_addInts] at ho
            obtain ⟨n1, n2⟩ := (HT.out.1.next hp H2.out.1).step hp HB.out.2.1 HQ.out.1 HK.out.symm (own_below HT.out.2.1 H2.out.1) (by have := hs2.out; omega) HT.out.2.2 H4.out.2 ho (by
              rw [hs2.out, Nat.add_assoc, marks_takeInts]
              exact HQ.out.2.symm)
            exact ⟨n1, ho, n2⟩)
          exact ⟨⟨q + 1, s + 1, cap, some ⟨g, 0, none⟩, by omega, by have := hs2.out; omega, Lib.hid (by have := hs2.out; omega), by go_num, rfl, HN⟩, by simp [intOf]; omega⟩
        · obtain rfl : q = 12 := by omega
          have hn2 : ¬ (12 : Int) < 12 := by omega
          have hbs := HT.out.1.book.lt
          have hLo := HK.out
          go_wp2_with (first
            | (go_at_call 141
               refine (markInts_is (k : Int) s 60 _ (by omega) hk1 (by omega) (by decide)).mono ?_
               rintro e w2 ⟨vm, rfl, b2, o2⟩
               obtain ⟨gm, cm, rfl, _⟩ := own_blk o2 (by omega)
               have H2 := Lib.hid (And.intro b2 o2)
               clear b2 o2)
            | (refine wpList_append_two rfl (.tmp 34) (.tmp 38) 25 rfl base 3 i1 _ 8 Tryz.underlying25 HJ.out.1 HJ.out.2.1 HJ.out.2.2.1 HJ.out.2.2.2 rfl (.slice al s cl) s (vals (marksI (k : Int) 0 s)) rfl (own_below HT.out.2.1 H2.out.1) _ 60 cm (vals (marksI (k : Int) s 60)) rfl (by first | rw [vals_len', marksT_len] | rw [vals_len', marksI_len]) (H2.out.2.cells (g := gm) rfl) vals_one (by omega) (by unfold maxLen; omega) (by omega) (by have := H2.out.1.size; omega) ?_
               intro g cap w4 hown4 hgr4 hb4 hlt4
               have hsz4 : w.heap.size ≤ w4.heap.size := by
                 have h1 := HT.out.1.N
                 have h2 := H2.out.1.size
                 rcases hgr4 with ⟨_, e⟩ | ⟨_, e⟩
                 · have := e.size; omega
                 · have := e.size; omega
               have HG : Hid (GrowInts w w4 base p L C N Lo u3 ∧ w4.ownsRow base 3 1 (.slice (some ⟨g, 0, none⟩) (s + 60) cap) (s + 60) (vals (marksI (k : Int) 0 (s + 60))) ∧ ((some ⟨g, 0, none⟩ = x.a ∧ cap = x.c) ∨ ∀ g', Value.ownBlock (.slice (some ⟨g, 0, none⟩) (s + 60) cap) = some g' → N ≤ g')) := Lib.hid (by
                 have ho := hown4
                 rw [← enc_addInts, ← marks_addInts] at ho
                 obtain ⟨n1, n2⟩ := (HT.out.1.next hp H2.out.1).step hp HB.out.2.1 HQ.out.1 HK.out.symm (own_below HT.out.2.1 H2.out.1) (by have := hs2.out; omega) HT.out.2.2 hgr4 ho (by
                   rw [hs2.out, Nat.add_assoc, marks_takeInts]
                   exact HQ.out.2.symm)
                 exact ⟨n1, ho, n2⟩)
               clear hown4 hgr4 hb4 hlt4)
            | (refine wpList_append_two rfl (.tmp 33) (.tmp 40) 35 rfl w.heap.size 25 i0 _ 24 Tryz.underlying35 HI.out.1 HI.out.2.1 HI.out.2.2.1 HI.out.2.2.2 rfl u3 Lo.length (Lo.map IL.cell) rfl (HG.out.1.out.alloc _) _ 1 1 [.slice (some ⟨g, 0, none⟩) (s + 60) cap] rfl rfl (by exact World.news_of_block (heap_alloc_last _ _)) (by intro u hu; simp at hu; rw [hu]; rfl) (by omega) (by unfold maxLen; omega) (by omega) (by simp; omega) ?_
               intro g6 cap6 w6 hown6 hgr6 hb6 hlt6
               have H6 := Lib.hid (And.intro hown6 hgr6)
               clear hown6 hgr6 hb6 hlt6))
          have HN : Hid (GrowInts w w6 base p L C w6.heap.size (Lo ++ [⟨some ⟨g, 0, none⟩, marksI (k : Int) 0 (s + 60), cap⟩]) (.slice (some ⟨g6, 0, none⟩) (Lo.length + 1) cap6)) := Lib.hid (by
            obtain ⟨n1, n2, n3⟩ := HG.out
            have ec : IL.cell ⟨some ⟨g, 0, none⟩, marksI (k : Int) 0 (s + 60), cap⟩ = .slice (some ⟨g, 0, none⟩) (s + 60) cap := by
              first
                | rw [IL.cell, marksT_len]
                | rw [IL.cell, marksI_len]
            have el : (IL.l ⟨some ⟨g, 0, none⟩, marksI (k : Int) 0 (s + 60), cap⟩).length = s + 60 := by
              first
                | exact marksT_len _ _ _
                | exact marksI_len _ _ _
            have ba := (Below.refl w4.heap.size w4).alloc (Nat.le_refl _) (.cells #[.slice (some ⟨g, 0, none⟩) (s + 60) cap] 25)
            refine (n1.next hp ba).push hp HB.out.2.1 HB.out.1 (by rw [HK.out]; exact HQ.out.1) (y := ⟨some ⟨g, 0, none⟩, marksI (k : Int) 0 (s + 60), cap⟩) ?_ ?_ ?_ ?_ H6.out.2 ?_
            · rw [ec, el]
              exact own_below n2 ba
            · intro i hi
              rw [el, hi, HK.out]
            · rw [el]; omega
            · rw [ec]; exact n3
            · rw [ec]; exact H6.out.1)
          exact ⟨⟨k + 1, w6.heap.size, Lo ++ [⟨some ⟨g, 0, none⟩, marksI (k : Int) 0 (s + 60), cap⟩], by omega, by go_num, Lib.hid ⟨by rw [List.length_append, HK.out]; rfl, by have h := HN.out; rw [HK.out] at h; exact h⟩⟩, by simp [intOf]; omega⟩
    · obtain rfl : k = L.length := by omega
      have hn : ¬ (L.length : Int) < (L.length : Int) := by omega
      clear hlt hk o0
      go_wp2
      go_ret
      exact ⟨N, Lo, _, rfl, HP.out.1, HP.out.2⟩
end Go.Proofs.YtiiioeodanmieaaGreatDoor.Bk
-- BookNil
namespace Go.Proofs.YtiiioeodanmieaaGreatDoor.Bk
open Go.RowKit

theorem stillTexts_nil (p : Nat) (w : World) (h : w.cell? ⟨p, 0, none⟩ = some (.slice none 0 0)) :
    Calls Tryz.prog 75 #[.pointer (some ⟨p, 0, none⟩)] w fun e w' => e = .returned (.bool true) ∧ w' = w := by
  go_enter Tryz.func75, Tryz.ntmps75
  go_wp2
  go_loop [3] (fun i => i = .int .i64 0) (fun _ => 0)
  case atStart => rfl
  case round =>
    subst hrel
    go_wp2
    go_ret
    exact ⟨rfl, rfl⟩
theorem putTexts_nil (p : Nat) (w : World) (h : w.cell? ⟨p, 0, none⟩ = some (.slice none 0 0)) :
    Calls Tryz.prog 82 #[.pointer (some ⟨p, 0, none⟩)] w fun e w' => e = .returned (.tuple #[]) ∧ w' = w := by
  go_enter Tryz.func82, Tryz.ntmps82
  go_wp2
  go_loop [2] (fun i => i = .int .i64 0) (fun _ => 0)
  case atStart => rfl
  case round =>
    subst hrel
    go_wp2
    exact bodyPost_end (results_none rfl _ _ _) rfl ⟨rfl, rfl⟩
theorem markedTexts_nil (w : World) :
    Calls Tryz.prog 93 #[.slice none 0 0] w fun e w' => e = .returned (.bool true) ∧ w' = w := by
  go_enter Tryz.func93, Tryz.ntmps93
  go_wp2
  go_loop [3] (fun i => i = .int .i64 0) (fun _ => 0)
  case atStart => rfl
  case round =>
    subst hrel
    go_wp2
    go_ret
    exact ⟨rfl, rfl⟩
theorem growTexts_nil (p : Nat) (w : World) (h : w.cell? ⟨p, 0, none⟩ = some (.slice none 0 0)) :
    Calls Tryz.prog 87 #[.pointer (some ⟨p, 0, none⟩)] w fun e w' => e = .returned (.slice none 0 0) ∧ w' = w := by
  go_enter Tryz.func87, Tryz.ntmps87
  go_wp2
  go_loop [3, 4] (fun o i => o = .slice none 0 0 ∧ i = .int .i64 0) (fun _ _ => 0)
  case atStart => exact ⟨rfl, rfl⟩
  case round =>
    obtain ⟨rfl, rfl⟩ := hrel
    go_wp2
    go_ret
    exact ⟨rfl, rfl⟩
theorem stillChanges_nil (p : Nat) (w : World) (h : w.cell? ⟨p, 4, none⟩ = some (.slice none 0 0)) :
    Calls Tryz.prog 77 #[.pointer (some ⟨p, 0, none⟩)] w fun e w' => e = .returned (.bool true) ∧ w' = w := by
  go_enter Tryz.func77, Tryz.ntmps77
  go_wp2
  go_loop [3] (fun i => i = .int .i64 0) (fun _ => 0)
  case atStart => rfl
  case round =>
    subst hrel
    go_wp2
    go_ret
    exact ⟨rfl, rfl⟩
theorem putChanges_nil (p : Nat) (w : World) (h : w.cell? ⟨p, 4, none⟩ = some (.slice none 0 0)) :
    Calls Tryz.prog 84 #[.pointer (some ⟨p, 0, none⟩)] w fun e w' => e = .returned (.tuple #[]) ∧ w' = w := by
  go_enter Tryz.func84, Tryz.ntmps84
  go_wp2
  go_loop [2] (fun i => i = .int .i64 0) (fun _ => 0)
  case atStart => rfl
  case round =>
    subst hrel
    go_wp2
    exact bodyPost_end (results_none rfl _ _ _) rfl ⟨rfl, rfl⟩
theorem markedChanges_nil (w : World) :
    Calls Tryz.prog 95 #[.slice none 0 0] w fun e w' => e = .returned (.bool true) ∧ w' = w := by
  go_enter Tryz.func95, Tryz.ntmps95
  go_wp2
  go_loop [3] (fun i => i = .int .i64 0) (fun _ => 0)
  case atStart => rfl
  case round =>
    subst hrel
    go_wp2
    go_ret
    exact ⟨rfl, rfl⟩
theorem growChanges_nil (p : Nat) (w : World) (h : w.cell? ⟨p, 4, none⟩ = some (.slice none 0 0)) :
    Calls Tryz.prog 89 #[.pointer (some ⟨p, 0, none⟩)] w fun e w' => e = .returned (.slice none 0 0) ∧ w' = w := by
  go_enter Tryz.func89, Tryz.ntmps89
  go_wp2
  go_loop [3, 4] (fun o i => o = .slice none 0 0 ∧ i = .int .i64 0) (fun _ _ => 0)
  case atStart => exact ⟨rfl, rfl⟩
  case round =>
    obtain ⟨rfl, rfl⟩ := hrel
    go_wp2
    go_ret
    exact ⟨rfl, rfl⟩
theorem stillEntries_nil (p : Nat) (w : World) (h : w.cell? ⟨p, 6, none⟩ = some (.slice none 0 0)) :
    Calls Tryz.prog 78 #[.pointer (some ⟨p, 0, none⟩)] w fun e w' => e = .returned (.bool true) ∧ w' = w := by
  go_enter Tryz.func78, Tryz.ntmps78
  go_wp2
  go_loop [3] (fun i => i = .int .i64 0) (fun _ => 0)
  case atStart => rfl
  case round =>
    subst hrel
    go_wp2
    go_ret
    exact ⟨rfl, rfl⟩
theorem putEntries_nil (p : Nat) (w : World) (h : w.cell? ⟨p, 6, none⟩ = some (.slice none 0 0)) :
    Calls Tryz.prog 85 #[.pointer (some ⟨p, 0, none⟩)] w fun e w' => e = .returned (.tuple #[]) ∧ w' = w := by
  go_enter Tryz.func85, Tryz.ntmps85
  go_wp2
  go_loop [2] (fun i => i = .int .i64 0) (fun _ => 0)
  case atStart => rfl
  case round =>
    subst hrel
    go_wp2
    exact bodyPost_end (results_none rfl _ _ _) rfl ⟨rfl, rfl⟩
theorem markedEntries_nil (w : World) :
    Calls Tryz.prog 96 #[.slice none 0 0] w fun e w' => e = .returned (.bool true) ∧ w' = w := by
  go_enter Tryz.func96, Tryz.ntmps96
  go_wp2
  go_loop [3] (fun i => i = .int .i64 0) (fun _ => 0)
  case atStart => rfl
  case round =>
    subst hrel
    go_wp2
    go_ret
    exact ⟨rfl, rfl⟩
theorem growEntries_nil (p : Nat) (w : World) (h : w.cell? ⟨p, 6, none⟩ = some (.slice none 0 0)) :
    Calls Tryz.prog 90 #[.pointer (some ⟨p, 0, none⟩)] w fun e w' => e = .returned (.slice none 0 0) ∧ w' = w := by
  go_enter Tryz.func90, Tryz.ntmps90
  go_wp2
  go_loop [3, 4] (fun o i => o = .slice none 0 0 ∧ i = .int .i64 0) (fun _ _ => 0)
  case atStart => exact ⟨rfl, rfl⟩
  case round =>
    obtain ⟨rfl, rfl⟩ := hrel
    go_wp2
    go_ret
    exact ⟨rfl, rfl⟩
theorem stillCodes_nil (p : Nat) (w : World) (h : w.cell? ⟨p, 8, none⟩ = some (.slice none 0 0)) :
    Calls Tryz.prog 79 #[.pointer (some ⟨p, 0, none⟩)] w fun e w' => e = .returned (.bool true) ∧ w' = w := by
  go_enter Tryz.func79, Tryz.ntmps79
  go_wp2
  go_loop [3] (fun i => i = .int .i64 0) (fun _ => 0)
  case atStart => rfl
  case round =>
    subst hrel
    go_wp2
    go_ret
    exact ⟨rfl, rfl⟩
theorem putCodes_nil (p : Nat) (w : World) (h : w.cell? ⟨p, 8, none⟩ = some (.slice none 0 0)) :
    Calls Tryz.prog 86 #[.pointer (some ⟨p, 0, none⟩)] w fun e w' => e = .returned (.tuple #[]) ∧ w' = w := by
  go_enter Tryz.func86, Tryz.ntmps86
  go_wp2
  go_loop [2] (fun i => i = .int .i64 0) (fun _ => 0)
  case atStart => rfl
  case round =>
    subst hrel
    go_wp2
    exact bodyPost_end (results_none rfl _ _ _) rfl ⟨rfl, rfl⟩
theorem markedCodes_nil (w : World) :
    Calls Tryz.prog 97 #[.slice none 0 0] w fun e w' => e = .returned (.bool true) ∧ w' = w := by
  go_enter Tryz.func97, Tryz.ntmps97
  go_wp2
  go_loop [3] (fun i => i = .int .i64 0) (fun _ => 0)
  case atStart => rfl
  case round =>
    subst hrel
    go_wp2
    go_ret
    exact ⟨rfl, rfl⟩
theorem growCodes_nil (p : Nat) (w : World) (h : w.cell? ⟨p, 8, none⟩ = some (.slice none 0 0)) :
    Calls Tryz.prog 91 #[.pointer (some ⟨p, 0, none⟩)] w fun e w' => e = .returned (.slice none 0 0) ∧ w' = w := by
  go_enter Tryz.func91, Tryz.ntmps91
  go_wp2
  go_loop [3, 4] (fun o i => o = .slice none 0 0 ∧ i = .int .i64 0) (fun _ _ => 0)
  case atStart => exact ⟨rfl, rfl⟩
  case round =>
    obtain ⟨rfl, rfl⟩ := hrel
    go_wp2
    go_ret
    exact ⟨rfl, rfl⟩
theorem stillNodes_nil (p : Nat) (w : World) (h : w.cell? ⟨p, 10, none⟩ = some (.slice none 0 0)) :
    Calls Tryz.prog 80 #[.pointer (some ⟨p, 0, none⟩)] w fun e w' => e = .returned (.bool true) ∧ w' = w := by
  go_enter Tryz.func80, Tryz.ntmps80
  go_wp2
  go_loop [3] (fun i => i = .int .i64 0) (fun _ => 0)
  case atStart => rfl
  case round =>
    subst hrel
    go_wp2
    go_ret
    exact ⟨rfl, rfl⟩
theorem putNodes_nil (p : Nat) (w : World) (h : w.cell? ⟨p, 10, none⟩ = some (.slice none 0 0)) :
    Calls Tryz.prog 81 #[.pointer (some ⟨p, 0, none⟩)] w fun e w' => e = .returned (.tuple #[]) ∧ w' = w := by
  go_enter Tryz.func81, Tryz.ntmps81
  go_wp2
  go_loop [2] (fun i => i = .int .i64 0) (fun _ => 0)
  case atStart => rfl
  case round =>
    subst hrel
    go_wp2
    exact bodyPost_end (results_none rfl _ _ _) rfl ⟨rfl, rfl⟩
theorem markedNodes_nil (w : World) :
    Calls Tryz.prog 98 #[.slice none 0 0] w fun e w' => e = .returned (.bool true) ∧ w' = w := by
  go_enter Tryz.func98, Tryz.ntmps98
  go_wp2
  go_loop [3] (fun i => i = .int .i64 0) (fun _ => 0)
  case atStart => rfl
  case round =>
    subst hrel
    go_wp2
    go_ret
    exact ⟨rfl, rfl⟩
theorem growNodes_nil (p : Nat) (w : World) (h : w.cell? ⟨p, 10, none⟩ = some (.slice none 0 0)) :
    Calls Tryz.prog 92 #[.pointer (some ⟨p, 0, none⟩)] w fun e w' => e = .returned (.slice none 0 0) ∧ w' = w := by
  go_enter Tryz.func92, Tryz.ntmps92
  go_wp2
  go_loop [3, 4] (fun o i => o = .slice none 0 0 ∧ i = .int .i64 0) (fun _ _ => 0)
  case atStart => exact ⟨rfl, rfl⟩
  case round =>
    obtain ⟨rfl, rfl⟩ := hrel
    go_wp2
    go_ret
    exact ⟨rfl, rfl⟩
end Go.Proofs.YtiiioeodanmieaaGreatDoor.Bk
-- BookFin
namespace Go.Proofs.YtiiioeodanmieaaGreatDoor.Bk
open Go.RowKit

theorem own_liesInts {w : World} {base : Nat} {x : IL} {xs : List Value} (h : w.ownsRow base 3 1 x.cell x.l.length xs) : LiesAt w x.a xs := by
  obtain ⟨a', c', hv, hl, _⟩ := own_form h
  have : x.a = a' ∧ x.c = c' := by simpa [IL.cell] using hv
  rw [this.1]
  exact hl
theorem KeepInts.both {w : World} {base p : Nat} {L M : List IL} (h : KeepInts w base p L M) : ∃ ao am co cm, BothInts w p L M ao am co cm := by
  obtain ⟨vO, vM, c0, c1, o0, o1, _⟩ := h.ex
  obtain ⟨ao, co, rfl, l0, _⟩ := own_form o0
  obtain ⟨am, cm, rfl, l1, _⟩ := own_form o1
  have hsm : ∀ y ∈ M, y.l.length ≤ 1000 := fun y hy => by
    obtain ⟨i, hi, rfl⟩ := List.getElem_of_mem hy
    have hiL : i < L.length := by rw [h.len]; exact hi
    have := h.same i L[i] M[i] (List.getElem?_eq_getElem hiL) (List.getElem?_eq_getElem hi)
    rw [← this]
    exact h.small _ (List.getElem_mem hiL)
  exact ⟨ao, am, co, cm, c0, c1, ⟨l0, fun x hx => own_liesInts (h.each x hx), fun x hx => by have := h.small x hx; omega⟩, ⟨l1, fun x hx => own_liesInts (h.copy x hx), fun x hx => by have := hsm x hx; omega⟩, h.len, h.same⟩
structure FinInts (w : World) (p : Nat) (vo : Value) : Prop where
  field : ∃ ao co, ∃ L : List IL, w.cell? ⟨p, 2, none⟩ = some (.slice ao L.length co) ∧ L.length ≤ 1000 ∧ OutInts w ao L ∧ MarkedInts L
  told : ∃ ao co, ∃ L : List IL, vo = .slice ao L.length co ∧ L.length ≤ 1000 ∧ OutInts w ao L ∧ MarkedInts L
theorem finInts {w : World} {base b2 p : Nat} {L Lo : List IL} {C : Nat → List Int} {vo : Value} (h : HeldInts w base p L C) (hC : ∀ (k : Nat) (x : IL), L[k]? = some x → C k = marksI (k : Int) 0 x.l.length) (hL : L.length ≤ 200) (hlen : Lo.length = L.length)
    (ho : w.ownsRow b2 25 1 vo Lo.length (Lo.map IL.cell)) (hlo : ∀ (i : Nat) (y : IL), Lo[i]? = some y → w.ownsRow base 3 1 y.cell y.l.length (vals y.l) ∧ y.l = marksI (i : Int) 0 y.l.length ∧ y.l.length ≤ 2000) : FinInts w p vo := by
  obtain ⟨ao, co, c0, o0⟩ := h.ex
  obtain ⟨a', c', hv, l0, _⟩ := own_form o0
  obtain ⟨rfl, rfl⟩ : ao = a' ∧ co = c' := by simpa using hv
  obtain ⟨a2, c2, rfl, l2, _⟩ := own_form ho
  let Lm : List IL := L.mapIdx fun i x => ⟨x.a, marksI (i : Int) 0 x.l.length, x.c⟩
  have hlm : Lm.length = L.length := by simp [Lm]
  have hcell : Lm.map IL.cell = L.map IL.cell := by
    apply List.ext_getElem
    · simp [Lm]
    · intro i h1 h2
      simp [Lm, IL.cell, marksT_len, marksI_len]
  have hat : ∀ (i : Nat) (z : IL), Lm[i]? = some z → ∃ x, L[i]? = some x ∧ z = ⟨x.a, marksI (i : Int) 0 x.l.length, x.c⟩ := fun i z hz => by
    obtain ⟨hi, rfl⟩ := List.getElem?_eq_some_iff.1 hz
    have hi' : i < L.length := by rw [← hlm]; exact hi
    exact ⟨L[i], List.getElem?_eq_getElem hi', by simp [Lm]⟩
  have hel : ∀ (i n : Nat), (marksI (i : Int) 0 n).length = n := fun i n => by
    first
      | exact marksT_len _ _ _
      | exact marksI_len _ _ _
  refine ⟨⟨ao, co, Lm, by rw [hlm]; exact c0, by omega, ⟨by rw [hcell]; exact l0, fun z hz => ?_, fun z hz => ?_⟩, fun i z hz => ?_⟩, ⟨a2, c2, Lo, rfl, by omega, ⟨l2, fun y hy => ?_, fun y hy => ?_⟩, fun i y hy => (hlo i y hy).2.1⟩⟩
  · obtain ⟨i, hi⟩ := List.getElem?_of_mem hz
    obtain ⟨x, hx, rfl⟩ := hat i z hi
    have := own_liesInts (h.each i x hx)
    rw [hC i x hx] at this
    exact this
  · obtain ⟨i, hi⟩ := List.getElem?_of_mem hz
    obtain ⟨x, hx, rfl⟩ := hat i z hi
    show (marksI (i : Int) 0 x.l.length).length < _
    rw [hel]
    have := h.small x (List.mem_of_getElem? hx)
    omega
  · obtain ⟨x, hx, rfl⟩ := hat i z hz
    show marksI (i : Int) 0 x.l.length = marksI (i : Int) 0 (marksI (i : Int) 0 x.l.length).length
    rw [hel]
  · obtain ⟨i, hi⟩ := List.getElem?_of_mem hy
    exact own_liesInts (hlo i y hi).1
  · obtain ⟨i, hi⟩ := List.getElem?_of_mem hy
    have := (hlo i y hi).2.2
    omega
end Go.Proofs.YtiiioeodanmieaaGreatDoor.Bk
