/- The document's own disk (package flittingref1) as data, and what it is in memory. Plain lemmas, and the law on append(nil, x...). -/
import Derived.Test.YtobgcengijnffaaSecTwin
namespace Go.Proofs.Ytobgcengijnffaa
open Go.RowKit

/-- The document's disk, as data. -/
structure Rsk where
  on : Bool
  lasts : List ByteArray
  waits : List (Nat × ByteArray)
  deeds : Nat
  arm : Bool
  n : Int
  keep : List Int
/-- A waiting write's two cells. -/
def pcells (x : Nat × ByteArray) : List Value := [.int .i64 (x.1 : Int), .string x.2]
structure RLay where
  p : Nat
  S : Nat
  W : Nat
  K : Nat
  cS : Nat
  cW : Nat
  cK : Nat
  sa : Option Addr
  wa : Option Addr
  ka : Option Addr
def RLay.foot (z : RLay) (b : Nat) : Prop := b = z.p ∨ b = z.S ∨ b = z.W ∨ b = z.K
def rhead (z : RLay) (R : Rsk) : List Value :=
  [.slice z.sa R.lasts.length z.cS, .slice z.wa R.waits.length z.cW, .bool (!R.on), .bool R.arm, .int .i64 R.n, .slice z.ka R.keep.length z.cK, .int .i64 (R.deeds : Int)]
/-- A slice: nil, or a row of its own. -/
def RowIs (w : World) (e : TypeId) (k : Nat) (a : Option Addr) (g m c : Nat) (cs : List Value) : Prop :=
  (a = none ∧ m = 0 ∧ c = 0) ∨ (a = some ⟨g, 0, none⟩ ∧ w.ownsRow 0 e k (.slice (some ⟨g, 0, none⟩) m c) m cs)
theorem RowIs.of_block {w w' : World} {e : TypeId} {k g m c : Nat} {a : Option Addr} {cs : List Value} (h : RowIs w e k a g m c cs) (hb : a ≠ none → w'.heap[g]? = w.heap[g]?) : RowIs w' e k a g m c cs := by
  rcases h with h | ⟨ha, ho⟩
  · exact .inl h
  · exact .inr ⟨ha, owns_of_block ho (hb (by rw [ha]; simp))⟩
theorem RowIs.owns {w : World} {e : TypeId} {k g m c : Nat} {a : Option Addr} {cs : List Value} (h : RowIs w e k a g m c cs) (hl : cs.length = m * k) : w.ownsRow 0 e k (.slice a m c) m cs := by
  rcases h with ⟨rfl, rfl, rfl⟩ | ⟨rfl, ho⟩
  · rw [List.eq_nil_of_length_eq_zero (l := cs) (by simpa using hl)]
    exact World.ownsRow_nil _ _ _ _
  · exact ho
theorem Cloned.row {W : World} {s0 s1 : Nat} {e : TypeId} {k : Nat} {a : Option Addr} {m c : Nat} {cs : List Value} (h : Cloned W s0 s1 e k a m c cs) (p : Nat) : RowIs W e k a (blkOf a p) m c cs ∧ (a ≠ none → s0 ≤ blkOf a p ∧ blkOf a p < s1) := by
  rcases h with h | ⟨g, rfl, h0, h1, ho⟩
  · exact ⟨.inl h, fun q => absurd h.1 q⟩
  · exact ⟨.inr ⟨rfl, ho⟩, fun _ => ⟨h0, h1⟩⟩

/-- WHAT IT IS IN MEMORY. -/
structure IsR (w : World) (z : RLay) (R : Rsk) : Prop where
  rng : w.rangeAt z.p 0 (rhead z R)
  thr : w.there z.p 0 7
  rS : RowIs w 9 1 z.sa z.S R.lasts.length z.cS (R.lasts.map Value.string)
  rW : RowIs w 70 2 z.wa z.W R.waits.length z.cW (R.waits.flatMap pcells)
  rK : RowIs w 3 1 z.ka z.K R.keep.length z.cK (R.keep.map (Value.int .i64))
  neS : z.sa ≠ none → z.S ≠ z.p
  neW : z.wa ≠ none → z.W ≠ z.p ∧ (z.sa ≠ none → z.W ≠ z.S)
  neK : z.ka ≠ none → z.K ≠ z.p ∧ (z.sa ≠ none → z.K ≠ z.S)
  small : ∀ b, z.foot b → b < w.heap.size
  lenS : R.lasts.length ≤ 3000
  lenW : R.waits.length < 2 ^ 39
  lenK : R.keep.length < 2 ^ 39
  blk : ∀ x ∈ R.waits, x.1 < R.lasts.length

section
variable {w w' : World} {z : RLay} {R : Rsk}
theorem IsR.c0 (h : IsR w z R) : w.cell? ⟨z.p, 0, none⟩ = some (.slice z.sa R.lasts.length z.cS) := by simpa using h.rng 0 _ rfl
theorem IsR.c1 (h : IsR w z R) : w.cell? ⟨z.p, 1, none⟩ = some (.slice z.wa R.waits.length z.cW) := by simpa using h.rng 1 _ rfl
theorem IsR.c2 (h : IsR w z R) : w.cell? ⟨z.p, 2, none⟩ = some (.bool (!R.on)) := by simpa using h.rng 2 _ rfl
theorem IsR.c3 (h : IsR w z R) : w.cell? ⟨z.p, 3, none⟩ = some (.bool R.arm) := by simpa using h.rng 3 _ rfl
theorem IsR.c4 (h : IsR w z R) : w.cell? ⟨z.p, 4, none⟩ = some (.int .i64 R.n) := by simpa using h.rng 4 _ rfl
theorem IsR.c5 (h : IsR w z R) : w.cell? ⟨z.p, 5, none⟩ = some (.slice z.ka R.keep.length z.cK) := by simpa using h.rng 5 _ rfl
theorem IsR.c6 (h : IsR w z R) : w.cell? ⟨z.p, 6, none⟩ = some (.int .i64 (R.deeds : Int)) := by simpa using h.rng 6 _ rfl
theorem IsR.fz (h : IsR w z R) (j : Nat) (hj : j < 7) : w.frozen? ⟨z.p, j, none⟩ = false := by simpa using (h.thr j hj).2
theorem IsR.of_blocks (h : IsR w z R) (hs : w.heap.size ≤ w'.heap.size) (hb : ∀ b, z.foot b → w'.heap[b]? = w.heap[b]?) : IsR w' z R :=
  ⟨rangeAt_of_block (hb _ (.inl rfl)) h.rng, there_of_block (hb _ (.inl rfl)) h.thr, h.rS.of_block (fun _ => hb _ (.inr (.inl rfl))), h.rW.of_block (fun _ => hb _ (.inr (.inr (.inl rfl)))), h.rK.of_block (fun _ => hb _ (.inr (.inr (.inr rfl)))),
    h.neS, h.neW, h.neK, fun b q => Nat.lt_of_lt_of_le (h.small b q) hs, h.lenS, h.lenW, h.lenK, h.blk⟩
theorem IsR.only {F : Nat → Prop} (h : IsR w z R) (o : Only F w w') (hF : ∀ b, z.foot b → ¬ F b) : IsR w' z R := h.of_blocks o.size fun b q => o.block b (h.small b q) (hF b q)
theorem IsR.below (h : IsR w z R) (b : Below w.heap.size w w') : IsR w' z R := h.only (Only.of_below b) (fun b q r => by have := h.small b q; omega)
theorem IsR.alloc (h : IsR w z R) (o : Obj) : IsR (w.alloc o) z R := h.of_blocks (by simp) fun b q => Below.heap_alloc _ _ _ (h.small b q)
theorem IsR.drew (h : IsR w z R) : IsR w.drew z R := h.of_blocks (by simp) fun _ _ => rfl

/-- A cell of the struct is set. -/
theorem IsR.set_cell (h : IsR w z R) (k : Nat) (v : Value) (R' : Rsk) (hl : R'.lasts = R.lasts) (hw : R'.waits = R.waits) (hk : R'.keep = R.keep) (hr : (rhead z R).set k v = rhead z R') : IsR (w.setCell ⟨z.p, k, none⟩ v) z R' := by
  have o : ∀ b, b ≠ z.p → (w.setCell ⟨z.p, k, none⟩ v).heap[b]? = w.heap[b]? := fun b hb => heap_setCell_ne _ _ _ _ hb
  refine ⟨by rw [← hr]; exact rangeAt_set (k := k) h.rng v, there_set h.thr _ _, ?_, ?_, ?_, h.neS, h.neW, h.neK, fun b q => by rw [size_setCell']; exact h.small b q, by rw [hl]; exact h.lenS, by rw [hw]; exact h.lenW, by rw [hk]; exact h.lenK, by rw [hl, hw]; exact h.blk⟩
  · rw [hl]; exact h.rS.of_block fun q => o _ (h.neS q)
  · rw [hw]; exact h.rW.of_block fun q => o _ (h.neW q).1
  · rw [hk]; exact h.rK.of_block fun q => o _ (h.neK q).1

def RLay.newS (z : RLay) (a : Option Addr) (c : Nat) : RLay := { z with S := blkOf a z.p, sa := a, cS := c }
def RLay.newW (z : RLay) (a : Option Addr) (c : Nat) : RLay := { z with W := blkOf a z.p, wa := a, cW := c }
def RLay.newK (z : RLay) (a : Option Addr) (c : Nat) : RLay := { z with K := blkOf a z.p, ka := a, cK := c }
theorem blkOf_lt {a : Option Addr} {p s : Nat} (hp : p < s) (h : a ≠ none → blkOf a p < s) : blkOf a p < s := by
  cases a with
  | none => exact hp
  | some b => exact h (by simp)

/-- Another row stands for what lasts. -/
theorem IsR.set_safe (h : IsR w z R) {s0 : Nat} {a : Option Addr} {m c : Nat} {l : List ByteArray} (hm : m = l.length) (h0 : ∀ b, z.foot b → b < s0) (hc : Cloned w s0 w.heap.size 9 1 a m c (l.map Value.string)) (hl : l.length = R.lasts.length) :
    IsR (w.setCell ⟨z.p, 0, none⟩ (.slice a m c)) (z.newS a c) { R with lasts := l } ∧ (∀ b, (z.newS a c).foot b → z.foot b ∨ s0 ≤ b) := by
  subst hm
  obtain ⟨hr, hb⟩ := hc.row z.p
  have o : ∀ b, b ≠ z.p → (w.setCell ⟨z.p, 0, none⟩ (.slice a l.length c)).heap[b]? = w.heap[b]? := fun b hb => heap_setCell_ne _ _ _ _ hb
  have hp0 := h0 _ (.inl rfl)
  have hW0 := h0 z.W (.inr (.inr (.inl rfl)))
  have hK0 := h0 z.K (.inr (.inr (.inr rfl)))
  have ne : a ≠ none → blkOf a z.p ≠ z.p := fun q => by have := (hb q).1; omega
  refine ⟨⟨?_, there_set h.thr _ _, hr.of_block fun q => o _ (ne q), h.rW.of_block fun q => o _ (h.neW q).1, h.rK.of_block fun q => o _ (h.neK q).1, ne, fun q => ⟨(h.neW q).1, fun r => ?_⟩, fun q => ⟨(h.neK q).1, fun r => ?_⟩, ?_, by rw [hl]; exact h.lenS, h.lenW, h.lenK, by rw [hl]; exact h.blk⟩, ?_⟩
  · exact rangeAt_set (k := 0) h.rng _
  · have := (hb r).1; show z.W ≠ blkOf a z.p; omega
  · have := (hb r).1; show z.K ≠ blkOf a z.p; omega
  · intro b q
    rw [size_setCell']
    rcases q with q | q | q | q
    · exact h.small b (.inl q)
    · have q' : b = blkOf a z.p := q
      rw [q']; exact blkOf_lt (h.small _ (.inl rfl)) (fun r => (hb r).2)
    · exact h.small b (.inr (.inr (.inl q)))
    · exact h.small b (.inr (.inr (.inr q)))
  · intro b q
    rcases q with q | q | q | q
    · exact .inl (.inl q)
    · have q' : b = blkOf a z.p := q
      by_cases r : a = none
      · subst r; exact .inl (.inl q')
      · have := (hb r).1; exact .inr (by omega)
    · exact .inl (.inr (.inr (.inl q)))
    · exact .inl (.inr (.inr (.inr q)))
/-- Another row stands for what waits. -/
theorem IsR.set_waits (h : IsR w z R) {s0 : Nat} {a : Option Addr} {m c : Nat} {l : List (Nat × ByteArray)} (hm : m = l.length) (h0 : ∀ b, z.foot b → b < s0) (hc : Cloned w s0 w.heap.size 70 2 a m c (l.flatMap pcells)) (hl : l.length < 2 ^ 39) (hblk : ∀ x ∈ l, x.1 < R.lasts.length) :
    IsR (w.setCell ⟨z.p, 1, none⟩ (.slice a m c)) (z.newW a c) { R with waits := l } ∧ (∀ b, (z.newW a c).foot b → z.foot b ∨ s0 ≤ b) := by
  subst hm
  obtain ⟨hr, hb⟩ := hc.row z.p
  have o : ∀ b, b ≠ z.p → (w.setCell ⟨z.p, 1, none⟩ (.slice a l.length c)).heap[b]? = w.heap[b]? := fun b hb => heap_setCell_ne _ _ _ _ hb
  have hp0 := h0 _ (.inl rfl)
  have hS0 := h0 z.S (.inr (.inl rfl))
  have ne : a ≠ none → blkOf a z.p ≠ z.p := fun q => by have := (hb q).1; omega
  refine ⟨⟨?_, there_set h.thr _ _, h.rS.of_block fun q => o _ (h.neS q), hr.of_block fun q => o _ (ne q), h.rK.of_block fun q => o _ (h.neK q).1, h.neS, fun q => ⟨ne q, fun r => ?_⟩, h.neK, ?_, h.lenS, hl, h.lenK, hblk⟩, ?_⟩
  · exact rangeAt_set (k := 1) h.rng _
  · have := (hb q).1; show blkOf a z.p ≠ z.S; omega
  · intro b q
    rw [size_setCell']
    rcases q with q | q | q | q
    · exact h.small b (.inl q)
    · exact h.small b (.inr (.inl q))
    · have q' : b = blkOf a z.p := q
      rw [q']; exact blkOf_lt (h.small _ (.inl rfl)) (fun r => (hb r).2)
    · exact h.small b (.inr (.inr (.inr q)))
  · intro b q
    rcases q with q | q | q | q
    · exact .inl (.inl q)
    · exact .inl (.inr (.inl q))
    · have q' : b = blkOf a z.p := q
      by_cases r : a = none
      · subst r; exact .inl (.inl q')
      · have := (hb r).1; exact .inr (by omega)
    · exact .inl (.inr (.inr (.inr q)))
/-- Another row stands for what is kept. -/
theorem IsR.set_keep (h : IsR w z R) {s0 : Nat} {a : Option Addr} {m c : Nat} {l : List Int} (hm : m = l.length) (h0 : ∀ b, z.foot b → b < s0) (hc : Cloned w s0 w.heap.size 3 1 a m c (l.map (Value.int .i64))) (hl : l.length < 2 ^ 39) :
    IsR (w.setCell ⟨z.p, 5, none⟩ (.slice a m c)) (z.newK a c) { R with keep := l } ∧ (∀ b, (z.newK a c).foot b → z.foot b ∨ s0 ≤ b) := by
  subst hm
  obtain ⟨hr, hb⟩ := hc.row z.p
  have o : ∀ b, b ≠ z.p → (w.setCell ⟨z.p, 5, none⟩ (.slice a l.length c)).heap[b]? = w.heap[b]? := fun b hb => heap_setCell_ne _ _ _ _ hb
  have hp0 := h0 _ (.inl rfl)
  have hS0 := h0 z.S (.inr (.inl rfl))
  have ne : a ≠ none → blkOf a z.p ≠ z.p := fun q => by have := (hb q).1; omega
  refine ⟨⟨?_, there_set h.thr _ _, h.rS.of_block fun q => o _ (h.neS q), h.rW.of_block fun q => o _ (h.neW q).1, hr.of_block fun q => o _ (ne q), h.neS, h.neW, fun q => ⟨ne q, fun r => ?_⟩, ?_, h.lenS, h.lenW, hl, h.blk⟩, ?_⟩
  · exact rangeAt_set (k := 5) h.rng _
  · have := (hb q).1; show blkOf a z.p ≠ z.S; omega
  · intro b q
    rw [size_setCell']
    rcases q with q | q | q | q
    · exact h.small b (.inl q)
    · exact h.small b (.inr (.inl q))
    · exact h.small b (.inr (.inr (.inl q)))
    · have q' : b = blkOf a z.p := q
      rw [q']; exact blkOf_lt (h.small _ (.inl rfl)) (fun r => (hb r).2)
  · intro b q
    rcases q with q | q | q | q
    · exact .inl (.inl q)
    · exact .inl (.inr (.inl q))
    · exact .inl (.inr (.inr (.inl q)))
    · have q' : b = blkOf a z.p := q
      by_cases r : a = none
      · subst r; exact .inl (.inl q')
      · have := (hb r).1; exact .inr (by omega)
/-- Nothing waits any more. -/
theorem IsR.no_waits (h : IsR w z R) : IsR (w.setCell ⟨z.p, 1, none⟩ (.slice none 0 0)) (z.newW none 0) { R with waits := [] } ∧ (∀ b, (z.newW none 0).foot b → z.foot b) := by
  obtain ⟨h1, h2⟩ := h.set_waits (s0 := w.heap.size) (a := none) (m := 0) (c := 0) (l := []) rfl h.small (.inl ⟨rfl, rfl, rfl⟩) (by simp) (by intro x hx; simp at hx)
  refine ⟨h1, fun b q => ?_⟩
  rcases q with q | q | q | q
  · exact .inl q
  · exact .inr (.inl q)
  · exact .inl q
  · exact .inr (.inr (.inr q))
/-- One text of what lasts is set. -/
theorem IsR.set_at (h : IsR w z R) (i : Nat) (hi : i < R.lasts.length) (b : ByteArray) : IsR (w.setCell ⟨z.S, i, none⟩ (.string b)) z { R with lasts := R.lasts.set i b } ∧ z.sa = some ⟨z.S, 0, none⟩ ∧ (∃ u, w.cell? ⟨z.S, i, none⟩ = some u) ∧ w.frozen? ⟨z.S, i, none⟩ = false := by
  rcases h.rS with ⟨_, q, _⟩ | ⟨ha, ho⟩
  · omega
  · have hne : z.sa ≠ none := by rw [ha]; simp
    have o : ∀ k, k ≠ z.S → (w.setCell ⟨z.S, i, none⟩ (.string b)).heap[k]? = w.heap[k]? := fun k hk => heap_setCell_ne _ _ _ _ hk
    have hst := (ho.stored i (.string b)).1
    refine ⟨⟨?_, there_set h.thr _ _, .inr ⟨ha, ?_⟩, h.rW.of_block fun q => o _ ((h.neW q).2 hne), h.rK.of_block fun q => o _ ((h.neK q).2 hne), h.neS, h.neW, h.neK, fun k q => by rw [size_setCell']; exact h.small k q, by simpa using h.lenS, h.lenW, h.lenK, by simpa using h.blk⟩, ha, ⟨_, by rw [ho.cellAt i (by omega), List.getElem?_eq_getElem (by simpa using hi)]⟩, ho.frozenAt i⟩
    · have := rangeAt_of_block (o _ (fun e => h.neS hne e.symm)) h.rng
      simpa [rhead] using this
    · have e : (R.lasts.set i b).map Value.string = (R.lasts.map Value.string).set i (.string b) := by simp [List.map_set]
      rw [e]
      simpa using hst
theorem IsR.text_at (h : IsR w z R) (i : Nat) (hi : i < R.lasts.length) : z.sa = some ⟨z.S, 0, none⟩ ∧ w.cell? ⟨z.S, i, none⟩ = some (.string R.lasts[i]) := by
  rcases h.rS with ⟨_, q, _⟩ | ⟨ha, ho⟩
  · omega
  · refine ⟨ha, ?_⟩
    rw [ho.cellAt i (by omega)]
    simp [hi]
theorem pflat_at {l : List (Nat × ByteArray)} {i : Nat} {x : Nat × ByteArray} (hx : l[i]? = some x) : (l.flatMap pcells)[i * 2]? = some (.int .i64 (x.1 : Int)) ∧ (l.flatMap pcells)[i * 2 + 1]? = some (.string x.2) := by
  induction l generalizing i with
  | nil => simp at hx
  | cons a r ih =>
    cases i with
    | zero =>
      obtain rfl : a = x := by simpa using hx
      simp [pcells]
    | succ i =>
      have := ih (i := i) (by simpa using hx)
      rw [List.flatMap_cons, show (i + 1) * 2 = i * 2 + 2 by omega]
      simpa [pcells] using this
theorem IsR.wait_at (h : IsR w z R) {i : Nat} {x : Nat × ByteArray} (hx : R.waits[i]? = some x) : z.wa = some ⟨z.W, 0, none⟩ ∧ w.cell? ⟨z.W, i * 2, none⟩ = some (.int .i64 (x.1 : Int)) ∧ w.cell? ⟨z.W, i * 2 + 1, none⟩ = some (.string x.2) := by
  have hi : i < R.waits.length := (List.getElem?_eq_some_iff.1 hx).1
  have hf := pflat_at hx
  rcases h.rW with ⟨_, q, _⟩ | ⟨ha, ho⟩
  · omega
  · exact ⟨ha, by rw [ho.cellAt _ (by omega)]; exact hf.1, by rw [ho.cellAt _ (by omega)]; exact hf.2⟩
theorem IsR.keepOf (h : IsR w z R) : IntsAt w z.ka R.keep := fun j u hu => by
  have hj : j < R.keep.length := (List.getElem?_eq_some_iff.1 hu).1
  rcases h.rK with ⟨_, q, _⟩ | ⟨ha, ho⟩
  · omega
  · exact ⟨⟨z.K, 0, none⟩, ha, h.small _ (.inr (.inr (.inr rfl))), by rw [Addr.add_mid, Nat.zero_add, ho.cellAt _ (by omega)]; simp [hu]⟩
end

/-- WHAT A CALL LEAVES. -/
def GoesR (z : RLay) (w : World) (R' : Rsk) (w' : World) : Prop :=
  ∃ z' : RLay, z'.p = z.p ∧ IsR w' z' R' ∧ (∀ b, z'.foot b → z.foot b ∨ w.heap.size ≤ b) ∧ Only z.foot w w'

theorem run_append_nil_zero {P : Program} (w : World) (t ty e : TypeId) (i : TypeInfo) (ht : P.underlying t = some (.slice e)) (hi : P.info? e = some i) (a : Option Addr) (c : Nat) :
    (Builtin.append_ #[t, t] ty #[.slice none 0 0, .slice a 0 c]).run P w = .ok (.slice none 0 0) w := by
  have hl : ∀ (x : Addr), (loadCells x 0).run P w = .ok #[] w := fun x => by simpa using run_loadCells_list (P := P) w x [] (by simp)
  cases a <;> simp [Builtin.append_, run_underlying ht, sizeOf, typeInfo, hi, Builtin.lenOf, Builtin.firstCells, hl]

/-- append(nil, x...): a copy. -/
theorem wpList_append_copy {P : Program} {ops : Array Oper} {rest : List Oper} {o : Oper} {ac : Act} {w : World} {Q : Exit → Act → World → Prop} (hgd : o.guard = none) (x : Operand) (t : TypeId)
    (ho : o.op = .call { callee := .builtin .append, args := #[.const (.slice none 0 0), x], argTypes := #[t, t] })
    (e : TypeId) (i : TypeInfo) (zv : Value) (k bytes : Nat) (ht : P.underlying t = some (.slice e)) (hi : P.info? e = some i) (hz : i.zero = some zv) (hsize : i.size = k) (hby : i.bytes = bytes) (hzs : zv.cells.size = k) (hk : 0 < k) (hb40 : bytes ≤ 40)
    (a : Option Addr) (m c : Nat) (cs : List Value) (hx : ac.eval x = .slice a m c) (hown : ∀ j u, cs[j]? = some u → ∃ b : Addr, a = some b ∧ w.cell? (b.add j) = some u) (hl : cs.length = m * k) (h1 : ∀ u ∈ cs, u.oneCell' = true) (hm : m < 2 ^ 40)
    (h : ∀ a' c' w', Below w.heap.size w w' → Cloned w' w.heap.size w'.heap.size e k a' m c' cs → wpList P ops Q rest (ac.put o.dst (.slice a' m c')) w') : wpList P ops Q (o :: rest) ac w := by
  rcases Nat.eq_zero_or_pos m with h0 | h0
  · subst h0
    refine wpList_append_run hgd (.const (.slice none 0 0)) x t t ho _ _ _ rfl hx (run_append_nil_zero w t o.type e i ht hi a c) ?_
    exact h none 0 w (Below.refl _ _) (.inl ⟨rfl, rfl, rfl⟩)
  · have h0c : 0 < cs.length := by rw [hl]; exact Nat.mul_pos h0 hk
    obtain ⟨b, rfl, _⟩ := hown 0 _ (List.getElem?_eq_getElem h0c)
    refine wpList_append_lies w hgd (.const (.slice none 0 0)) x t ho w.heap.size e i zv k bytes ht hi hz hsize hby hzs hk (.slice none 0 0) 0 [] rfl (World.ownsRow_nil _ _ _ _) b m c cs hx hl (fun j u hu => by
      obtain ⟨b', hb, hc⟩ := hown j u hu
      obtain rfl : b = b' := by simpa using hb
      exact hc) h1 h0 (by unfold maxLen; omega) (by
        have : (0 + m) * bytes ≤ 2 ^ 40 * 40 := Nat.mul_le_mul (by omega) hb40
        omega) (Nat.le_refl _) _ rfl ?_
    intro g cap w' ho' hg' hat hlt
    simp only [Nat.zero_add, List.nil_append] at ho' ⊢
    have hge : w.heap.size ≤ g := by
      rcases hat with q | q
      · cases q
      · omega
    exact h (some ⟨g, 0, none⟩) cap w' ((Below.refl _ _).grown hg' (Nat.le_refl _) (fun k hk => by cases hk)) (.inr ⟨g, rfl, hge, hlt, owns_zero ho'⟩)
end Go.Proofs.Ytobgcengijnffaa
