/- Rows of structs: an append, and what it leaves of what was there. -/
import Derived.Test.YtbcdmcafobjpcaaGreatDoorWide
namespace Go.Proofs.YtbcdmcafobjpcaaGreatDoor.Bk
open Go.RowKit

/-- An append: in place, with the same room; or anew, and all that was there stays. -/
def GrewK (w w' : World) (v : Value) (n g cap : Nat) : Prop := (v = .slice (some ⟨g, 0, none⟩) n cap ∧ w.grownBy w' (some g)) ∨ (w.heap.size ≤ g ∧ w.grownBy w' none)
theorem run_append_twoK {P : Program} (w : World) (t ty : TypeId) (base : Nat) (e : TypeId) (i : TypeInfo) (z : Value) (size bytes : Nat) (ht : P.underlying t = some (.slice e)) (hi : P.info? e = some i) (hz : i.zero = some z)
    (hsize : i.size = size) (hby : i.bytes = bytes) (hzs : z.cells.size = size) (hsz : 0 < size)
    (v : Value) (n : Nat) (xs : List Value) (hown : w.ownsRow base e size v n xs)
    (ad : Addr) (m c : Nat) (news : List Value) (hl : news.length = m * size) (hnews : ∀ j u, news[j]? = some u → w.cell? (ad.add j) = some u) (h1 : ∀ u ∈ news, u.oneCell' = true)
    (hm : 0 < m) (h63 : n + m ≤ maxLen) (hbytes : (n + m) * bytes ≤ 140737488355328) (hbase : base ≤ w.heap.size) :
    ∃ g cap w', (Builtin.append_ #[t, t] ty #[v, .slice (some ad) m c]).run P w = .ok (.slice (some ⟨g, 0, none⟩) (n + m) cap) w' ∧
      w'.ownsRow base e size (.slice (some ⟨g, 0, none⟩) (n + m) cap) (n + m) (xs ++ news) ∧ GrewK w w' v n g cap ∧ base ≤ g ∧ g < w'.heap.size := by
  obtain ⟨g, cap, w', hr, h2, h3, h4, h5⟩ := run_append_lies (P := P) w t ty base e i z size bytes ht hi hz hsize hby hzs hsz v n xs hown ad m c news hl hnews h1 hm h63 hbytes hbase _ rfl
  have hbg : base ≤ g := (h2.lt g rfl).1
  rcases hown.2 with ⟨hv, hn⟩ | ⟨g0, cap0, cur, hv, hb0, hh, hnc, hcm, hcs, htk⟩
  · refine ⟨g, cap, w', hr, h2, .inr ⟨?_, ?_⟩, hbg, h5⟩
    · rcases h4 with q | q
      · rw [hv] at q; cases q
      · omega
    · rw [hv] at h3
      exact h3
  · by_cases hroom : n + m ≤ cap0
    · have hr2 := run_append_room (P := P) w t ty e i ht hi g0 n cap0 cur hh ad m c news (by rw [hsize]; exact hl) hnews h1 hroom (by rw [hsize, hl, hcs, ← Nat.add_mul]; exact Nat.mul_le_mul_right _ hroom)
      rw [← hv, hr] at hr2
      obtain ⟨rfl, rfl⟩ : g = g0 ∧ cap = cap0 := by
        have := (Result.ok.inj hr2).1
        simpa using this
      refine ⟨g, cap, w', hr, h2, .inl ⟨hv, ?_⟩, hbg, h5⟩
      rw [hv] at h3
      exact h3
    · have holds : ∀ j u, xs[j]? = some u → w.cell? ((⟨g0, 0, none⟩ : Addr).add j) = some u := hown.cells (g := g0) (by rw [hv]; rfl)
      obtain ⟨v', w2, hr2, r1, r2⟩ := run_append_arg_grows (P := P) w t ty e i z size bytes ht hi hz hsize hby hzs hsz ⟨g0, 0, none⟩ n cap0 xs hown.1 holds ad m c news hl hnews (by omega) h63 hbytes
      rw [← hv, hr] at hr2
      obtain ⟨e1, e2⟩ := Result.ok.inj hr2
      subst e2
      rw [← e1] at r1
      exact ⟨g, cap, w', hr, h2, .inr ⟨(r1.lt g rfl).1, r2⟩, hbg, h5⟩
theorem wpList_append_twoK {P : Program} {ops : Array Oper} {rest : List Oper} {o : Oper} {a : Act} {w : World} {Q : Exit → Act → World → Prop} (hgd : o.guard = none) (s x : Operand) (t : TypeId)
    (ho : o.op = .call { callee := .builtin .append, args := #[s, x], argTypes := #[t, t] })
    (base : Nat) (e : TypeId) (i : TypeInfo) (z : Value) (size bytes : Nat) (ht : P.underlying t = some (.slice e)) (hi : P.info? e = some i) (hz : i.zero = some z)
    (hsize : i.size = size) (hby : i.bytes = bytes) (hzs : z.cells.size = size) (hsz : 0 < size)
    (v : Value) (n : Nat) (xs : List Value) (hs : a.eval s = v) (hown : w.ownsRow base e size v n xs)
    (ad : Addr) (m c : Nat) (news : List Value) (hx : a.eval x = .slice (some ad) m c) (hl : news.length = m * size) (hnews : ∀ j u, news[j]? = some u → w.cell? (ad.add j) = some u) (h1 : ∀ u ∈ news, u.oneCell' = true)
    (hm : 0 < m) (h63 : n + m ≤ maxLen) (hbytes : (n + m) * bytes ≤ 140737488355328) (hbase : base ≤ w.heap.size)
    (h : ∀ g cap w', w'.ownsRow base e size (.slice (some ⟨g, 0, none⟩) (n + m) cap) (n + m) (xs ++ news) → GrewK w w' v n g cap → base ≤ g → g < w'.heap.size → wpList P ops Q rest (a.put o.dst (.slice (some ⟨g, 0, none⟩) (n + m) cap)) w') : wpList P ops Q (o :: rest) a w := by
  obtain ⟨g, cap, w', hr, h2, h3, h4, h5⟩ := run_append_twoK (P := P) w t o.type base e i z size bytes ht hi hz hsize hby hzs hsz v n xs hown ad m c news hl hnews h1 hm h63 hbytes hbase
  exact wpList_append_run hgd s x t t ho v (.slice (some ad) m c) _ hs hx hr (h g cap w' h2 h3 h4 h5)
/-- The head of a row. -/
theorem owns_headK {w : World} {base : Nat} {e : TypeId} {size g n m c : Nat} {xs ys : List Value} (h : w.ownsRow base e size (.slice (some ⟨g, 0, none⟩) m c) m ys) (hn : n ≤ m) (hx : ys.take (n * size) = xs) : w.ownsRow base e size (.slice (some ⟨g, 0, none⟩) n c) n xs := by
  have hm : n * size ≤ m * size := Nat.mul_le_mul_right _ hn
  rcases h.2 with ⟨q, _⟩ | ⟨g', cap, cur, hv, hg, hh, h1, h2, h3, h4⟩
  · cases q
  · obtain ⟨rfl, rfl⟩ : g = g' ∧ c = cap := by simpa using hv
    refine ⟨by rw [← hx, List.length_take, h.1]; omega, .inr ⟨g, c, cur, rfl, hg, hh, by omega, h2, h3, ?_⟩⟩
    rw [← hx, ← h4, List.take_take]
    congr 1
    omega
/-- What an append left of the row that it was given. -/
theorem GrewK.old {w w' : World} {base : Nat} {e : TypeId} {size n m g cap : Nat} {v : Value} {xs news : List Value} (h : GrewK w w' v n g cap) (ho : w.ownsRow base e size v n xs) (hn : w'.ownsRow base e size (.slice (some ⟨g, 0, none⟩) (n + m) cap) (n + m) (xs ++ news)) : w'.ownsRow base e size v n xs := by
  rcases h with ⟨rfl, _⟩ | ⟨_, hg⟩
  · exact owns_headK hn (by omega) (by rw [← ho.1, List.take_left'] ; rfl)
  · exact own_belowK ho ⟨hg.os, hg.tape, hg.output, hg.size, fun k hk => hg.block k hk (fun q => by cases q)⟩
theorem GrewK.below {w w' w0 : World} {base n g cap : Nat} {e : TypeId} {size : Nat} {v : Value} {xs : List Value} (h : GrewK w w' v n g cap) (ho : w.ownsRow base e size v n xs) (b : Below base w0 w) (hb : base ≤ w.heap.size) : Below base w0 w' := by
  rcases h with ⟨rfl, hg⟩ | ⟨_, hg⟩
  · exact b.grown hg hb (fun k hk => by
      obtain rfl : g = k := by simpa using hk
      exact (ho.lt g rfl).1)
  · exact b.grown hg hb (fun k hk => by cases hk)
theorem heap_sets (b : Nat) : ∀ (vs : List Value) (o : Nat) (w : World) (k : Nat), k ≠ b → (w.setCells b o vs).heap[k]? = w.heap[k]?
  | [], _, _, _, _ => rfl
  | v :: r, o, w, k, h => by rw [World.setCells, heap_sets b r _ _ k h, heap_setCell_other _ _ _ _ h]
theorem size_sets (b : Nat) : ∀ (vs : List Value) (o : Nat) (w : World), (w.setCells b o vs).heap.size = w.heap.size
  | [], _, _ => rfl
  | v :: r, o, w => by rw [World.setCells, size_sets b r, World.size_setCell]
theorem below_sets {B : Nat} {a : World} {b : Nat} (hb : B ≤ b) : ∀ (vs : List Value) (o : Nat) {w : World}, Below B a w → Below B a (w.setCells b o vs)
  | [], _, _, h => h
  | v :: r, o, _, h => below_sets hb r (o + 1) (h.setCell (p := ⟨b, o, none⟩) hb v)
theorem owns_setRun {base : Nat} {e : TypeId} {s g n c : Nat} : ∀ (vs : List Value) (o : Nat) {w : World} {xs : List Value}, w.ownsRow base e s (.slice (some ⟨g, 0, none⟩) n c) n xs → (w.setCells g o vs).ownsRow base e s (.slice (some ⟨g, 0, none⟩) n c) n (setRun xs o vs)
  | [], _, _, _, h => h
  | v :: r, o, _, _, h => owns_setRun r (o + 1) (owns_setK h o v)
theorem owns_otherB {w w' : World} {base : Nat} {e : TypeId} {k : Nat} {v : Value} {m : Nat} {cs : List Value} (h : w.ownsRow base e k v m cs) (hb : ∀ g, v.ownBlock = some g → w'.heap[g]? = w.heap[g]?) : w'.ownsRow base e k v m cs := by
  refine ⟨h.1, ?_⟩
  rcases h.2 with q | ⟨g, cap, cur, hv, hg, hh, r⟩
  · exact .inl q
  · exact .inr ⟨g, cap, cur, hv, hg, by rw [hb g (by rw [hv]; rfl)]; exact hh, r⟩
theorem owns_there2 {w : World} {base : Nat} {e : TypeId} {g n c : Nat} {xs : List Value} (h : w.ownsRow base e 2 (.slice (some ⟨g, 0, none⟩) n c) n xs) {j : Nat} (hj : j < n) : ∃ y0 y1, w.cell? ⟨g, j * 2, none⟩ = some y0 ∧ w.frozen? ⟨g, j * 2, none⟩ = false ∧ w.cell? ⟨g, j * 2 + 1, none⟩ = some y1 ∧ w.frozen? ⟨g, j * 2 + 1, none⟩ = false := by
  obtain ⟨y0, _, t0, q0⟩ := owns_thereK h (k := j * 2) (by omega)
  obtain ⟨y1, _, t1, q1⟩ := owns_thereK h (k := j * 2 + 1) (by omega)
  exact ⟨y0, y1, t0, q0, t1, q1⟩
theorem owns_there4 {w : World} {base : Nat} {e : TypeId} {g n c : Nat} {xs : List Value} (h : w.ownsRow base e 4 (.slice (some ⟨g, 0, none⟩) n c) n xs) {j : Nat} (hj : j < n) : ∃ y0 y1 y2 y3, w.cell? ⟨g, j * 4, none⟩ = some y0 ∧ w.frozen? ⟨g, j * 4, none⟩ = false ∧ w.cell? ⟨g, j * 4 + 1, none⟩ = some y1 ∧ w.frozen? ⟨g, j * 4 + 1, none⟩ = false ∧ w.cell? ⟨g, j * 4 + 2, none⟩ = some y2 ∧ w.frozen? ⟨g, j * 4 + 2, none⟩ = false ∧ w.cell? ⟨g, j * 4 + 3, none⟩ = some y3 ∧ w.frozen? ⟨g, j * 4 + 3, none⟩ = false := by
  obtain ⟨y0, _, t0, q0⟩ := owns_thereK h (k := j * 4) (by omega)
  obtain ⟨y1, _, t1, q1⟩ := owns_thereK h (k := j * 4 + 1) (by omega)
  obtain ⟨y2, _, t2, q2⟩ := owns_thereK h (k := j * 4 + 2) (by omega)
  obtain ⟨y3, _, t3, q3⟩ := owns_thereK h (k := j * 4 + 3) (by omega)
  exact ⟨y0, y1, y2, y3, t0, q0, t1, q1, t2, q2, t3, q3⟩
theorem owns_there5 {w : World} {base : Nat} {e : TypeId} {g n c : Nat} {xs : List Value} (h : w.ownsRow base e 5 (.slice (some ⟨g, 0, none⟩) n c) n xs) {j : Nat} (hj : j < n) : ∃ y0 y1 y2 y3 y4, w.cell? ⟨g, j * 5, none⟩ = some y0 ∧ w.frozen? ⟨g, j * 5, none⟩ = false ∧ w.cell? ⟨g, j * 5 + 1, none⟩ = some y1 ∧ w.frozen? ⟨g, j * 5 + 1, none⟩ = false ∧ w.cell? ⟨g, j * 5 + 2, none⟩ = some y2 ∧ w.frozen? ⟨g, j * 5 + 2, none⟩ = false ∧ w.cell? ⟨g, j * 5 + 3, none⟩ = some y3 ∧ w.frozen? ⟨g, j * 5 + 3, none⟩ = false ∧ w.cell? ⟨g, j * 5 + 4, none⟩ = some y4 ∧ w.frozen? ⟨g, j * 5 + 4, none⟩ = false := by
  obtain ⟨y0, _, t0, q0⟩ := owns_thereK h (k := j * 5) (by omega)
  obtain ⟨y1, _, t1, q1⟩ := owns_thereK h (k := j * 5 + 1) (by omega)
  obtain ⟨y2, _, t2, q2⟩ := owns_thereK h (k := j * 5 + 2) (by omega)
  obtain ⟨y3, _, t3, q3⟩ := owns_thereK h (k := j * 5 + 3) (by omega)
  obtain ⟨y4, _, t4, q4⟩ := owns_thereK h (k := j * 5 + 4) (by omega)
  exact ⟨y0, y1, y2, y3, y4, t0, q0, t1, q1, t2, q2, t3, q3, t4, q4⟩
end Go.Proofs.YtbcdmcafobjpcaaGreatDoor.Bk
