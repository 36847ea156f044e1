/- The book: all lists of a kind are grown (growTexts, growInts). -/
import Derived.Test.YtgmjphekfhiapaaBookPut
namespace Go.Proofs.Ytgmjphekfhiapaa.Bk
open Go.RowKit

/-- An append: in place, with the same room; or anew, and all that was there stays. -/
def Grew (w w' : World) (v : Value) (n g cap : Nat) : Prop := (v = .slice (some ⟨g, 0, none⟩) n cap ∧ w.grownBy w' (some g)) ∨ (w.heap.size ≤ g ∧ w.grownBy w' none)
theorem run_append_two {P : Program} (w : World) (t ty : TypeId) (base : Nat) (e : TypeId) (i : TypeInfo) (z : Value) (bytes : Nat) (ht : P.underlying t = some (.slice e)) (hi : P.info? e = some i) (hz : i.zero = some z)
    (hsize : i.size = 1) (hby : i.bytes = bytes) (hzs : z.cells.size = 1)
    (v : Value) (n : Nat) (xs : List Value) (hown : w.ownsRow base e 1 v n xs)
    (ad : Addr) (m c : Nat) (news : List Value) (hl : news.length = m * 1) (hnews : ∀ j u, news[j]? = some u → w.cell? (ad.add j) = some u) (h1 : ∀ u ∈ news, u.oneCell' = true)
    (hm : 0 < m) (h63 : n + m ≤ maxLen) (hbytes : (n + m) * bytes ≤ 140737488355328) (hbase : base ≤ w.heap.size) :
    ∃ g cap w', (Builtin.append_ #[t, t] ty #[v, .slice (some ad) m c]).run P w = .ok (.slice (some ⟨g, 0, none⟩) (n + m) cap) w' ∧
      w'.ownsRow base e 1 (.slice (some ⟨g, 0, none⟩) (n + m) cap) (n + m) (xs ++ news) ∧ Grew w w' v n g cap ∧ base ≤ g ∧ g < w'.heap.size := by
  obtain ⟨g, cap, w', hr, h2, h3, h4, h5⟩ := run_append_lies (P := P) w t ty base e i z 1 bytes ht hi hz hsize hby hzs (by omega) v n xs hown ad m c news hl hnews h1 hm h63 hbytes hbase _ rfl
  have hbg : base ≤ g := (h2.lt g rfl).1
  rcases hown.2 with ⟨hv, hn⟩ | ⟨g0, cap0, cur, hv, hb0, hh, hnc, hcm, hcs, htk⟩
  · refine ⟨g, cap, w', hr, h2, .inr ⟨?_, ?_⟩, hbg, h5⟩
    · rcases h4 with q | q
      · rw [hv] at q; cases q
      · omega
    · rw [hv] at h3
      exact h3
  · by_cases hroom : n + m ≤ cap0
    · have hr2 := run_append_room (P := P) w t ty e i ht hi g0 n cap0 cur hh ad m c news (by rw [hsize]; exact hl) hnews h1 hroom (by rw [hsize, hl, hcs]; omega)
      rw [← hv, hr] at hr2
      obtain ⟨rfl, rfl⟩ : g = g0 ∧ cap = cap0 := by
        have := (Result.ok.inj hr2).1
        simpa using this
      refine ⟨g, cap, w', hr, h2, .inl ⟨hv, ?_⟩, hbg, h5⟩
      rw [hv] at h3
      exact h3
    · have holds : ∀ j u, xs[j]? = some u → w.cell? ((⟨g0, 0, none⟩ : Addr).add j) = some u := hown.cells (g := g0) (by rw [hv]; rfl)
      obtain ⟨v', w2, hr2, r1, r2⟩ := run_append_arg_grows (P := P) w t ty e i z 1 bytes ht hi hz hsize hby hzs (by omega) ⟨g0, 0, none⟩ n cap0 xs hown.1 holds ad m c news hl hnews (by omega) h63 hbytes
      rw [← hv, hr] at hr2
      obtain ⟨e1, e2⟩ := Result.ok.inj hr2
      subst e2
      rw [← e1] at r1
      exact ⟨g, cap, w', hr, h2, .inr ⟨(r1.lt g rfl).1, r2⟩, hbg, h5⟩
theorem wpList_append_two {P : Program} {ops : Array Oper} {rest : List Oper} {o : Oper} {a : Act} {w : World} {Q : Exit → Act → World → Prop} (hgd : o.guard = none) (s x : Operand) (t : TypeId)
    (ho : o.op = .call { callee := .builtin .append, args := #[s, x], argTypes := #[t, t] })
    (base : Nat) (e : TypeId) (i : TypeInfo) (z : Value) (bytes : Nat) (ht : P.underlying t = some (.slice e)) (hi : P.info? e = some i) (hz : i.zero = some z)
    (hsize : i.size = 1) (hby : i.bytes = bytes) (hzs : z.cells.size = 1)
    (v : Value) (n : Nat) (xs : List Value) (hs : a.eval s = v) (hown : w.ownsRow base e 1 v n xs)
    (ad : Addr) (m c : Nat) (news : List Value) (hx : a.eval x = .slice (some ad) m c) (hl : news.length = m * 1) (hnews : ∀ j u, news[j]? = some u → w.cell? (ad.add j) = some u) (h1 : ∀ u ∈ news, u.oneCell' = true)
    (hm : 0 < m) (h63 : n + m ≤ maxLen) (hbytes : (n + m) * bytes ≤ 140737488355328) (hbase : base ≤ w.heap.size)
    (h : ∀ g cap w', w'.ownsRow base e 1 (.slice (some ⟨g, 0, none⟩) (n + m) cap) (n + m) (xs ++ news) → Grew w w' v n g cap → base ≤ g → g < w'.heap.size → wpList P ops Q rest (a.put o.dst (.slice (some ⟨g, 0, none⟩) (n + m) cap)) w') : wpList P ops Q (o :: rest) a w := by
  obtain ⟨g, cap, w', hr, h2, h3, h4, h5⟩ := run_append_two (P := P) w t o.type base e i z bytes ht hi hz hsize hby hzs v n xs hown ad m c news hl hnews h1 hm h63 hbytes hbase
  exact wpList_append_run hgd s x t t ho v (.slice (some ad) m c) _ hs hx hr (h g cap w' h2 h3 h4 h5)
/-- The head of a row. -/
theorem owns_head {w : World} {base : Nat} {e : TypeId} {g n m c : Nat} {xs ys : List Value} (h : w.ownsRow base e 1 (.slice (some ⟨g, 0, none⟩) m c) m ys) (hn : n ≤ m) (hx : ys.take n = xs) : w.ownsRow base e 1 (.slice (some ⟨g, 0, none⟩) n c) n xs := by
  rcases h.2 with ⟨q, _⟩ | ⟨g', cap, cur, hv, hg, hh, h1, h2, h3, h4⟩
  · cases q
  · obtain ⟨rfl, rfl⟩ : g = g' ∧ c = cap := by simpa using hv
    refine ⟨by rw [← hx, List.length_take, h.1]; omega, .inr ⟨g, c, cur, rfl, hg, hh, by omega, h2, h3, ?_⟩⟩
    rw [← hx, ← h4, List.take_take]
    congr 1
    omega
theorem owns_grown {w w' : World} {row : Option Nat} {base : Nat} {e : TypeId} {k : Nat} {v : Value} {m : Nat} {cs : List Value} (h : w.ownsRow base e k v m cs) (hg : w.grownBy w' row) (hn : ∀ g, v.ownBlock = some g → row ≠ some g) : w'.ownsRow base e k v m cs := by
  have hlt := h.lt
  refine ⟨h.1, ?_⟩
  rcases h.2 with q | ⟨g, cap, cur, hv, hb, hh, r⟩
  · exact .inl q
  · have hb' : v.ownBlock = some g := by rw [hv]; rfl
    exact .inr ⟨g, cap, cur, hv, hb, by rw [grown_block hg (hlt g hb').2 (hn g hb')]; exact hh, r⟩
theorem below_none {w w' : World} (h : w.grownBy w' none) : Below w.heap.size w w' := ⟨h.os, h.tape, h.output, h.size, fun k hk => h.block k hk (fun q => by cases q)⟩
end Go.Proofs.Ytgmjphekfhiapaa.Bk
