import Derived.Laws.BytesArg
import Derived.Deep.RegionHeld3
import Derived.Test.YtiiioeodanmieaaGreatDoorYBook
set_option linter.unusedVariables false
set_option linter.unusedSimpArgs false
-- BookSame
namespace Go.Proofs.YtiiioeodanmieaaGreatDoor.Bk
open Go.RowKit

end Go.Proofs.YtiiioeodanmieaaGreatDoor.Bk
-- BookGen
namespace Go.Proofs.YtiiioeodanmieaaGreatDoor.Bk
open Go.RowKit

def BookB (w : World) (p : Nat) : Prop := ∃ cs : Array Value, w.heap[p]? = some (.cells cs 41 (0, 0)) ∧ cs.size = 12
theorem BookB.lt {w : World} {p : Nat} (h : BookB w p) : p < w.heap.size := by
  obtain ⟨cs, hb, _⟩ := h
  rcases Nat.lt_or_ge p w.heap.size with q | q
  · exact q
  · simp [Array.getElem?_eq_none q] at hb
theorem BookB.frozen {w : World} {p : Nat} (h : BookB w p) (j : Nat) : w.frozen? ⟨p, j, none⟩ = false := by
  obtain ⟨cs, hb, _⟩ := h
  simp [World.frozen?, hb]
structure Turn (w w' : World) (p : Nat) (J R : Nat → Prop) : Prop where
  size : w.heap.size ≤ w'.heap.size
  block : ∀ g, g < w.heap.size → g ≠ p → ¬ R g → w'.heap[g]? = w.heap[g]?
  cell : ∀ j, ¬ J j → w'.cell? ⟨p, j, none⟩ = w.cell? ⟨p, j, none⟩
  book : BookB w p → BookB w' p
theorem Turn.refl (w : World) (p : Nat) (J R : Nat → Prop) : Turn w w p J R := ⟨Nat.le_refl _, fun _ _ _ _ => rfl, fun _ _ => rfl, id⟩
theorem Turn.trans {w w1 w2 : World} {p : Nat} {J R : Nat → Prop} (h : Turn w w1 p J R) (k : Turn w1 w2 p J R) : Turn w w2 p J R :=
  ⟨Nat.le_trans h.size k.size, fun g hg hp hr => (k.block g (Nat.lt_of_lt_of_le hg h.size) hp hr).trans (h.block g hg hp hr), fun j hj => (k.cell j hj).trans (h.cell j hj), fun q => k.book (h.book q)⟩
theorem Turn.mono {w w' : World} {p : Nat} {J R J' R' : Nat → Prop} (h : Turn w w' p J R) (hJ : ∀ j, J j → J' j) (hR : ∀ g, g < w.heap.size → R g → R' g) : Turn w w' p J' R' :=
  ⟨h.size, fun g hg hp hr => h.block g hg hp (fun q => hr (hR g hg q)), fun j hj => h.cell j (fun q => hj (hJ j q)), h.book⟩
theorem book_of_block {w w' : World} {p : Nat} (hb : w'.heap[p]? = w.heap[p]?) (h : BookB w p) : BookB w' p := by
  obtain ⟨cs, h1, h2⟩ := h
  exact ⟨cs, by rw [hb]; exact h1, h2⟩
theorem Turn.of_below {w w' : World} {p : Nat} {J R : Nat → Prop} (h : Below w.heap.size w w') (hp : p < w.heap.size) : Turn w w' p J R :=
  ⟨h.size, fun g hg _ _ => h.block g hg, fun j _ => World.cell?_of_block (w := w) (a := ⟨p, j, none⟩) (h.block p hp), fun q => book_of_block (h.block p hp) q⟩
theorem Turn.grown {w w' : World} {p : Nat} {J R : Nat → Prop} {row : Option Nat} (h : w.grownBy w' row) (hp : p < w.heap.size) (hr : ∀ g, row = some g → g ≠ p ∧ R g) : Turn w w' p J R := by
  have hb : w'.heap[p]? = w.heap[p]? := h.block p hp (fun e => (hr p e.symm).1 rfl)
  exact ⟨h.size, fun g hg _ hn => h.block g hg (fun e => hn (hr g e.symm).2), fun j _ => World.cell?_of_block (w := w) (a := ⟨p, j, none⟩) hb, fun q => book_of_block hb q⟩
theorem Turn.set {w : World} {p : Nat} {J R : Nat → Prop} (j : Nat) (v : Value) (hJ : J j) : Turn w (w.setCell ⟨p, j, none⟩ v) p J R := by
  refine ⟨by simp, fun g _ hg _ => heap_setCell_other _ _ _ _ hg, fun i hi => ?_, fun q => ?_⟩
  · rw [World.cell?_setCell_other]
    intro e
    have : j = i := by simpa using e
    exact hi (this ▸ hJ)
  · obtain ⟨cs, h1, h2⟩ := q
    exact ⟨_, heap_setCell_same w p j cs _ v h1, by simpa using h2⟩
theorem owns_turn {w w' : World} {p base : Nat} {J R : Nat → Prop} {e : TypeId} {k : Nat} {v : Value} {m : Nat} {cs : List Value} (h : w.ownsRow base e k v m cs) (t : Turn w w' p J R) (hn : ∀ g, v.ownBlock = some g → g ≠ p ∧ ¬ R g) : w'.ownsRow base e k v m cs := by
  have hlt := h.lt
  refine ⟨h.1, ?_⟩
  rcases h.2 with q | ⟨g, cap, cur, hv, hg, hh, r⟩
  · exact .inl q
  · have hb : v.ownBlock = some g := by rw [hv]; rfl
    exact .inr ⟨g, cap, cur, hv, hg, by rw [t.block g (hlt g hb).2 (hn g hb).1 (hn g hb).2]; exact hh, r⟩
theorem not_book {w : World} {base p : Nat} {e : TypeId} {k : Nat} {v : Value} {m : Nat} {cs : List Value} (hb : BookB w p) (h : w.ownsRow base e k v m cs) (hne : e ≠ 41) {g : Nat} (hg : v.ownBlock = some g) : g ≠ p := by
  rintro rfl
  obtain ⟨cs', q, _⟩ := hb
  exact not_type h hne hg ⟨cs', _, q⟩
theorem owns_typed {w w' : World} {p base : Nat} {J : Nat → Prop} {e T : TypeId} {k : Nat} {v : Value} {m : Nat} {cs : List Value} (h : w.ownsRow base e k v m cs) (hb : BookB w p) (t : Turn w w' p J (OfType w T)) (h1 : e ≠ T) (h2 : e ≠ 41) : w'.ownsRow base e k v m cs :=
  owns_turn h t (fun _ hg => ⟨not_book hb h h2 hg, not_type h h1 hg⟩)
theorem pushed {w u w4 : World} {base p j g cap n : Nat} {O : TypeId} {v c : Value} {xs : List Value} {J : Nat → Prop} (hb : BookB w p) (hp : base ≤ p) (hu : Below w.heap.size w u) (ho : w.ownsRow base O 1 v n xs)
    (hown : w4.ownsRow base O 1 (.slice (some ⟨g, 0, none⟩) (n + 1) cap) (n + 1) (xs ++ [c])) (hgr : u.grownBy w4 v.ownBlock) (hat : v.ownBlock = some g ∨ g = u.heap.size) (hO : O ≠ 41) (hJ : J j) {old : Value} (hd : w4.cell? ⟨p, j, none⟩ = some old) :
    Below base w (w4.setCell ⟨p, j, none⟩ (.slice (some ⟨g, 0, none⟩) (n + 1) cap)) ∧ Turn w (w4.setCell ⟨p, j, none⟩ (.slice (some ⟨g, 0, none⟩) (n + 1) cap)) p J (fun i => v.ownBlock = some i) ∧
    Turn u (w4.setCell ⟨p, j, none⟩ (.slice (some ⟨g, 0, none⟩) (n + 1) cap)) p J (fun i => v.ownBlock = some i) ∧
    (w4.setCell ⟨p, j, none⟩ (.slice (some ⟨g, 0, none⟩) (n + 1) cap)).ownsRow base O 1 (.slice (some ⟨g, 0, none⟩) (n + 1) cap) (n + 1) (xs ++ [c]) ∧
    (w4.setCell ⟨p, j, none⟩ (.slice (some ⟨g, 0, none⟩) (n + 1) cap)).cell? ⟨p, j, none⟩ = some (.slice (some ⟨g, 0, none⟩) (n + 1) cap) ∧ (v.ownBlock = some g ∨ w.heap.size ≤ g) ∧ g ≠ p := by
  have hpl := hb.lt
  have hpu : p < u.heap.size := Nat.lt_of_lt_of_le hpl hu.size
  have t2 : Turn u w4 p J (fun i => v.ownBlock = some i) := Turn.grown hgr hpu (fun i hi => ⟨not_book hb ho hO hi, hi⟩)
  have t3 : Turn w4 (w4.setCell ⟨p, j, none⟩ (.slice (some ⟨g, 0, none⟩) (n + 1) cap)) p J (fun i => v.ownBlock = some i) := Turn.set j _ hJ
  have t1 : Turn w u p J (fun i => v.ownBlock = some i) := Turn.of_below hu hpl
  have hb4 := t2.book (t1.book hb)
  have hgp : g ≠ p := not_book hb4 hown hO rfl
  refine ⟨((hu.mono (Nat.le_trans hp (Nat.le_of_lt hpl))).grown hgr (by have := hu.size; omega) (fun k hk => (ho.lt k hk).1)).setCell (p := ⟨p, j, none⟩) hp _, (t1.trans t2).trans t3, t2.trans t3, owns_other hown (fun e => hgp (by simpa [Value.ownBlock] using e)) _, by rw [World.cell?_setCell_same _ _ _ hd], ?_, hgp⟩
  rcases hat with q | q
  · exact .inl q
  · exact .inr (by rw [q]; exact hu.size)
theorem Turn.store {w : World} {p g j : Nat} {J R : Nat → Prop} (v : Value) (hb : BookB w p) (hg : g ≠ p) (hr : R g) : Turn w (w.setCell ⟨g, j, none⟩ v) p J R := by
  refine ⟨by simp, fun i _ _ hn => heap_setCell_other _ _ _ _ (fun e => hn (by rw [show i = g from e]; exact hr)), fun i _ => ?_, fun _ => book_of_block (heap_setCell_other _ _ _ _ (fun e => hg e.symm)) hb⟩
  rw [World.cell?_setCell_other]
  intro e
  exact hg (by simpa using congrArg Addr.block e)
theorem Turn.more {w wr w' : World} {p : Nat} {J R : Nat → Prop} {row : Option Nat} (t : Turn w wr p J R) (h : wr.grownBy w' row) (hp : p < wr.heap.size) (hr : ∀ g, row = some g → g ≠ p ∧ (R g ∨ w.heap.size ≤ g)) : Turn w w' p J R := by
  have hb : w'.heap[p]? = wr.heap[p]? := h.block p hp (fun e => (hr p e.symm).1 rfl)
  refine ⟨Nat.le_trans t.size h.size, fun g hg hgp hn => ?_, fun j hj => (World.cell?_of_block (w := wr) (a := ⟨p, j, none⟩) hb).trans (t.cell j hj), fun q => book_of_block hb (t.book q)⟩
  rw [h.block g (Nat.lt_of_lt_of_le hg t.size) (fun e => by
    rcases (hr g e.symm).2 with q | q
    · exact hn q
    · omega)]
  exact t.block g hg hgp hn
end Go.Proofs.YtiiioeodanmieaaGreatDoor.Bk
-- BookMark
namespace Go.Proofs.YtiiioeodanmieaaGreatDoor.Bk
open Go.RowKit

theorem intInfo : (Tryz.prog.info? 3).map (fun i => (i.zero, i.size, i.bytes)) = some (some (.int .i64 0), 1, 8) := by kernel_rfl
def markI (i k : Int) : Int := -1000000 * i - k - 7
def marksI (i : Int) (from_ n : Nat) : List Int := (List.range n).map fun k => markI i ((from_ + k : Nat) : Int)
theorem marksI_len (i : Int) (f n : Nat) : (marksI i f n).length = n := by simp [marksI]
theorem marksI_snoc (i : Int) (f n : Nat) : marksI i f (n + 1) = marksI i f n ++ [markI i ((f + n : Nat) : Int)] := by simp [marksI, List.range_succ]

set_option maxRecDepth 100000 in
set_option maxHeartbeats 1000000 in
theorem markInts_is (i : Int) (f n : Nat) (w : World) (hi0 : 0 ≤ i) (hi1 : i ≤ 1000) (hf : f < 2 ^ 40) (hn : n < 2 ^ 40) :
    Calls Tryz.prog 141 #[.int .i64 i, .int .i64 (f : Int), .int .i64 (n : Int)] w fun e w' => ∃ v, e = .returned v ∧ Below w.heap.size w w' ∧ w'.ownsRow w.heap.size 3 1 v n (vals (marksI i f n)) := by
  obtain ⟨i0, hi, hz0, hz1, hz2⟩ := info_parts intInfo
  have HI := Lib.hid (And.intro hi (And.intro hz0 (And.intro hz1 hz2)))
  clear hi hz0 hz1 hz2
  have HB := Lib.hid (And.intro hf hn)
  have hf0 : (f : Int) ≤ 1099511627776 := by omega
  have hn0 : (n : Int) ≤ 1099511627776 := by omega
  clear hf hn
  go_enter Tryz.func141, Tryz.ntmps141
  go_wp2
  go_loopw [7, 8] (fun v k wr => ∃ j q : Nat, j ≤ n ∧ Hid (q = f + j) ∧ k = .int .i64 (q : Int) ∧ Below w.heap.size w wr ∧ wr.ownsRow w.heap.size 3 1 v j (vals (marksI i f j))) (fun _ k _ => f + n - (intOf k).toNat)
  case atStart => exact ⟨0, f, Nat.zero_le _, Lib.hid rfl, rfl, Below.refl _ _, World.ownsRow_nil _ _ _ _⟩
  case round =>
    obtain ⟨j, q, hj, hq, rfl, hb, ho⟩ := hrel
    by_cases hlt : j < n
    · have HR := Lib.hid (And.intro hb ho)
      have hk : (q : Int) < (f : Int) + (n : Int) := by have := hq.out; omega
      have hq0 : (q : Int) ≤ 2199023255552 := by omega
      have hsz := hb.size
      clear hb ho
      go_wp2_with (refine wpList_append_lies _ rfl (.tmp 17) (.tmp 23) 25 rfl w.heap.size 3 i0 _ 1 8 Tryz.underlying25 HI.out.1 HI.out.2.1 HI.out.2.2.1 HI.out.2.2.2 rfl (by omega) u7 j (vals (marksI i f j)) rfl (HR.out.2.alloc _) _ 1 1 [.int .i64 (markI i (q : Int))] rfl rfl (by exact World.news_of_block (heap_alloc_last _ _)) (by intro u hu; simp at hu; rw [hu]; rfl) (by omega) (by unfold maxLen; have := HB.out; omega) (by have := HB.out; omega) (by simp; omega) _ rfl ?_
                   intro g cap w4 hown4 hgr4 hat4 hlt4
                   have HX := Lib.hid (And.intro hown4 hgr4)
                   clear hown4 hgr4 hat4 hlt4)
      have e : marksI i f (j + 1) = marksI i f j ++ [markI i (q : Int)] := by rw [marksI_snoc, ← hq.out]
      refine ⟨⟨j + 1, q + 1, by omega, Lib.hid (by have := hq.out; omega), by go_num, (HR.out.1.alloc hsz _).grown HX.out.2 (by simp; omega) (fun b hb => (HR.out.2.lt b hb).1), ?_⟩, by have := hq.out; simp [intOf]; omega⟩
      rw [e]
      simpa [vals] using HX.out.1
    · obtain rfl : j = n := by omega
      have HR := Lib.hid (And.intro hb ho)
      have hk : ¬ (q : Int) < (f : Int) + (j : Int) := by have := hq.out; omega
      have hq0 : (q : Int) ≤ 2199023255552 := by have := hq.out; omega
      clear hb ho hlt hj
      go_wp2
      go_ret
      exact ⟨_, rfl, HR.out.1, HR.out.2⟩
end Go.Proofs.YtiiioeodanmieaaGreatDoor.Bk
-- BookName
namespace Go.Proofs.YtiiioeodanmieaaGreatDoor.Bk
open Go.RowKit

theorem conv_cells (w : World) (t : TypeId) (cs : Array Value) (xs : List Int) (n c : Nat) (hn : xs.length = n) (hx : ∀ i, i < n → cs[i]? = some (.int .u8 (xs.getD i 0))) :
    (convert 241 9 (.slice (some ⟨w.heap.size, 0, none⟩) n c)).run Tryz.prog (w.alloc (.cells cs t)) = .ok (.string (strOfNums xs)) (w.alloc (.cells cs t)) := by
  refine run_convert_bytes_arg _ 241 5 (by kernel_rfl) (by kernel_rfl) w.heap.size 0 n c xs hn (fun i hi => ?_) 9 (by kernel_rfl)
  rw [Nat.zero_add, World.cell?_alloc_new]
  exact hx i hi
def nameB (i k : Nat) : ByteArray := strOfNums [109, 65 + (i : Int) % 26, 65 + (i : Int) / 26 % 26, 48 + (k : Int) % 10, 48 + (k : Int) / 10 % 10, 48 + (k : Int) / 100 % 10]
def marksT (i f n : Nat) : List ByteArray := (List.range n).map fun k => nameB i (f + k)
theorem marksT_len (i f n : Nat) : (marksT i f n).length = n := by simp [marksT]
theorem marksT_snoc (i f n : Nat) : marksT i f (n + 1) = marksT i f n ++ [nameB i (f + n)] := by simp [marksT, List.range_succ]
end Go.Proofs.YtiiioeodanmieaaGreatDoor.Bk
-- BookMarked
namespace Go.Proofs.YtiiioeodanmieaaGreatDoor.Bk
open Go.RowKit

structure IL where
  a : Option Addr
  l : List Int
  c : Nat
def IL.cell (x : IL) : Value := .slice x.a x.l.length x.c
structure OutInts (w : World) (ao : Option Addr) (L : List IL) : Prop where
  row : LiesAt w ao (L.map IL.cell)
  each : ∀ x ∈ L, LiesAt w x.a (vals x.l)
  len : ∀ x ∈ L, x.l.length < 2 ^ 40
theorem OutInts.below {w w' : World} {ao : Option Addr} {L : List IL} (h : OutInts w ao L) (b : Below w.heap.size w w') : OutInts w' ao L :=
  ⟨h.row.below b, fun x hx => (h.each x hx).below b, h.len⟩
def MarkedInts (L : List IL) : Prop := ∀ (i : Nat) (x : IL), L[i]? = some x → x.l = marksI (i : Int) 0 x.l.length

set_option maxRecDepth 100000 in
set_option maxHeartbeats 1000000 in
theorem markedInts_is (ao : Option Addr) (L : List IL) (co : Nat) (w : World) (h : OutInts w ao L) (hm : MarkedInts L) (hL : L.length ≤ 1000) :
    Calls Tryz.prog 94 #[.slice ao L.length co] w fun e w' => e = .returned (.bool true) ∧ Below w.heap.size w w' := by
  have H := Lib.hid (And.intro h hm)
  have hLi : (L.length : Int) ≤ 1000 := by omega
  clear h hm hL
  go_enter Tryz.func94, Tryz.ntmps94
  go_wp2
  go_loopw [3] (fun i wr => ∃ k : Nat, k ≤ L.length ∧ i = .int .i64 (k : Int) ∧ Below w.heap.size w wr) (fun i _ => L.length - (intOf i).toNat)
  case atStart => exact ⟨0, Nat.zero_le _, rfl, Below.refl _ _⟩
  case round =>
    obtain ⟨k, hk, rfl, hb⟩ := hrel
    by_cases hlt : k < L.length
    · have hx : L[k]? = some L[k] := List.getElem?_eq_getElem hlt
      have hin : L[k] ∈ L := List.getElem_mem hlt
      have hO := H.out.1.below hb
      obtain ⟨b, rfl, hbl, hc⟩ := hO.row k L[k].cell (by rw [List.getElem?_map, hx]; rfl)
      have hmk := H.out.2 k _ hx
      have hel := hO.each _ hin
      have hle := H.out.1.len _ hin
      generalize L[k] = x at *
      have c0 : wr.cell? (b.add k) = some (.slice x.a x.l.length x.c) := hc
      have hi1 : (k : Int) < (L.length : Int) := by omega
      have hk1 : (k : Int) ≤ 1000 := by omega
      have HB := Lib.hid (And.intro hb (And.intro hbl (And.intro hmk (And.intro hel hle))))
      clear hb hbl hmk hel hle hO hc hx hin
      go_wp2_with fail
      go_region_held3 (fun u => u.cell? (b.add k) = some (.slice x.a x.l.length x.c)) (first | assumption | (simp only [World.cell?_drew]; assumption) | go_simp) (first
        | (go_at_call 141
           refine (markInts_is (k : Int) 0 x.l.length _ (by omega) hk1 (by decide) HB.out.2.2.2.2).mono ?_
           rintro e w2 ⟨v, rfl, b2, o2⟩
           rw [← HB.out.2.2.1] at o2
           obtain ⟨a2, c2, rfl, h2, _⟩ := own_form o2
           have d2 : w2.cell? (b.add k) = some (.slice x.a x.l.length x.c) := by
             rw [b2.cell (by rw [add_block]; exact HB.out.2.1)]
             exact c0
           have b2' : Below wr.heap.size wr w2 := (Below.refl wr.heap.size wr).drew.trans b2
           have HX := Lib.hid (And.intro b2' h2)
           clear b2 b2' o2 h2)
        | (go_at_call 29
           refine (SameInts_is x.l x.l x.a a2 x.c c2 _ (HB.out.2.2.2.1.below HX.out.1) HX.out.2 (by have := HB.out.2.2.2.2; unfold maxLen; omega) (by have := HB.out.2.2.2.2; unfold maxLen; omega) true ⟨fun _ => rfl, fun _ => rfl⟩).mono ?_
           rintro e w3 ⟨rfl, m3, rfl⟩))
      all_goals
        go_wp2
        exact ⟨⟨k + 1, by omega, by go_num, bel_drewN (below_next HB.out.1 HX.out.1) _⟩, by simp [intOf]; omega⟩
    · obtain rfl : k = L.length := by omega
      have hn : ¬ (L.length : Int) < (L.length : Int) := by omega
      have HB := Lib.hid hb
      clear hlt hk hb
      go_wp2
      go_ret
      exact ⟨rfl, HB.out⟩
end Go.Proofs.YtiiioeodanmieaaGreatDoor.Bk
-- BookStill
namespace Go.Proofs.YtiiioeodanmieaaGreatDoor.Bk
open Go.RowKit

structure BothInts (w : World) (p : Nat) (L M : List IL) (ao am : Option Addr) (co cm : Nat) : Prop where
  cl : w.cell? ⟨p, 2, none⟩ = some (.slice ao L.length co)
  cm : w.cell? ⟨p, 3, none⟩ = some (.slice am M.length cm)
  ol : OutInts w ao L
  om : OutInts w am M
  len : L.length = M.length
  same : ∀ (i : Nat) (x y : IL), L[i]? = some x → M[i]? = some y → x.l = y.l

set_option maxRecDepth 100000 in
set_option maxHeartbeats 1000000 in
theorem stillInts_is (p : Nat) (L M : List IL) (ao am : Option Addr) (co cm : Nat) (w : World) (h : BothInts w p L M ao am co cm) (hL : L.length ≤ 1000) :
    Calls Tryz.prog 76 #[.pointer (some ⟨p, 0, none⟩)] w fun e w' => e = .returned (.bool true) ∧ ∃ m, w' = w.drewN m := by
  have H := Lib.hid h
  have hLi : (L.length : Int) ≤ 1000 := by omega
  have f1 := h.cl
  have f2 := h.cm
  clear h hL
  go_enter Tryz.func76, Tryz.ntmps76
  go_wp2
  go_loopw [3] (fun i wr => ∃ k m : Nat, k ≤ L.length ∧ i = .int .i64 (k : Int) ∧ wr = w.drewN m) (fun i _ => L.length - (intOf i).toNat)
  case atStart => exact ⟨0, 0, Nat.zero_le _, rfl, rfl⟩
  case round =>
    obtain ⟨k, m, hk, rfl, rfl⟩ := hrel
    by_cases hlt : k < L.length
    · have hltM : k < M.length := by have := H.out.len; omega
      have hx : L[k]? = some L[k] := List.getElem?_eq_getElem hlt
      have hy : M[k]? = some M[k] := List.getElem?_eq_getElem hltM
      obtain ⟨b, rfl, _, hc⟩ := H.out.ol.row k L[k].cell (by rw [List.getElem?_map, hx]; rfl)
      obtain ⟨b', rfl, _, hc'⟩ := H.out.om.row k M[k].cell (by rw [List.getElem?_map, hy]; rfl)
      have hs := H.out.same k _ _ hx hy
      have hex := H.out.ol.each _ (List.getElem_mem hlt)
      have hey := H.out.om.each _ (List.getElem_mem hltM)
      have hle := H.out.ol.len _ (List.getElem_mem hlt)
      generalize L[k] = x at *
      generalize M[k] = y at *
      have c0 : w.cell? (b.add k) = some (.slice x.a x.l.length x.c) := hc
      have c1 : w.cell? (b'.add k) = some (.slice y.a y.l.length y.c) := hc'
      rw [← hs] at c1 hey
      have hi1 : (k : Int) < (L.length : Int) := by omega
      have hi2 : (k : Int) < (M.length : Int) := by omega
      have HB := Lib.hid (And.intro hex (And.intro hey hle))
      clear hex hey hle hs hc hc' hx hy
      go_wp2_with fail
      go_region_held3 (fun u => u.cell? ⟨p, 2, none⟩ = some (.slice (some b) L.length co) ∧ u.cell? ⟨p, 3, none⟩ = some (.slice (some b') M.length cm) ∧ u.cell? (b.add k) = some (.slice x.a x.l.length x.c) ∧ u.cell? (b'.add k) = some (.slice y.a x.l.length y.c)) (first
        | (exact ⟨f1, f2, c0, c1⟩)) (first
        | (go_at_call 29
           refine (SameInts_is x.l x.l x.a y.a x.c y.c _ (HB.out.1.below (bel_drewN (Below.refl _ _) _)) (HB.out.2.1.below (bel_drewN (Below.refl _ _) _)) (by have := HB.out.2.2; unfold maxLen; omega) (by have := HB.out.2.2; unfold maxLen; omega) true ⟨fun _ => rfl, fun _ => rfl⟩).mono ?_
           rintro e w3 ⟨rfl, m3, rfl⟩))
      all_goals
        go_wp2
        exact ⟨⟨k + 1, _, by omega, by go_num, rfl⟩, by simp [intOf]; omega⟩
    · obtain rfl : k = L.length := by omega
      have hn : ¬ (L.length : Int) < (L.length : Int) := by omega
      clear hlt hk
      go_wp2
      go_ret
      exact ⟨rfl, _, rfl⟩
end Go.Proofs.YtiiioeodanmieaaGreatDoor.Bk
-- BookStore
namespace Go.Proofs.YtiiioeodanmieaaGreatDoor.Bk
open Go.RowKit

end Go.Proofs.YtiiioeodanmieaaGreatDoor.Bk
-- BookKeep
namespace Go.Proofs.YtiiioeodanmieaaGreatDoor.Bk
open Go.RowKit

set_option maxHeartbeats 400000 in
theorem copyInts_is (a : Option Addr) (l : List Int) (c : Nat) (w : World) (h : LiesAt w a (vals l)) (hl : l.length < 2 ^ 40) :
    Calls Tryz.prog 53 #[.slice a l.length c] w fun e w' => ∃ v, e = .returned v ∧ Below w.heap.size w w' ∧ w'.ownsRow w.heap.size 3 1 v l.length (vals l) := by
  obtain ⟨i0, hi, hz0, hz1, hz2⟩ := info_parts intInfo
  have HI := Lib.hid (And.intro hi (And.intro hz0 (And.intro hz1 hz2)))
  clear hi hz0 hz1 hz2
  have H := Lib.hid h
  clear h
  go_enter Tryz.func53, Tryz.ntmps53
  go_wp2_with (refine wpList_append_copy rfl (.tmp 3) 25 rfl 3 i0 _ 1 8 Tryz.underlying25 HI.out.1 HI.out.2.1 HI.out.2.2.1 HI.out.2.2.2 rfl (by omega) (by omega) a l.length c (vals l) rfl (fun j u hu => by obtain ⟨b, q1, _, q3⟩ := H.out j u hu; exact ⟨b, q1, q3⟩) (by simp [vals]) vals_one hl ?_
               intro v w1 b1 o1
               have HX := Lib.hid (And.intro b1 o1)
               clear b1 o1)
  go_ret
  exact ⟨_, rfl, HX.out.1, HX.out.2⟩
end Go.Proofs.YtiiioeodanmieaaGreatDoor.Bk
-- BookAdd
namespace Go.Proofs.YtiiioeodanmieaaGreatDoor.Bk
open Go.RowKit

theorem outInfoInts : (Tryz.prog.info? 25).map (fun i => (i.zero, i.size, i.bytes)) = some (some (.slice none 0 0), 1, 24) := by kernel_rfl
structure KeepInts (w : World) (base p : Nat) (L M : List IL) : Prop where
  ex : ∃ vO vM, w.cell? ⟨p, 2, none⟩ = some vO ∧ w.cell? ⟨p, 3, none⟩ = some vM ∧ w.ownsRow base 25 1 vO L.length (L.map IL.cell) ∧ w.ownsRow base 25 1 vM M.length (M.map IL.cell) ∧ (∀ g, vO.ownBlock = some g → vM.ownBlock ≠ some g)
  each : ∀ x ∈ L, w.ownsRow base 3 1 x.cell x.l.length (vals x.l)
  copy : ∀ x ∈ M, w.ownsRow base 3 1 x.cell x.l.length (vals x.l)
  len : L.length = M.length
  same : ∀ (i : Nat) (x y : IL), L[i]? = some x → M[i]? = some y → x.l = y.l
  apart : L.Pairwise (fun x y => ∀ g, x.cell.ownBlock = some g → y.cell.ownBlock ≠ some g)
  small : ∀ x ∈ L, x.l.length ≤ 1000
theorem KeepInts.below {w w' : World} {base p : Nat} {L M : List IL} (h : KeepInts w base p L M) (hb : BookB w p) (b : Below w.heap.size w w') : KeepInts w' base p L M := by
  obtain ⟨vO, vM, c0, c1, o0, o1, ha⟩ := h.ex
  have t : Turn w w' p (fun _ => False) (fun _ => False) := Turn.of_below b hb.lt
  exact ⟨⟨vO, vM, by rw [t.cell _ id]; exact c0, by rw [t.cell _ id]; exact c1, own_below o0 b, own_below o1 b, ha⟩,
    fun x hx => own_below (h.each x hx) b, fun x hx => own_below (h.copy x hx) b, h.len, h.same, h.apart, h.small⟩

end Go.Proofs.YtiiioeodanmieaaGreatDoor.Bk
-- BookPut
namespace Go.Proofs.YtiiioeodanmieaaGreatDoor.Bk
open Go.RowKit

theorem vals_len' (l : List Int) : (vals l).length = l.length := by simp [vals]
theorem vals_set (l : List Int) (k : Nat) (x : Int) : (vals l).set k (Value.int .i64 x) = vals (l.set k x) := by simp [vals]
theorem vals_at (l : List Int) (k : Nat) (h : k < l.length) : (vals l)[k]? = some (Value.int .i64 l[k]) := by simp [vals, h]
structure HeldInts (w : World) (base p : Nat) (L : List IL) (C : Nat → List Int) : Prop where
  ex : ∃ ao co, w.cell? ⟨p, 2, none⟩ = some (.slice ao L.length co) ∧ w.ownsRow base 25 1 (.slice ao L.length co) L.length (L.map IL.cell)
  each : ∀ (i : Nat) (x : IL), L[i]? = some x → w.ownsRow base 3 1 x.cell x.l.length (vals (C i))
  apart : ∀ (i j : Nat) (x y : IL), i ≠ j → L[i]? = some x → L[j]? = some y → ∀ g, x.cell.ownBlock = some g → y.cell.ownBlock ≠ some g
  small : ∀ x ∈ L, x.l.length ≤ 1000
theorem KeepInts.held {w : World} {base p : Nat} {L M : List IL} (h : KeepInts w base p L M) : HeldInts w base p L (fun i => (L[i]?.map (·.l)).getD []) := by
  obtain ⟨vO, vM, c0, _, o0, _, _⟩ := h.ex
  obtain ⟨ao, co, rfl⟩ := owns_slice o0
  refine ⟨⟨ao, co, c0, o0⟩, fun i x hx => by rw [hx]; exact h.each x (List.mem_of_getElem? hx), fun i j x y hij hx hy => ?_, h.small⟩
  have hp := List.pairwise_iff_getElem.1 h.apart
  obtain ⟨hi, rfl⟩ := List.getElem?_eq_some_iff.1 hx
  obtain ⟨hj, rfl⟩ := List.getElem?_eq_some_iff.1 hy
  rcases Nat.lt_or_gt_of_ne hij with q | q
  · exact hp i j hi hj q
  · exact fun g e1 e2 => hp j i hj hi q g e2 e1
theorem HeldInts.below {w w' : World} {base p : Nat} {L : List IL} {C : Nat → List Int} (h : HeldInts w base p L C) (hb : BookB w p) (b : Below w.heap.size w w') : HeldInts w' base p L C := by
  obtain ⟨ao, co, c0, o0⟩ := h.ex
  have t : Turn w w' p (fun _ => False) (fun _ => False) := Turn.of_below b hb.lt
  exact ⟨⟨ao, co, by rw [t.cell _ id]; exact c0, own_below o0 b⟩, fun i x hx => own_below (h.each i x hx) b, h.apart, h.small⟩
theorem HeldInts.store {w : World} {base p : Nat} {L : List IL} {C : Nat → List Int} (h : HeldInts w base p L C) (hb : BookB w p) {k : Nat} {x : IL} (hk : L[k]? = some x) {g c : Nat} (hx : x.cell = .slice (some ⟨g, 0, none⟩) x.l.length c) (j : Nat) (v : Int) :
    HeldInts (w.setCell ⟨g, j, none⟩ (Value.int .i64 v)) base p L (fun i => if i = k then (C k).set j v else C i) ∧ Below base w (w.setCell ⟨g, j, none⟩ (Value.int .i64 v)) ∧ BookB (w.setCell ⟨g, j, none⟩ (Value.int .i64 v)) p ∧ g ≠ p ∧ g < w.heap.size := by
  have ok := h.each k x hk
  have hg : x.cell.ownBlock = some g := by rw [hx]; rfl
  have hgp := not_book hb ok (by decide) hg
  obtain ⟨ao, co, c0, o0⟩ := h.ex
  refine ⟨⟨⟨ao, co, ?_, owns_other o0 (fun e => ?_) _⟩, fun i y hy => ?_, h.apart, h.small⟩, (Below.refl _ _).setCell (p := ⟨g, j, none⟩) (ok.lt g hg).1 _, book_of_block (heap_setCell_other _ _ _ _ (fun e => hgp e.symm)) hb, hgp, (ok.lt g hg).2⟩
  · rw [World.cell?_setCell_other]
    · exact c0
    · intro e
      exact hgp (by simpa using congrArg Addr.block e)
  · obtain ⟨cur, hh⟩ := own_type o0 e
    exact not_type ok (show 3 ≠ 25 by decide) hg ⟨cur, _, hh⟩
  · by_cases hi : i = k
    · subst hi
      obtain rfl : x = y := by rw [hk] at hy; simpa using hy
      rw [if_pos rfl, ← vals_set]
      rw [hx] at ok ⊢
      exact owns_set ok j _
    · rw [if_neg hi]
      exact owns_other (h.each i y hy) (fun e => h.apart i k y x hi hy hk g e hg) _

structure PuttingInts (w wr : World) (base p : Nat) (L : List IL) (k : Nat) (C : Nat → List Int) : Prop where
  below : Below base w wr
  turn : Turn w wr p (fun _ => False) (OfType w 3)
  book : BookB wr p
  held : HeldInts wr base p L C
  done : ∀ (k' : Nat) (x : IL), k' < k → L[k']? = some x → C k' = marksI (k' : Int) 0 x.l.length

theorem PuttingInts.next {w wr wx : World} {base p : Nat} {L : List IL} {k : Nat} {C : Nat → List Int} (h : PuttingInts w wr base p L k C) (hp : base ≤ p) (b : Below wr.heap.size wr wx) : PuttingInts w wx base p L k C :=
  ⟨h.below.trans (b.mono (Nat.le_trans hp (Nat.le_of_lt h.book.lt))), h.turn.trans (Turn.of_below b h.book.lt), book_of_block (b.block p h.book.lt) h.book, h.held.below h.book b, h.done⟩
set_option maxRecDepth 100000 in
set_option maxHeartbeats 2000000 in
theorem putInts_is (base p : Nat) (L : List IL) (C : Nat → List Int) (w : World) (hb : BookB w p) (hp : base ≤ p) (h : HeldInts w base p L C) (hL : L.length ≤ 200) :
    Calls Tryz.prog 83 #[.pointer (some ⟨p, 0, none⟩)] w fun e w' => e = .returned (.tuple #[]) ∧ ∃ C', PuttingInts w w' base p L L.length C' := by
  have HS : Hid (PuttingInts w w base p L 0 C) := Lib.hid ⟨Below.refl _ _, Turn.refl _ _ _ _, hb, h, fun _ _ q => absurd q (Nat.not_lt_zero _)⟩
  have HB := Lib.hid h
  have hLi : (L.length : Int) ≤ 200 := by omega
  clear h hb
  go_enter Tryz.func83, Tryz.ntmps83
  go_wp2
  go_loopw [2] (fun i wr => ∃ k : Nat, k ≤ L.length ∧ i = .int .i64 (k : Int) ∧ Hid (∃ C', PuttingInts w wr base p L k C')) (fun i _ => L.length - (intOf i).toNat)
  case atStart => exact ⟨0, Nat.zero_le _, rfl, Lib.hid ⟨C, HS.out⟩⟩
  case round =>
    obtain ⟨k, hk, rfl, HP⟩ := hrel
    obtain ⟨C1, hP⟩ := HP.out
    obtain ⟨ao, co, c0, o0⟩ := hP.held.ex
    by_cases hlt : k < L.length
    · have hx : L[k]? = some L[k] := List.getElem?_eq_getElem hlt
      obtain ⟨go, co', hv, hrow, _⟩ := own_blk o0 (by omega)
      obtain ⟨rfl, rfl⟩ : ao = some ⟨go, 0, none⟩ ∧ co = co' := by simpa using hv
      have r0 := (owns_cell o0 (k := k) (x := L[k].cell) (by rw [List.getElem?_map, hx]; rfl)).1
      have hsm := hP.held.small _ (List.getElem_mem hlt)
      generalize L[k] = x at *
      have r1 : wr.cell? ⟨go, k, none⟩ = some (.slice x.a x.l.length x.c) := r0
      have hi1 : (k : Int) < (L.length : Int) := by omega
      have hk1 : (k : Int) ≤ 1000 := by omega
      have hgo : go < wr.heap.size := (o0.lt go rfl).2
      have HQ := Lib.hid (And.intro hP (And.intro hx (And.intro hsm (And.intro hgo o0))))
      clear hP hx r0 hv hrow o0 HP
      go_wp2_with (go_at_call 141
                   refine (markInts_is (k : Int) 0 x.l.length _ (by omega) hk1 (by decide) (by have := HQ.out.2.2.1; omega)).mono ?_
                   rintro e w2 ⟨vm, rfl, b2, o2⟩
                   obtain ⟨am, cm, rfl, l2, hform⟩ := own_form o2
                   have H2 := Lib.hid (And.intro b2 (And.intro o2 (And.intro l2 hform)))
                   clear b2 o2 l2 hform)
      have hml : (marksI (k : Int) 0 x.l.length).length = x.l.length := by simp [marksI]
      generalize hme : marksI (k : Int) 0 x.l.length = md at *
      have HME := Lib.hid hme.symm
      clear hme
      have HI0 : Hid (∃ C', PuttingInts w w2 base p L k C' ∧ (C' k).take 0 = md.take 0 ∧ LiesAt w2 am (vals md)) := Lib.hid ⟨C1, ⟨HQ.out.1.below.trans (H2.out.1.mono (Nat.le_trans hp (Nat.le_of_lt HQ.out.1.book.lt))), HQ.out.1.turn.trans (Turn.of_below H2.out.1 HQ.out.1.book.lt), book_of_block (H2.out.1.block p HQ.out.1.book.lt) HQ.out.1.book, HQ.out.1.held.below HQ.out.1.book H2.out.1, HQ.out.1.done⟩, by simp, H2.out.2.2.1⟩
      have hgx : ∀ g, x.cell.ownBlock = some g → ∀ b : Addr, am = some b → b.block ≠ g := fun g hg b hb => by
        have h1 := ((HQ.out.1.held.each k x HQ.out.2.1).lt g hg).2
        rcases H2.out.2.2.2 with e | ⟨g', e, h2, _⟩
        · rw [e] at hb; cases hb
        · rw [hb] at e
          obtain rfl : b = ⟨g', 0, none⟩ := by simpa using e
          show g' ≠ g
          omega
      have HG := Lib.hid hgx
      clear hgx c0 r1
      go_loopw [4] (fun i wx => ∃ j : Nat, j ≤ x.l.length ∧ i = .int .i64 (j : Int) ∧ Hid (∃ C', PuttingInts w wx base p L k C' ∧ (C' k).take j = md.take j ∧ LiesAt wx am (vals md))) (fun i _ => x.l.length - (intOf i).toNat)
      case atStart => exact ⟨0, Nat.zero_le _, rfl, HI0⟩
      case round =>
        obtain ⟨j, hj, rfl, HJ⟩ := hrel
        obtain ⟨C2, hS, hpart, hmd⟩ := HJ.out
        by_cases hjl : j < x.l.length
        · obtain ⟨ao', co2, c0, o0⟩ := hS.held.ex
          obtain ⟨go', co', hv, _⟩ := own_blk o0 (by omega)
          obtain ⟨rfl, rfl⟩ : ao' = some ⟨go', 0, none⟩ ∧ co2 = co' := by simpa using hv
          have r1 : wr.cell? ⟨go', k, none⟩ = some (.slice x.a x.l.length x.c) := (owns_cell o0 (k := k) (x := x.cell) (by rw [List.getElem?_map, HQ.out.2.1]; rfl)).1
          have ok := hS.held.each k x HQ.out.2.1
          have hlen : (C2 k).length = x.l.length := by have := ok.1; rw [vals_len'] at this; omega
          obtain ⟨g, cx, hxc, _⟩ := own_blk ok (by omega)
          have hst := hS.held.store hS.book HQ.out.2.1 hxc j (md[j]'(by omega))
          rw [hxc] at ok
          obtain ⟨t1, t2⟩ := owns_cell ok (vals_at (C2 k) j (by omega))
          obtain ⟨bm, hbm, hbl, hm1⟩ := hmd.at_ (vals_at md j (by omega))
          obtain rfl := hbm
          have hne := HG.out g (by rw [hxc]; rfl) bm rfl
          have hxa : x.a = some ⟨g, 0, none⟩ := by
            have e : x.a = some ⟨g, 0, none⟩ ∧ x.c = cx := by simpa [IL.cell] using hxc
            exact e.1
          rw [hxa] at r1
          have hmj : md[j]? = some (md[j]'(by omega)) := List.getElem?_eq_getElem _
          generalize md[j]'(by omega) = zv at *
          have hi2 : (j : Int) < (x.l.length : Int) := by omega
          have hgt := not_book hS.book (hS.held.each k x HQ.out.2.1) (by decide) (show x.cell.ownBlock = some g by rw [hxc]; rfl)
          have HN : Hid (∃ C', PuttingInts w (wr.setCell ⟨g, j, none⟩ (Value.int .i64 zv)) base p L k C' ∧ (C' k).take (j + 1) = md.take (j + 1) ∧ LiesAt (wr.setCell ⟨g, j, none⟩ (Value.int .i64 zv)) (some bm) (vals md)) := Lib.hid ⟨_, ⟨hS.below.trans hst.2.1, hS.turn.trans (Turn.store _ hS.book hgt (by
            have hg0 : x.cell.ownBlock = some g := by rw [hxc]; rfl
            obtain ⟨cur, hh⟩ := own_type (HB.out.each k x HQ.out.2.1) hg0
            exact ⟨cur, _, hh⟩)), hst.2.2.1, hst.1, fun k' y hk' hy => by
              rw [if_neg (by omega)]
              exact hS.done k' y hk' hy⟩, by
              rw [if_pos rfl]
              exact take_set_next hpart (by omega) hmj, lies_other hmd (fun b hb => by
                obtain rfl : bm = b := by simpa using hb
                exact hne) _⟩
          generalize (C2 k)[j]'(by omega) = old at t1
          clear hS hpart hmd ok hst hmj hne hbl hgt hlen o0 hv HJ HI0
          go_wp2_with fail
          go_region
          all_goals
            go_wp2
            obtain ⟨C', n1, n2, n3⟩ := HN.out
            exact ⟨⟨j + 1, by omega, by go_num, Lib.hid ⟨C', n1.next hp (Below.refl _ _).drew, n2, n3.below (Below.refl _ _).drew⟩⟩, by simp [intOf]; omega⟩
        · obtain rfl : j = x.l.length := by omega
          have hn : ¬ (x.l.length : Int) < (x.l.length : Int) := by omega
          have HN : Hid (∃ C', PuttingInts w wr base p L (k + 1) C') := Lib.hid ⟨C2, ⟨hS.below, hS.turn, hS.book, hS.held, fun k' y hk' hy => by
            rcases Nat.lt_or_ge k' k with e | e
            · exact hS.done k' y e hy
            · obtain rfl : k' = k := by omega
              obtain rfl : x = y := by rw [HQ.out.2.1] at hy; simpa using hy
              have ok := hS.held.each k' x HQ.out.2.1
              have hlen : (C2 k').length = x.l.length := by have := ok.1; rw [vals_len'] at this; omega
              rw [List.take_of_length_le (by omega), List.take_of_length_le (by omega)] at hpart
              rw [hpart]
              exact HME.out⟩⟩
          clear hS hpart hmd HJ HI0 hjl hj
          go_wp2
          exact ⟨⟨k + 1, by omega, by go_num, HN⟩, by simp [intOf]; omega⟩
    · obtain rfl : k = L.length := by omega
      have hn : ¬ (L.length : Int) < (L.length : Int) := by omega
      clear hlt hk hP o0
      go_wp2
      exact bodyPost_end (results_none rfl _ _ _) rfl ⟨rfl, HP.out⟩
end Go.Proofs.YtiiioeodanmieaaGreatDoor.Bk
