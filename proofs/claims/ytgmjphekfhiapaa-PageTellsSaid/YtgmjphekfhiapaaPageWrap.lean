/- PageTells: the calls, as the law's walk wants them. -/
import Derived.Test.YtgmjphekfhiapaaPageLive
namespace Go.Proofs.Ytgmjphekfhiapaa
open Go.RowKit
open Go.Proofs.Ytgmjphekfhiapaa.Bk

/-- A list of numbers that came in, or that the law made. -/
def KeptI (w0 w : World) (a : Option Addr) (l : List Int) : Prop := LiesAt w a (vals l) ∧ ((∀ z, Below w0.heap.size w0 z → LiesAt z a (vals l)) ∨ ∃ b n c, w.ownsRow b 3 1 (.slice a n c) n (vals l))
theorem KeptI.lies {w0 w : World} {a : Option Addr} {l : List Int} (h : KeptI w0 w a l) : LiesAt w a (vals l) := h.1
theorem KeptI.came {w0 w : World} {a : Option Addr} {l : List Int} (h : LiesAt w0 a (vals l)) (b : Below w0.heap.size w0 w) : KeptI w0 w a l := ⟨h.below b, .inl (fun _ q => h.below q)⟩
theorem KeptI.made {w0 w : World} {b n c : Nat} {a : Option Addr} {l : List Int} (h : w.ownsRow b 3 1 (.slice a n c) n (vals l)) : KeptI w0 w a l := ⟨own_lies h, .inr ⟨_, _, _, h⟩⟩
theorem KeptI.next {w0 w w' : World} {a : Option Addr} {l : List Int} (h : KeptI w0 w a l) (b : Below w.heap.size w w') : KeptI w0 w' a l := ⟨h.1.below b, h.2.imp id (fun ⟨b', n, c, o⟩ => ⟨b', n, c, own_below o b⟩)⟩
theorem KeptI.turn {w0 w w' : World} {p : Nat} {J : Nat → Prop} {T : TypeId} {a : Option Addr} {l : List Int} (h : KeptI w0 w a l) (hb : BookB w p) (t : Turn w w' p J (OfType w T)) (b : Below w0.heap.size w0 w') (h1 : 3 ≠ T) : KeptI w0 w' a l := by
  rcases h.2 with q | ⟨b', n, c, o⟩
  · exact ⟨q _ b, .inl q⟩
  · have := owns_typed o hb t h1 (by decide)
    exact KeptI.made this
theorem Book2.addT {w0 w w' : World} {base p : Nat} {LT MT : List TL} {LI MI : List IL} {x y : TL} (h : Book2 w0 w base p LT MT LI MI) (b : Below base w w') (t : Turn w w' p (fun j => j = 0 ∨ j = 1) (OfType w 34)) (k : KeepTexts w' base p (LT ++ [x]) (MT ++ [y])) : Book2 w0 w' base p (LT ++ [x]) (MT ++ [y]) LI MI :=
  ⟨h.below.trans b, h.hp, t.book h.book, k, h.kI.other h.book t (by decide) (by decide) (by decide), h.nils.turn t (fun j hj => by omega)⟩
theorem Book2.addI {w0 w w' : World} {base p : Nat} {LT MT : List TL} {LI MI : List IL} {x y : IL} (h : Book2 w0 w base p LT MT LI MI) (b : Below base w w') (t : Turn w w' p (fun j => j = 2 ∨ j = 3) (OfType w 22)) (k : KeepInts w' base p (LI ++ [x]) (MI ++ [y])) : Book2 w0 w' base p LT MT (LI ++ [x]) (MI ++ [y]) :=
  ⟨h.below.trans b, h.hp, t.book h.book, h.kT.other h.book t (by decide) (by decide) (by decide), k, h.nils.turn t (fun j hj => by omega)⟩
theorem keptTexts (w0 w : World) (base p : Nat) (LT MT : List TL) (LI MI : List IL) (a : Option Addr) (l : List ByteArray) (n c : Nat) (hn : l.length = n) (hn2 : n ≤ 1000) (h : Book2 w0 w base p LT MT LI MI) (hx : w.ownsRow base 9 1 (.slice a n c) n (txts l))
    (hap : ∀ y ∈ LT, ∀ g, y.cell.ownBlock = some g → Value.ownBlock (.slice a n c) ≠ some g) (hL : (LT).length ≤ 90) :
    Calls Try.prog 9 #[.pointer (some ⟨p, 0, none⟩), .slice a n c] w fun e w' => e = .returned (.tuple #[]) ∧ Below base w w' ∧ (∃ J, Turn w w' p J (OfType w 34)) ∧ ∃ y : TL, Book2 w0 w' base p (LT ++ [⟨a, l, c⟩]) (MT ++ [y]) (LI) (MI) := by
  subst hn
  refine (keepTexts_is base p (LT) (MT) ⟨a, l, c⟩ w h.book h.hp h.kT hx hap hn2 (by omega)).mono ?_
  rintro e w' ⟨he, b, t, y, k⟩
  exact ⟨he, b, ⟨_, t⟩, y, Book2.addT h b t k⟩
theorem sameTexts (l : List ByteArray) (n c1 c2 : Nat) (a1 a2 : Option Addr) (w : World) (hn : l.length = n) (hn2 : n ≤ 1000) (h1 : LiesAt w a1 (txts l)) (h2 : LiesAt w a2 (txts l)) :
    Calls Try.prog 10 #[.slice a1 n c1, .slice a2 n c2] w fun e w' => e = .returned (.bool true) ∧ Below w.heap.size w w' := by
  subst hn
  refine (SameTexts_is l l a1 a2 c1 c2 w h1 h2 (by unfold maxLen; omega) (by unfold maxLen; omega) true ⟨fun _ => rfl, fun _ => rfl⟩).mono ?_
  rintro e w' ⟨he, m, rfl⟩
  exact ⟨he, bel_draws _ _ _⟩
theorem keptInts (w0 w : World) (base p : Nat) (LT MT : List TL) (LI MI : List IL) (a : Option Addr) (l : List Int) (n c : Nat) (hn : l.length = n) (hn2 : n ≤ 1000) (h : Book2 w0 w base p LT MT LI MI) (hx : w.ownsRow base 3 1 (.slice a n c) n (vals l))
    (hap : ∀ y ∈ LI, ∀ g, y.cell.ownBlock = some g → Value.ownBlock (.slice a n c) ≠ some g) (hL : (LI).length ≤ 90) :
    Calls Try.prog 14 #[.pointer (some ⟨p, 0, none⟩), .slice a n c] w fun e w' => e = .returned (.tuple #[]) ∧ Below base w w' ∧ (∃ J, Turn w w' p J (OfType w 22)) ∧ ∃ y : IL, Book2 w0 w' base p (LT) (MT) (LI ++ [⟨a, l, c⟩]) (MI ++ [y]) := by
  subst hn
  refine (keepInts_is base p (LI) (MI) ⟨a, l, c⟩ w h.book h.hp h.kI hx hap hn2 (by omega)).mono ?_
  rintro e w' ⟨he, b, t, y, k⟩
  exact ⟨he, b, ⟨_, t⟩, y, Book2.addI h b t k⟩
theorem sameInts (l : List Int) (n c1 c2 : Nat) (a1 a2 : Option Addr) (w : World) (hn : l.length = n) (hn2 : n ≤ 1000) (h1 : LiesAt w a1 (vals l)) (h2 : LiesAt w a2 (vals l)) :
    Calls Try.prog 17 #[.slice a1 n c1, .slice a2 n c2] w fun e w' => e = .returned (.bool true) ∧ Below w.heap.size w w' := by
  subst hn
  refine (SameInts_is l l a1 a2 c1 c2 w h1 h2 (by unfold maxLen; omega) (by unfold maxLen; omega) true ⟨fun _ => rfl, fun _ => rfl⟩).mono ?_
  rintro e w' ⟨he, m, rfl⟩
  exact ⟨he, bel_draws _ _ _⟩
theorem staysI (g cap base n : Nat) (a2 : Option Addr) (l : List Int) (c2 : Nat) (w : World) (hn : l.length = n) (hn2 : n ≤ 1000) (h : w.ownsRow base 3 1 (.slice (some ⟨g, 0, none⟩) (n + 1) cap) (n + 1) (vals l ++ [.int .i64 (-77)])) (h2 : LiesAt w a2 (vals l)) :
    Calls Try.prog 11 #[.slice (some ⟨g, 0, none⟩) n cap, .slice a2 n c2] w fun e w' => e = .returned (.bool true) ∧ Below w.heap.size w w' := by
  subst hn
  refine (staysInts_is g cap base a2 l c2 w h h2 hn2).mono ?_
  rintro e w' ⟨he, m, rfl⟩
  exact ⟨he, bel_draws _ _ _⟩
theorem lentI (a : Option Addr) (l : List Int) (n c : Nat) (w : World) (hn : l.length = n) (hn2 : n ≤ 1000) (h : LiesAt w a (vals l)) :
    Calls Try.prog 6 #[.slice a n c] w fun e w' => ∃ g cap, e = .returned (.slice (some ⟨g, 0, none⟩) n cap) ∧ Below w.heap.size w w' ∧ w'.ownsRow w.heap.size 3 1 (.slice (some ⟨g, 0, none⟩) (n + 1) cap) (n + 1) (vals l ++ [.int .i64 (-77)]) := by
  subst hn
  exact lentInts_is a l c w h hn2
theorem lent_lies {w : World} {g n cap base : Nat} {l : List Int} (h : w.ownsRow base 3 1 (.slice (some ⟨g, 0, none⟩) (n + 1) cap) (n + 1) (vals l ++ [.int .i64 (-77)])) : LiesAt w (some ⟨g, 0, none⟩) (vals l) := fun j u hu =>
  own_lies h j u (by rw [List.getElem?_append_left (List.getElem?_eq_some_iff.1 hu).1]; exact hu)
theorem wpput_is (no v : Int) (a : Option Addr) (cs : List Int) (n c : Nat) (w : World) (hn : cs.length = n) (hn2 : n ≤ 1000) (h : LiesAt w a (vals cs)) (k : Bool) (hk : pgOk no v cs = k) (L : List ByteArray) (hL : pgL no v cs = L) (m : Nat) (hm : L.length = m) :
    Calls Try.prog 7 #[.int .i64 no, .int .i64 v, .slice a n c] w fun e w' => ∃ a' c', e = .returned (.tuple #[.slice a' m c', .bool k]) ∧ Below w.heap.size w w' ∧ w'.ownsRow w.heap.size 9 1 (.slice a' m c') m (txts L) := by
  subst hn hk hL hm
  first
    | refine (pput_is no v a cs c w h (by unfold maxLen; omega)).mono ?_
    | refine (pput_is no v a cs c w h).mono ?_
  rintro e w' ⟨x, rfl, b, o⟩
  obtain ⟨a', c', rfl, _⟩ := own_form o
  exact ⟨a', c', rfl, b, o⟩
theorem wrpage_is (no v : Int) (a : Option Addr) (cs : List Int) (n c : Nat) (w : World) (hn : cs.length = n) (hn2 : n ≤ 1000) (h : LiesAt w a (vals cs)) (k : Bool) (hk : pgOk no v cs = k) (L : List ByteArray) (hL : pgL no v cs = L) (m : Nat) (hm : L.length = m) :
    Calls Try.prog 8 #[.int .i64 no, .int .i64 v, .slice a n c] w fun e w' => ∃ a' c', e = .returned (.tuple #[.slice a' m c', .bool k]) ∧ Below w.heap.size w w' ∧ w'.ownsRow w.heap.size 9 1 (.slice a' m c') m (txts L) := by
  subst hn hk hL hm
  first
    | refine (rpage_is no v a cs c w h (by unfold maxLen; omega)).mono ?_
    | refine (rpage_is no v a cs c w h).mono ?_
  rintro e w' ⟨x, rfl, b, o⟩
  obtain ⟨a', c', rfl, _⟩ := own_form o
  exact ⟨a', c', rfl, b, o⟩
theorem wpget_is (a : Option Addr) (l : List ByteArray) (n c base : Nat) (w : World) (hn : l.length = n) (hn2 : n ≤ 1000) (h : w.ownsRow base 9 1 (.slice a n c) n (txts l)) (N V : Int) (k : Bool) (C : List Int) (h1 : getN l = N) (h2 : getV l = V) (h3 : pgIs l = k) (h4 : getC l = C) :
    Calls Try.prog 12 #[.slice a n c] w fun e w' => ∃ a' c', e = .returned (.tuple #[.int .i64 N, .int .i64 V, .slice a' C.length c', .bool k]) ∧ Below w.heap.size w w' ∧ w'.ownsRow w.heap.size 3 1 (.slice a' C.length c') C.length (vals C) := by
  subst hn h1 h2 h3 h4
  first
    | refine (pget_is a l c w (own_lies h) (by unfold maxLen; omega) (own_hf h)).mono ?_
    | refine (pget_is a l c w (own_lies h) (own_hf h)).mono ?_
  rintro e w' ⟨x, rfl, b, o⟩
  obtain ⟨a', c', rfl, _⟩ := own_form o
  exact ⟨a', c', rfl, b, o⟩
theorem wrpaged_is (a : Option Addr) (l : List ByteArray) (n c base : Nat) (w : World) (hn : l.length = n) (hn2 : n ≤ 1000) (h : w.ownsRow base 9 1 (.slice a n c) n (txts l)) (N V : Int) (k : Bool) (C : List Int) (h1 : getN l = N) (h2 : getV l = V) (h3 : pgIs l = k) (h4 : getC l = C) :
    Calls Try.prog 13 #[.slice a n c] w fun e w' => ∃ a' c', e = .returned (.tuple #[.int .i64 N, .int .i64 V, .slice a' C.length c', .bool k]) ∧ Below w.heap.size w w' ∧ w'.ownsRow w.heap.size 3 1 (.slice a' C.length c') C.length (vals C) := by
  subst hn h1 h2 h3 h4
  first
    | refine (rpaged_is a l c w (own_lies h) (by unfold maxLen; omega) (own_hf h)).mono ?_
    | refine (rpaged_is a l c w (own_lies h) (own_hf h)).mono ?_
  rintro e w' ⟨x, rfl, b, o⟩
  obtain ⟨a', c', rfl, _⟩ := own_form o
  exact ⟨a', c', rfl, b, o⟩
theorem wpat_is (no v : Int) (a : Option Addr) (l : List ByteArray) (n c base : Nat) (w : World) (hn : l.length = n) (hn2 : n ≤ 1000) (h : w.ownsRow base 9 1 (.slice a n c) n (txts l)) (k : Bool) (C : List Int) (h3 : atIs no v l = k) (h4 : atC no v l = C) :
    Calls Try.prog 15 #[.int .i64 no, .int .i64 v, .slice a n c] w fun e w' => ∃ a' c', e = .returned (.tuple #[.slice a' C.length c', .bool k]) ∧ Below w.heap.size w w' ∧ w'.ownsRow w.heap.size 3 1 (.slice a' C.length c') C.length (vals C) := by
  subst hn h3 h4
  first
    | refine (pat_is no v a l c w (own_lies h) (by unfold maxLen; omega) (own_hf h)).mono ?_
    | refine (pat_is no v a l c w (own_lies h) (own_hf h)).mono ?_
  rintro e w' ⟨x, rfl, b, o⟩
  obtain ⟨a', c', rfl, _⟩ := own_form o
  exact ⟨a', c', rfl, b, o⟩
theorem wrat_is (no v : Int) (a : Option Addr) (l : List ByteArray) (n c base : Nat) (w : World) (hn : l.length = n) (hn2 : n ≤ 1000) (h : w.ownsRow base 9 1 (.slice a n c) n (txts l)) (k : Bool) (C : List Int) (h3 : atIs no v l = k) (h4 : atC no v l = C) :
    Calls Try.prog 16 #[.int .i64 no, .int .i64 v, .slice a n c] w fun e w' => ∃ a' c', e = .returned (.tuple #[.slice a' C.length c', .bool k]) ∧ Below w.heap.size w w' ∧ w'.ownsRow w.heap.size 3 1 (.slice a' C.length c') C.length (vals C) := by
  subst hn h3 h4
  first
    | refine (rat_is no v a l c w (own_lies h) (by unfold maxLen; omega) (own_hf h)).mono ?_
    | refine (rat_is no v a l c w (own_lies h) (own_hf h)).mono ?_
  rintro e w' ⟨x, rfl, b, o⟩
  obtain ⟨a', c', rfl, _⟩ := own_form o
  exact ⟨a', c', rfl, b, o⟩
theorem getC_small (l : List ByteArray) : (getC l).length ≤ 16 := by
  unfold getC
  split
  · rw [nums_len]; exact Nat.le_refl _
  · exact Nat.zero_le _
theorem atC_small (no v : Int) (l : List ByteArray) : (atC no v l).length ≤ 16 := by
  unfold atC
  split
  · exact getC_small l
  · exact Nat.zero_le _
theorem blk_is (a : Option Addr) (n c : Nat) : Value.ownBlock (.slice a n c) = a.map (·.block) := by cases a <;> rfl
/-- Two slices share no block. -/
def Off (a b : Option Addr) : Prop := ∀ g, a.map (·.block) = some g → b.map (·.block) ≠ some g
theorem Off.no {a b : Option Addr} (h : Off a b) {g : Nat} (h1 : a.map (·.block) = some g) (h2 : b.map (·.block) = some g) : False := h g h1 h2
theorem off_new {w w' : World} {b : Nat} {e e' : TypeId} {a a' : Option Addr} {n c n' c' : Nat} {xs ys : List Value} (h : w.ownsRow b e 1 (.slice a n c) n xs) (h' : w'.ownsRow w.heap.size e' 1 (.slice a' n' c') n' ys) : Off a a' := fun g h1 h2 => by
  have q1 := (h.lt g (by rw [blk_is]; exact h1)).2
  have q2 := (h'.lt g (by rw [blk_is]; exact h2)).1
  omega
theorem Rows.addr {w0 w : World} {base b : Nat} {R : List RowIs} (h : Rows w0 w base R) {e : TypeId} {v : Value} {n : Nat} {xs : List Value} (ho : w.ownsRow b e 1 v n xs) (hb : base ≤ b) (he : e = 9 ∨ e = 3) : Rows w0 w base (R ++ [⟨e, v, n, xs⟩]) :=
  ⟨h.below, h.bs, fun r hr => by
    rcases List.mem_append.1 hr with q | q
    · exact h.row r q
    · obtain rfl : r = ⟨e, v, n, xs⟩ := by simpa using q
      exact ⟨owns_base hb ho, he⟩⟩
end Go.Proofs.Ytgmjphekfhiapaa
