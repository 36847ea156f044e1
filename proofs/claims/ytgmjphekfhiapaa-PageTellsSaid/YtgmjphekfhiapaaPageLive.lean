/- PageTells: the document's own At; bytes out of a text, and back; what lives on. -/
import Derived.Test.YtgmjphekfhiapaaPageAlive
import Derived.Test.YtgmjphekfhiapaaBookLent
import Derived.Laws.IdiomStrings
import Derived.Deep.MidRow
namespace Go.Proofs.Ytgmjphekfhiapaa
open Go.RowKit
open Go.Proofs.Ytgmjphekfhiapaa.Bk

set_option maxRecDepth 100000 in
set_option maxHeartbeats 1000000 in
theorem rat_is (no v : Int) (a : Option Addr) (l : List ByteArray) (c : Nat) (w : World) (h : LiesAt w a (txts l)) (hf : l.length = 3 → 3 ≤ c ∧ ∃ g o, a = some ⟨g, o, none⟩) :
    Calls Try.prog 16 #[.int .i64 no, .int .i64 v, .slice a l.length c] w fun e w' => ∃ x, e = .returned (.tuple #[x, .bool (atIs no v l)]) ∧ Below w.heap.size w w' ∧ w'.ownsRow w.heap.size 3 1 x (atC no v l).length (vals (atC no v l)) := by
  have HG := Lib.hid (rpaged_is a l c w h hf)
  clear h hf
  by_cases hi : pgIs l = true
  · by_cases h1 : getN l = no
    · by_cases h2 : getV l = v
      · obtain ⟨e1, e2⟩ := at_yes ⟨hi, h1, h2⟩
        rw [e1, e2]
        rw [hi, h1, h2] at HG
        clear e1 e2 hi h1 h2
        generalize getC l = cs at *
        go_enter Try.func16, Try.ntmps16
        go_wp2_with (go_at_call 13; refine HG.out.mono ?_; rintro e w1 ⟨x, rfl, b1, o1⟩; replace HG := Lib.hid (And.intro b1 o1); clear b1 o1)
        go_ret2
        exact ⟨_, rfl, HG.out.1, HG.out.2⟩
      · obtain ⟨e1, e2⟩ := at_no (l := l) (no := no) (v := v) (fun q => h2 q.2.2)
        rw [e1, e2]
        have n2 : (getV l == v) = false := by simpa using h2
        have n3 : (getV l != v) = true := by simpa using h2
        rw [hi, h1] at HG
        clear e1 e2 hi h1 h2
        generalize getC l = cs at *
        generalize getV l = y at *
        go_enter Try.func16, Try.ntmps16
        go_wp2_with (go_at_call 13; refine HG.out.mono ?_; rintro e w1 ⟨x, rfl, b1, o1⟩; replace HG := Lib.hid b1; clear b1 o1)
        all_goals
          go_ret2
          exact ⟨_, rfl, HG.out, World.ownsRow_nil _ _ _ _⟩
    · obtain ⟨e1, e2⟩ := at_no (l := l) (no := no) (v := v) (fun q => h1 q.2.1)
      rw [e1, e2]
      have n2 : (getN l == no) = false := by simpa using h1
      have n3 : (getN l != no) = true := by simpa using h1
      rw [hi] at HG
      clear e1 e2 hi h1
      generalize getC l = cs at *
      generalize getV l = y at *
      generalize getN l = z at *
      go_enter Try.func16, Try.ntmps16
      go_wp2_with (go_at_call 13; refine HG.out.mono ?_; rintro e w1 ⟨x, rfl, b1, o1⟩; replace HG := Lib.hid b1; clear b1 o1)
      all_goals
        go_ret2
        exact ⟨_, rfl, HG.out, World.ownsRow_nil _ _ _ _⟩
  · obtain ⟨e1, e2⟩ := at_no (l := l) (no := no) (v := v) (fun q => hi q.1)
    have hi : pgIs l = false := by simpa using hi
    rw [e1, e2]
    rw [hi] at HG
    clear e1 e2 hi
    generalize getC l = cs at *
    generalize getV l = y at *
    generalize getN l = z at *
    go_enter Try.func16, Try.ntmps16
    go_wp2_with (go_at_call 13; refine HG.out.mono ?_; rintro e w1 ⟨x, rfl, b1, o1⟩; replace HG := Lib.hid b1; clear b1 o1)
    all_goals
      go_ret2
      exact ⟨_, rfl, HG.out, World.ownsRow_nil _ _ _ _⟩
theorem bytes_made (w : World) (s : ByteArray) : ∃ (W2 : World) (cap : Nat), (convert 9 40 (.string s)).run Try.prog w = .ok (.slice (some ⟨w.heap.size, 0, none⟩) s.size cap) W2 ∧
    (∀ j (hj : j < s.size), W2.cell? ⟨w.heap.size, j, none⟩ = some (.int .u8 (s[j].toNat : Int))) ∧ (∀ j, j < s.size → W2.frozen? ⟨w.heap.size, j, none⟩ = false) ∧ Below w.heap.size w W2 := by
  refine ⟨_, _, run_bytes_of_string w 9 40 5 s (by kernel_rfl) (by kernel_rfl) (by kernel_rfl), ?_, ?_, ?_⟩
  · intro j hj
    have h := World.cell?_alloc_mark w.drew (bytesRow s (grownCap w s.size 0 5)) 5 ((bytesRow s (grownCap w s.size 0 5)).size, (bytesRow s (grownCap w s.size 0 5)).size + 1) j
    refine Eq.trans h ?_
    exact bytesRow_at s _ j hj
  · intro j hj
    have h := World.frozen?_alloc_mark w.drew (bytesRow s (grownCap w s.size 0 5)) 5 (bytesRow s (grownCap w s.size 0 5)).size ((bytesRow s (grownCap w s.size 0 5)).size + 1) j
    refine Eq.trans h ?_
    have : s.size ≤ (bytesRow s (grownCap w s.size 0 5)).size := by
      simp [bytesRow]
    simp
    omega
  · exact (Below.refl _ _).drew.alloc (Nat.le_refl _) _

def bcl (l : List UInt8) : List Value := l.map fun x => .int .u8 (x.toNat : Int)
theorem bcl_set {w : World} {B k : Nat} {l : List UInt8} (h : w.rangeAt B 0 (bcl l)) (d : UInt8) : (w.setCell ⟨B, k, none⟩ (.int .u8 (d.toNat : Int))).rangeAt B 0 (bcl (l.set k d)) := fun j u hu => by
  simp only [bcl, List.map_set, List.getElem?_set] at hu
  split at hu
  · rename_i e
    subst e
    split at hu
    · rename_i hk
      obtain rfl : Value.int .u8 (d.toNat : Int) = u := by simpa using hu
      have h0 := h k _ (List.getElem?_eq_getElem (l := bcl l) hk)
      simp only [Nat.zero_add] at h0 ⊢
      exact World.cell?_setCell_same _ _ _ h0
    · cases hu
  · rename_i e
    rw [World.cell?_setCell_other _ _ _ _ (by simp [e])]
    exact h j u hu
theorem conv_bcl (w : World) (B n cap : Nat) (l : List UInt8) (hn : l.length = n) (h : w.rangeAt B 0 (bcl l)) :
    (convert 40 9 (.slice (some ⟨B, 0, none⟩) n cap)).run Try.prog w = .ok (.string ⟨l.toArray⟩) w := by
  subst hn
  refine run_convert_bytes_back w 40 9 5 ⟨B, 0, none⟩ cap l (by kernel_rfl) (by kernel_rfl) (by kernel_rfl) fun j hj => ?_
  have := h j (.int .u8 (l[j].toNat : Int)) (by simp [bcl, hj])
  rw [Addr.add_mid]
  exact this

/-- A row's slice, as Get and At want it. -/
theorem own_hf {w : World} {base : Nat} {e : TypeId} {a : Option Addr} {n c : Nat} {xs : List Value} (h : w.ownsRow base e 1 (.slice a n c) n xs) : n = 3 → 3 ≤ c ∧ ∃ g o, a = some ⟨g, o, none⟩ := by
  rintro rfl
  obtain ⟨g, c', hv, hc, _⟩ := own_somec h (by omega)
  obtain ⟨rfl, rfl⟩ : a = some ⟨g, 0, none⟩ ∧ c = c' := by simpa using hv
  exact ⟨hc, g, 0, rfl⟩
theorem own_lies {w : World} {base : Nat} {e : TypeId} {a : Option Addr} {n c : Nat} {xs : List Value} (h : w.ownsRow base e 1 (.slice a n c) n xs) : LiesAt w a xs := by
  obtain ⟨a', c', hv, hl, _⟩ := own_form h
  obtain ⟨rfl, rfl⟩ : a = a' ∧ c = c' := by simpa using hv
  exact hl
/-- Rows of the call's own that live on. -/
structure RowIs where
  e : TypeId
  v : Value
  n : Nat
  xs : List Value
structure Rows (w0 w : World) (base : Nat) (R : List RowIs) : Prop where
  below : Below base w0 w
  bs : base ≤ w.heap.size
  row : ∀ r ∈ R, w.ownsRow base r.e 1 r.v r.n r.xs ∧ (r.e = 9 ∨ r.e = 3)
theorem Rows.next {w0 w w' : World} {base : Nat} {R : List RowIs} (h : Rows w0 w base R) (b : Below w.heap.size w w') : Rows w0 w' base R :=
  ⟨h.below.trans (b.mono h.bs), Nat.le_trans h.bs b.size, fun r hr => ⟨own_below (h.row r hr).1 b, (h.row r hr).2⟩⟩
theorem Rows.add {w0 w : World} {base b : Nat} {R : List RowIs} (h : Rows w0 w base R) {e : TypeId} {v : Value} {n : Nat} {xs : List Value} (ho : w.ownsRow b e 1 v n xs) (hb : base ≤ b) (he : e = 9 ∨ e = 3) : Rows w0 w base (⟨e, v, n, xs⟩ :: R) :=
  ⟨h.below, h.bs, fun r hr => by
    rcases List.mem_cons.1 hr with q | q
    · subst q
      exact ⟨owns_base hb ho, he⟩
    · exact h.row r q⟩
theorem Rows.turn {w0 w w' : World} {base p : Nat} {R : List RowIs} {J : Nat → Prop} {T : TypeId} (h : Rows w0 w base R) (hb : BookB w p) (b : Below base w w') (t : Turn w w' p J (OfType w T)) (h1 : 9 ≠ T) (h2 : 3 ≠ T) : Rows w0 w' base R :=
  ⟨h.below.trans b, Nat.le_trans h.bs t.size, fun r hr => by
    obtain ⟨o, e⟩ := h.row r hr
    refine ⟨owns_typed o hb t (by rcases e with e | e <;> rw [e] <;> assumption) (by rcases e with e | e <;> rw [e] <;> decide), e⟩⟩
theorem Rows.get {w0 w : World} {base : Nat} {R : List RowIs} (h : Rows w0 w base R) (i : Nat) {r : RowIs} (hi : R[i]? = some r) : w.ownsRow base r.e 1 r.v r.n r.xs := (h.row r (List.mem_of_getElem? hi)).1
/-- A new book. -/
theorem book_start (w0 w : World) (h0 : Below w0.heap.size w0 w) : Book2 w0 (w.alloc (.cells #[.slice none 0 0, .slice none 0 0, .slice none 0 0, .slice none 0 0, .slice none 0 0, .slice none 0 0, .slice none 0 0, .slice none 0 0, .slice none 0 0, .slice none 0 0, .slice none 0 0, .slice none 0 0] 33)) w0.heap.size w.heap.size [] [] [] [] := by
  have hb := heap_alloc_new w (.cells #[.slice none 0 0, .slice none 0 0, .slice none 0 0, .slice none 0 0, .slice none 0 0, .slice none 0 0, .slice none 0 0, .slice none 0 0, .slice none 0 0, .slice none 0 0, .slice none 0 0, .slice none 0 0] 33)
  have hc : ∀ j, j < 12 → (w.alloc (.cells #[.slice none 0 0, .slice none 0 0, .slice none 0 0, .slice none 0 0, .slice none 0 0, .slice none 0 0, .slice none 0 0, .slice none 0 0, .slice none 0 0, .slice none 0 0, .slice none 0 0, .slice none 0 0] 33)).cell? ⟨w.heap.size, j, none⟩ = some (.slice none 0 0) := fun j hj => by
    rw [World.cell?_alloc_new]
    rcases j with _ | _ | _ | _ | _ | _ | _ | _ | _ | _ | _ | _ | _ <;> first | rfl | omega
  exact ⟨h0.alloc h0.size _, h0.size, ⟨_, hb, rfl⟩,
    ⟨⟨_, _, hc 0 (by omega), hc 1 (by omega), World.ownsRow_nil _ _ _ _, World.ownsRow_nil _ _ _ _, fun g q => by cases q⟩, fun x hx => by simp at hx, fun x hx => by simp at hx, rfl, fun i x y hx => by simp at hx, List.Pairwise.nil, fun x hx => by simp at hx⟩,
    ⟨⟨_, _, hc 2 (by omega), hc 3 (by omega), World.ownsRow_nil _ _ _ _, World.ownsRow_nil _ _ _ _, fun g q => by cases q⟩, fun x hx => by simp at hx, fun x hx => by simp at hx, rfl, fun i x y hx => by simp at hx, List.Pairwise.nil, fun x hx => by simp at hx⟩,
    ⟨hc 4 (by omega), hc 6 (by omega), hc 8 (by omega), hc 10 (by omega)⟩⟩
end Go.Proofs.Ytgmjphekfhiapaa
