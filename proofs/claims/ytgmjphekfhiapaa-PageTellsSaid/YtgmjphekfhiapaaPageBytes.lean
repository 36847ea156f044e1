/- Package page: numbers as bytes, one behind the other (bytesOf). -/
import Derived.Test.YtgmjphekfhiapaaSealMath
import Derived.Test.YtgmjphekfhiapaaPageIs
namespace Go.Proofs.Ytgmjphekfhiapaa
open Go.RowKit
open Go.Proofs.Ytgmjphekfhiapaa.Bk

/-- Numbers as bytes, four each. -/
def catB : List Int → ByteArray
  | [] => ByteArray.empty
  | v :: l => putS v 4 ++ catB l
theorem putS_le (v : Int) : (putS v 4).size ≤ 4 := by
  unfold putS
  split
  · rw [putB_size]; decide
  · exact Nat.zero_le _
theorem catB_le : ∀ l : List Int, (catB l).size ≤ 4 * l.length
  | [] => Nat.zero_le _
  | v :: l => by
    have h1 := putS_le v
    have h2 := catB_le l
    rw [catB, ByteArray.size_append, List.length_cons]
    omega
theorem catB_snoc (l : List Int) (v : Int) : catB (l ++ [v]) = catB l ++ putS v 4 := by
  induction l with
  | nil => exact ba_ext (by simp [catB])
  | cons x l ih => rw [List.cons_append, catB, ih, catB, ByteArray.append_assoc]
theorem WriteString_is (B b : Nat) (bs : List Value) (s : ByteArray) (w : World) (h : Lib.IsBuilder 79 5 B b bs w) (hlen : bs.length + s.size ≤ 140737488355328) (hBw : B ≤ w.heap.size) :
    Calls Try.prog 64 #[.pointer (some ⟨b, 0, none⟩), .string s] w fun e w' => e = .returned (.tuple #[.int .i64 s.size, .nilIface]) ∧ (Lib.BuilderAt 79 5 B b (.pointer (some ⟨b, 0, none⟩)) (bs ++ Lib.strCells s) w' ∧ Below B w w') :=
  Any.Builder_WriteString { Try.lays156 with } Try.Builder_Extra_156 B b bs s w h hlen hBw

/-- A builder that holds numbers. -/
def IsW (B b : Nat) (l : List Int) (w : World) : Prop := Lib.IsBuilder 79 5 B b (Lib.byteCells (catB l).data.toList) w
theorem wr_num (B b : Nat) (l : List Int) (v : Int) (w : World) (h : IsW B b l w) (hl : l.length ≤ 1000000) (hBw : B ≤ w.heap.size) :
    Calls Try.prog 64 #[.pointer (some ⟨b, 0, none⟩), .string (putS v 4)] w fun e w' => e = .returned (.tuple #[.int .i64 (putS v 4).size, .nilIface]) ∧ IsW B b (l ++ [v]) w' ∧ Below B w w' := by
  have h1 := putS_le v
  have h2 := catB_le l
  refine (WriteString_is B b _ (putS v 4) w h (by rw [Lib.byteCells_length, ba_len]; omega) hBw).mono ?_
  rintro e w' ⟨rfl, hb, hB⟩
  refine ⟨rfl, Or.inr ?_, hB⟩
  rwa [catB_snoc, ba_append, Lib.byteCells_append, ← Lib.strCells_eq (putS v 4)]

theorem owns_below {w w' : World} {base : Nat} {e : TypeId} {k : Nat} {v : Value} {m : Nat} {cs : List Value} (h : w.ownsRow base e k v m cs) (hb : Below w.heap.size w w') : w'.ownsRow base e k v m cs := by
  have hlt := h.lt
  refine ⟨h.1, ?_⟩
  rcases h.2 with q | ⟨g, cap, cur, hv, hg, hh, r⟩
  · exact .inl q
  · exact .inr ⟨g, cap, cur, hv, hg, by rw [hb.block g (hlt g (by rw [hv]; rfl)).2]; exact hh, r⟩
theorem BuilderAt_below {T e : TypeId} {B b : Nat} {p : Value} {bs : List Value} {w w' : World} (h : Lib.BuilderAt T e B b p bs w) (hb : Below w.heap.size w w') : Lib.BuilderAt T e B b p bs w' := by
  have hlt := h.lt
  obtain ⟨hB, v, hbk, hown, hne⟩ := h
  exact ⟨hB, v, by rw [hb.block b hlt]; exact hbk, owns_below hown hb, hne⟩
theorem IsW.below {B b : Nat} {l : List Int} {w w' : World} (h : IsW B b l w) (hb : Below w.heap.size w w') : IsW B b l w' := by
  rcases h with h | h
  · exact .inl (BuilderAt_below h hb)
  · exact .inr (BuilderAt_below h hb)
theorem val_at {l : List Int} {k : Nat} (h : k < l.length) : (vals l)[k]? = some (.int .i64 l[k]) := by simp [vals, h]
theorem take_len {α : Type} (l : List α) : l.take l.length = l := List.take_of_length_le (Nat.le_refl _)
theorem take_cons2 (no v : Int) (cs : List Int) (k : Nat) (h : k < cs.length) : (no :: v :: cs.take k) ++ [cs[k]] = no :: v :: cs.take (k + 1) := by
  rw [List.take_succ_eq_append_getElem h]; rfl

set_option maxRecDepth 100000 in
set_option maxHeartbeats 1000000 in
theorem bytesOf_is (no v : Int) (a : Option Addr) (cs : List Int) (c : Nat) (w : World) (h : LiesAt w a (vals cs)) (hl : cs.length ≤ 1000) :
    Calls Try.prog 24 #[.int .i64 no, .int .i64 v, .slice a cs.length c] w fun e w' => e = .returned (.string (catB (no :: v :: cs))) ∧ Below w.heap.size w w' := by
  have H := Lib.hid h
  clear h
  have HP := Lib.hid (fun (x : Int) w => Put_is x 4 w)
  have HW := Lib.hid (fun (l : List Int) (x : Int) (u : World) => wr_num w.heap.size w.heap.size l x u)
  have HI : Hid (IsW w.heap.size w.heap.size [] (w.alloc (.cells #[.pointer none, .slice none 0 0] 79)) ∧ Below w.heap.size w (w.alloc (.cells #[.pointer none, .slice none 0 0] 79))) := Lib.hid ⟨Lib.fresh_isBuilder _ _ _, (Below.refl _ _).alloc (Nat.le_refl _) _⟩
  go_enter Try.func24, Try.ntmps24
  go_wp2_with (first
    | (go_at_call 62; refine (HP.out _ _).mono ?_; rintro e w1 ⟨rfl, b1⟩; replace HI := Lib.hid (And.intro (HI.out.1.below b1) (below_next HI.out.2 b1)); clear b1)
    | (go_at_call 64; refine (HW.out _ _ _ HI.out.1 (by simp) HI.out.2.size).mono ?_; rintro e w2 ⟨rfl, i2, b2⟩; replace HI := Lib.hid (And.intro i2 (HI.out.2.trans b2)); clear i2 b2))
  go_loopw [9, 18] (fun _ i wr => ∃ k : Nat, k ≤ cs.length ∧ i = .int .i64 (k : Int) ∧ Hid (IsW w.heap.size w.heap.size (no :: v :: cs.take k) wr ∧ Below w.heap.size w wr)) (fun _ i _ => cs.length - (intOf i).toNat)
  case atStart => exact ⟨0, Nat.zero_le _, rfl, HI⟩
  case round =>
    obtain ⟨k, hk, rfl, HI⟩ := hrel
    by_cases hlt : k < cs.length
    · have HT := Lib.hid (take_cons2 no v cs k hlt)
      obtain ⟨b1, rfl, _, e1⟩ := (H.out.below HI.out.2).at_ (k := k) (val_at hlt)
      have hi1 : (k : Int) < (cs.length : Int) := by omega
      have HK := Lib.hid hk
      generalize cs[k] = x at *
      go_wp2_with (first
        | (go_at_call 62; refine (HP.out _ _).mono ?_; rintro e w1 ⟨rfl, b1⟩; replace HI := Lib.hid (And.intro (HI.out.1.below b1) (below_next HI.out.2 b1)); clear b1)
        | (go_at_call 64; refine (HW.out _ _ _ HI.out.1 (by simp; omega) HI.out.2.size).mono ?_; rintro e w2 ⟨rfl, i2, b2⟩; replace HI := Lib.hid (And.intro i2 (HI.out.2.trans b2)); clear i2 b2))
      rw [HT.out] at HI
      exact ⟨⟨k + 1, by omega, by go_num, HI⟩, by simp [intOf]; omega⟩
    · obtain rfl : k = cs.length := by omega
      have hn : ¬ (cs.length : Int) < (cs.length : Int) := by omega
      rw [take_len] at HI
      clear hlt hk
      go_wp2_with (go_at_call 65; refine (Try.Builder_String_any _ _ _ _ HI.out.1 HI.out.2.size).mono ?_; rintro e w2 ⟨rfl, b2⟩; replace HI := Lib.hid (HI.out.2.trans b2); clear b2)
      go_ret
      exact ⟨rfl, HI.out⟩
end Go.Proofs.Ytgmjphekfhiapaa
