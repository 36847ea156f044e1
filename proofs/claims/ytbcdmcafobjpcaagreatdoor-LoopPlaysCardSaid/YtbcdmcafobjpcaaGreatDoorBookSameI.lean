/- The book: SameInts: two lists are held against each other. -/
import Derived.Test.YtbcdmcafobjpcaaGreatDoorBookLaws
namespace Go.Proofs.YtbcdmcafobjpcaaGreatDoor.Bk
open Go.RowKit

def txts (l : List ByteArray) : List Value := l.map Value.string
theorem ne_int {x y : Int} (h : x ≠ y) : (x == y) = false := by simpa using h
theorem str_ext {a b : ByteArray} (h : a.toList = b.toList) : a = b := by
  rw [ByteArray.toList_eq, ByteArray.toList_eq] at h
  cases a; cases b; simp at h; simp [h]
theorem ne_str {x y : ByteArray} (h : x ≠ y) : (x.toList == y.toList) = false := by
  rw [beq_eq_false_iff_ne]
  exact fun e => h (str_ext e)
theorem take_next {α : Type} {l1 l2 : List α} {k : Nat} (h : l1.take k = l2.take k) (h1 : k < l1.length) (h2 : k < l2.length) (e : l1[k] = l2[k]) : l1.take (k + 1) = l2.take (k + 1) := by
  rw [List.take_succ_eq_append_getElem h1, List.take_succ_eq_append_getElem h2, h, e]
theorem drewN_drew (w : World) (m : Nat) : ∃ m', (w.drewN m).drew = w.drewN m' := ⟨m + 1, rfl⟩
theorem drewN_add (w : World) (m k : Nat) : ∃ m', (w.drewN m).drewN k = w.drewN m' := ⟨m + k, by simp [World.drewN, Nat.add_assoc]⟩
theorem LiesAt.at_ {w : World} {a : Option Addr} {cs : List Value} (h : LiesAt w a cs) {k : Nat} {v : Value} (hk : cs[k]? = some v) : ∃ b : Addr, a = some b ∧ b.block < w.heap.size ∧ w.cell? (b.add k) = some v := h k v hk

theorem own_form {w : World} {base : Nat} {e : TypeId} {v : Value} {n : Nat} {xs : List Value} (h : w.ownsRow base e 1 v n xs) : ∃ (a : Option Addr) (c : Nat), v = .slice a n c ∧ LiesAt w a xs ∧ (a = none ∨ ∃ g, a = some ⟨g, 0, none⟩ ∧ base ≤ g ∧ g < w.heap.size) := by
  have hlt := h.lt
  have h' := h
  rcases h.2 with ⟨hv, hn⟩ | ⟨g, cap, cur, hv, r⟩
  · have hx : xs = [] := List.eq_nil_of_length_eq_zero (by rw [h.1, hn])
    subst hx hn
    exact ⟨none, 0, hv, fun j u hu => by simp at hu, .inl rfl⟩
  · subst hv
    have hg := hlt g rfl
    refine ⟨some ⟨g, 0, none⟩, cap, rfl, fun j u hu => ⟨_, rfl, hg.2, ?_⟩, .inr ⟨g, rfl, hg⟩⟩
    have hj : j < n * 1 := by have := (List.getElem?_eq_some_iff.1 hu).1; rw [h.1] at this; exact this
    rw [Addr.add_mid, Nat.zero_add, h'.cellAt j hj, hu]

set_option maxHeartbeats 400000 in
theorem SameInts_is (l1 l2 : List Int) (a1 a2 : Option Addr) (c1 c2 : Nat) (w : World) (h1 : LiesAt w a1 (vals l1)) (h2 : LiesAt w a2 (vals l2)) (m1 : l1.length ≤ maxLen) (m2 : l2.length ≤ maxLen) (t : Bool) (ht : t = true ↔ l1 = l2) :
    Calls Tryz.prog 66 #[.slice a1 l1.length c1, .slice a2 l2.length c2] w fun e w' => e = .returned (.bool t) ∧ ∃ m, w' = w.drewN m := by
  unfold maxLen at m1 m2
  have H := Lib.hid (And.intro h1 h2)
  have HT := Lib.hid ht
  clear h1 h2 ht
  by_cases hl : l1.length = l2.length
  · have hle : (l1.length : Int) = (l2.length : Int) := by omega
    have HL := Lib.hid hl
    clear hl
    go_enter Tryz.func66, Tryz.ntmps66
    go_wp2
    have HLE := Lib.hid hle
    clear hle
    go_loopw [5] (fun i wr => ∃ (k m : Nat), k ≤ l1.length ∧ i = .int .i64 (k : Int) ∧ wr = w.drewN m ∧ Hid (l1.take k = l2.take k)) (fun i _ => l1.length - (intOf i).toNat)
    case atStart => exact ⟨0, 0, Nat.zero_le _, rfl, rfl, Lib.hid rfl⟩
    case round =>
      obtain ⟨k, m, hk, rfl, rfl, hp⟩ := hrel
      by_cases hlt : k < l1.length
      · have hlt2 : k < l2.length := by have := HL.out; omega
        obtain ⟨b1, rfl, _, e1⟩ := H.out.1.at_ (k := k) (v := Value.int .i64 l1[k]) (by simp [vals, hlt])
        obtain ⟨b2, rfl, _, e2⟩ := H.out.2.at_ (k := k) (v := Value.int .i64 l2[k]) (by simp [vals, hlt2])
        have hi1 : (k : Int) < (l1.length : Int) := by omega
        have hi2 : (k : Int) < (l2.length : Int) := by omega
        by_cases hxy : l1[k] = l2[k]
        · have HN := Lib.hid (take_next hp.out hlt hlt2 hxy)
          rw [← hxy] at e2
          clear hxy
          generalize l1[k] = x at *
          go_wp2_with fail
          go_quiet (fail)
          go_wp2
          exact ⟨⟨k + 1, m + nq, by omega, by go_num, rfl, HN⟩, by simp [intOf]; omega⟩
        · have hf : t = false := by
            cases t
            · rfl
            · have := HT.out.1 rfl
              subst this
              exact absurd rfl hxy
          have hne := ne_int hxy
          subst hf
          clear hxy
          generalize l1[k] = x at *
          generalize l2[k] = y at *
          go_wp2_with fail
          go_quiet (fail)
          go_wp2
          go_ret
          exact ⟨rfl, drewN_add w m nq⟩
      · obtain rfl : k = l1.length := by omega
        have hf : t = true := HT.out.2 (by
          have := hp.out
          rwa [List.take_of_length_le (Nat.le_refl _), List.take_of_length_le (by rw [HL.out]; exact Nat.le_refl _)] at this)
        subst hf
        have hn : ¬ (l1.length : Int) < (l1.length : Int) := by omega
        clear hlt hk
        go_wp2
        go_ret
        exact ⟨rfl, m, rfl⟩
  · have hf : t = false := by
      cases t
      · rfl
      · exact absurd (congrArg List.length (HT.out.1 rfl)) hl
    subst hf
    have hne : ((l1.length : Int) == (l2.length : Int)) = false := by simp; omega
    have hne2 : ((l1.length : Int) != (l2.length : Int)) = true := by simp; omega
    go_enter Tryz.func66, Tryz.ntmps66
    go_wp2
    all_goals
      go_ret
      exact ⟨rfl, 0, rfl⟩
end Go.Proofs.YtbcdmcafobjpcaaGreatDoor.Bk
