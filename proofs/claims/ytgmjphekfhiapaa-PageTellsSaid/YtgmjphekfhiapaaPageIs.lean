/- Package page: the tests over lists (slices.ContainsFunc with isOut, isCutOtherwise). -/
import Derived.Test.YtgmjphekfhiapaaBookSameI
namespace Go.Proofs.Ytgmjphekfhiapaa
open Go.RowKit
open Go.Proofs.Ytgmjphekfhiapaa.Bk

def outI (v : Int) : Bool := !decide (0 ≤ v ∧ v < 4294967296)
def outT (b : ByteArray) : Bool := decide (b.size ≠ 32)
theorem ret_bool {a b : Bool} (h : a = b) : Ending.returned (.bool a) = .returned (.bool b) := by rw [h]
theorem outI_lo (v : Int) (h : v < 0) : true = outI v := by rw [outI, decide_eq_false (fun q => by omega)]; rfl
theorem outI_hi (v : Int) (h : ¬ v < 0) : decide (4294967296 ≤ v) = outI v := by
  unfold outI
  by_cases h2 : v < 4294967296
  · rw [decide_eq_false (by omega), decide_eq_true (by omega)]; rfl
  · rw [decide_eq_true (by omega), decide_eq_false (fun q => h2 q.2)]; rfl
theorem isOut_is (v : Int) (w : World) : Calls Try.prog 20 #[.int .i64 v] w fun e w' => e = .returned (.bool (outI v)) ∧ w' = w := by
  by_cases h : v < 0
  · have H := Lib.hid (outI_lo v h)
    go_enter Try.func20, Try.ntmps20
    go_wp2
    all_goals
      go_ret
      exact ⟨ret_bool H.out, rfl⟩
  · have H := Lib.hid (outI_hi v h)
    go_enter Try.func20, Try.ntmps20
    go_wp2
    all_goals
      go_ret
      exact ⟨ret_bool H.out, rfl⟩
theorem outT_is (b : ByteArray) : ((b.size : Int) != 32) = outT b := by
  unfold outT
  by_cases h : b.size = 32
  · simp [h]
  · simp [h]; omega
theorem isCut_is (b : ByteArray) (w : World) : Calls Try.prog 30 #[.string b] w fun e w' => e = .returned (.bool (outT b)) ∧ w' = w := by
  have H := Lib.hid (outT_is b)
  go_enter Try.func30, Try.ntmps30
  go_wp2
  go_ret
  exact ⟨ret_bool H.out, rfl⟩
theorem any_next {α : Type} {l : List α} {p : α → Bool} {k : Nat} (h : (l.take k).any p = false) (hk : k < l.length) (e : p l[k] = false) : (l.take (k + 1)).any p = false := by
  rw [List.take_succ_eq_append_getElem hk, List.any_append, h]
  simp [e]
theorem any_hit {α : Type} {l : List α} {p : α → Bool} {k : Nat} (hk : k < l.length) (e : p l[k] = true) : l.any p = true := List.any_eq_true.2 ⟨_, List.getElem_mem hk, e⟩
set_option maxRecDepth 100000 in
theorem indexFI (a : Option Addr) (l : List Int) (c : Nat) (w : World) (h : LiesAt w a (vals l)) (hl : l.length ≤ maxLen) (t : Bool) (ht : l.any outI = t) :
    Calls Try.prog 60 #[.slice a l.length c, .func (.func 20) #[] #[]] w fun e w' => (∃ i : Int, e = .returned (.int .i64 i) ∧ Hid (decide (0 ≤ i) = t)) ∧ w' = w := by
  unfold maxLen at hl
  have H := Lib.hid h
  have HT := Lib.hid ht
  clear h ht
  go_enter Try.func60, Try.ntmps60
  go_wp2
  go_loopw [5, 8] (fun _ i wr => ∃ k : Nat, k ≤ l.length ∧ i = .int .i64 (k : Int) ∧ wr = w ∧ Hid ((l.take k).any outI = false)) (fun _ i _ => l.length - (intOf i).toNat)
  case atStart => exact ⟨0, Nat.zero_le _, rfl, rfl, Lib.hid rfl⟩
  case round =>
    obtain ⟨k, hk, rfl, rfl, hp⟩ := hrel
    by_cases hlt : k < l.length
    · obtain ⟨b1, rfl, _, e1⟩ := H.out.at_ (k := k) (v := Value.int .i64 l[k]) (by simp [vals, hlt])
      have hi1 : (k : Int) < (l.length : Int) := by omega
      by_cases hxy : outI l[k] = true
      · have HN := Lib.hid (any_hit hlt hxy)
        generalize l[k] = x at *
        have HX := Lib.hid (fun w => isOut_is x w)
        rw [hxy] at HX
        clear hxy
        go_wp2_with (go_at_call 20; refine (HX.out _).mono ?_; rintro e w1 ⟨rfl, rfl⟩)
        go_ret
        refine ⟨⟨k, rfl, Lib.hid ?_⟩, rfl⟩
        rw [← HT.out, HN.out]
        exact decide_eq_true (by omega)
      · have hxy : outI l[k] = false := by simpa using hxy
        have HN := Lib.hid (any_next hp.out hlt hxy)
        generalize l[k] = x at *
        have HX := Lib.hid (fun w => isOut_is x w)
        rw [hxy] at HX
        clear hxy
        go_wp2_with (go_at_call 20; refine (HX.out _).mono ?_; rintro e w1 ⟨rfl, rfl⟩)
        exact ⟨⟨k + 1, by omega, by go_num, trivial, HN⟩, by simp [intOf]; omega⟩
    · obtain rfl : k = l.length := by omega
      have hn : ¬ (l.length : Int) < (l.length : Int) := by omega
      have HN := Lib.hid (show l.any outI = false by have := hp.out; rwa [List.take_of_length_le (Nat.le_refl _)] at this)
      clear hlt hk
      go_wp2
      go_ret
      refine ⟨⟨-1, rfl, Lib.hid ?_⟩, rfl⟩
      rw [← HT.out, HN.out]
      exact decide_eq_false (by omega)
theorem containsFI (a : Option Addr) (l : List Int) (c : Nat) (w : World) (h : LiesAt w a (vals l)) (hl : l.length ≤ maxLen) :
    Calls Try.prog 21 #[.slice a l.length c, .func (.func 20) #[] #[]] w fun e w' => e = .returned (.bool (l.any outI)) ∧ w' = w := by
  go_enter Try.func21, Try.ntmps21
  go_wp2_with (go_at_call 60; refine (indexFI a l c _ h hl _ rfl).mono ?_; rintro e w1 ⟨⟨i, rfl, hi⟩, rfl⟩)
  go_ret
  exact ⟨ret_bool hi.out, rfl⟩
set_option maxRecDepth 100000 in
theorem indexFT (a : Option Addr) (l : List ByteArray) (c : Nat) (w : World) (h : LiesAt w a (txts l)) (hl : l.length ≤ maxLen) (t : Bool) (ht : l.any outT = t) :
    Calls Try.prog 67 #[.slice a l.length c, .func (.func 30) #[] #[]] w fun e w' => (∃ i : Int, e = .returned (.int .i64 i) ∧ Hid (decide (0 ≤ i) = t)) ∧ w' = w := by
  unfold maxLen at hl
  have H := Lib.hid h
  have HT := Lib.hid ht
  clear h ht
  go_enter Try.func67, Try.ntmps67
  go_wp2
  go_loopw [5, 8] (fun _ i wr => ∃ k : Nat, k ≤ l.length ∧ i = .int .i64 (k : Int) ∧ wr = w ∧ Hid ((l.take k).any outT = false)) (fun _ i _ => l.length - (intOf i).toNat)
  case atStart => exact ⟨0, Nat.zero_le _, rfl, rfl, Lib.hid rfl⟩
  case round =>
    obtain ⟨k, hk, rfl, rfl, hp⟩ := hrel
    by_cases hlt : k < l.length
    · obtain ⟨b1, rfl, _, e1⟩ := H.out.at_ (k := k) (v := Value.string l[k]) (by simp [txts, hlt])
      have hi1 : (k : Int) < (l.length : Int) := by omega
      by_cases hxy : outT l[k] = true
      · have HN := Lib.hid (any_hit hlt hxy)
        generalize l[k] = x at *
        have HX := Lib.hid (fun w => isCut_is x w)
        rw [hxy] at HX
        clear hxy
        go_wp2_with (go_at_call 30; refine (HX.out _).mono ?_; rintro e w1 ⟨rfl, rfl⟩)
        go_ret
        refine ⟨⟨k, rfl, Lib.hid ?_⟩, rfl⟩
        rw [← HT.out, HN.out]
        exact decide_eq_true (by omega)
      · have hxy : outT l[k] = false := by simpa using hxy
        have HN := Lib.hid (any_next hp.out hlt hxy)
        generalize l[k] = x at *
        have HX := Lib.hid (fun w => isCut_is x w)
        rw [hxy] at HX
        clear hxy
        go_wp2_with (go_at_call 30; refine (HX.out _).mono ?_; rintro e w1 ⟨rfl, rfl⟩)
        exact ⟨⟨k + 1, by omega, by go_num, trivial, HN⟩, by simp [intOf]; omega⟩
    · obtain rfl : k = l.length := by omega
      have hn : ¬ (l.length : Int) < (l.length : Int) := by omega
      have HN := Lib.hid (show l.any outT = false by have := hp.out; rwa [List.take_of_length_le (Nat.le_refl _)] at this)
      clear hlt hk
      go_wp2
      go_ret
      refine ⟨⟨-1, rfl, Lib.hid ?_⟩, rfl⟩
      rw [← HT.out, HN.out]
      exact decide_eq_false (by omega)
theorem containsFT (a : Option Addr) (l : List ByteArray) (c : Nat) (w : World) (h : LiesAt w a (txts l)) (hl : l.length ≤ maxLen) :
    Calls Try.prog 29 #[.slice a l.length c, .func (.func 30) #[] #[]] w fun e w' => e = .returned (.bool (l.any outT)) ∧ w' = w := by
  go_enter Try.func29, Try.ntmps29
  go_wp2_with (go_at_call 67; refine (indexFT a l c _ h hl _ rfl).mono ?_; rintro e w1 ⟨⟨i, rfl, hi⟩, rfl⟩)
  go_ret
  exact ⟨ret_bool hi.out, rfl⟩
end Go.Proofs.Ytgmjphekfhiapaa
