/- Open, the document's own: what is opened, and what comes of it. -/
import Derived.Test.YtebeegfgghbdlaaSealSeal
import Derived.Deep.QuietTactic
import Derived.BigQuiet
namespace Go.Proofs.Ytebeegfgghbdlaa
open Go.RowKit

theorem bel_draws (B : Nat) (w : World) (n : Nat) : Below B w (w.drewN n) := ⟨rfl, rfl, rfl, Nat.le_refl _, fun _ _ => rfl⟩
def bodyOf (b : ByteArray) : ByteArray := b.extract 0 (b.size - 4)
def tailOf (b : ByteArray) : ByteArray := b.extract (b.size - 4) b.size
/-- Is it opened? -/
def opens (b : ByteArray) : Bool := decide (4 ≤ b.size ∧ getI (tailOf b) = sumI (bodyOf b).data.toList)
def openS (b : ByteArray) : ByteArray := if opens b = true then bodyOf b else ByteArray.empty
theorem bodyOf_size (b : ByteArray) : (bodyOf b).size = b.size - 4 := by simp [bodyOf, ByteArray.size_extract]
theorem tailOf_size (b : ByteArray) (h : 4 ≤ b.size) : (tailOf b).size = 4 := by simp [tailOf, ByteArray.size_extract]; omega
theorem getI_range (b : ByteArray) : 0 ≤ getI b ∧ getI b < 72057594037927936 := by
  refine ⟨numL_nonneg _, ?_⟩
  have := numL_lt (b.data.toList.take 7) 7 (List.length_take_le _ _)
  exact this
theorem opens_no (b : ByteArray) (h : ¬ (4 ≤ b.size ∧ getI (tailOf b) = sumI (bodyOf b).data.toList)) : opens b = false ∧ openS b = ByteArray.empty := by
  have : opens b = false := decide_eq_false h
  exact ⟨this, by rw [openS, this]; rfl⟩
theorem opens_yes (b : ByteArray) (h : 4 ≤ b.size ∧ getI (tailOf b) = sumI (bodyOf b).data.toList) : opens b = true ∧ openS b = bodyOf b := by
  have : opens b = true := decide_eq_true h
  exact ⟨this, by rw [openS, this]; rfl⟩

theorem open_facts (b : ByteArray) (h0 : 4 ≤ b.size) (h1 : b.size ≤ 281474976710656) : ((bodyOf b).size ≤ 281474976710656 ∧ (bodyOf b).size ≤ maxLen) ∧ (tailOf b).size ≤ maxLen := by
  rw [bodyOf_size, tailOf_size b h0]
  unfold maxLen
  omega
set_option maxRecDepth 100000 in
set_option maxHeartbeats 400000 in
theorem rOpen_is (b : ByteArray) (h1 : b.size ≤ 281474976710656) (w : World) :
    Calls Try.prog 31 #[.string b] w fun e w' => e = .returned (.tuple #[.string (openS b), .bool (opens b)]) ∧ Below w.heap.size w w' := by
  by_cases h0 : 4 ≤ b.size
  · have HB := Lib.hid (show b.extract 0 (b.size - 4) = bodyOf b from rfl)
    have HT := Lib.hid (show b.extract (b.size - 4) b.size = tailOf b from rfl)
    have HM := Lib.hid (open_facts b h0 h1)
    have hr := sumI_range (bodyOf b).data.toList
    have hg := getI_range (tailOf b)
    obtain ⟨hr0, hr1⟩ := hr
    obtain ⟨hg0, hg1⟩ := hg
    have HS := Lib.hid (fun w => rSum_is (bodyOf b) w HM.out.1.2)
    have HG := Lib.hid (fun w => rGet_is (tailOf b) HM.out.2 w)
    have hd : decide ((b.size : Int) < 4) = false := by simp; omega
    by_cases hxy : getI (tailOf b) = sumI (bodyOf b).data.toList
    · obtain ⟨o1, o2⟩ := opens_yes b ⟨h0, hxy⟩
      rw [o1, o2]
      rw [hxy] at HG
      clear o1 o2 hxy hg0 hg1
      generalize sumI (bodyOf b).data.toList = x at *
      have hb : b.extract 0 (b.size - 4) = bodyOf b := rfl
      have ht : b.extract (b.size - 4) b.size = tailOf b := rfl
      generalize bodyOf b = t at *
      generalize tailOf b = z at *
      go_enter Try.func31, Try.ntmps31
      go_wp2_with fail
      go_quiet (first | (go_at_call 32; rw [HT.out]; exact Calls.quiet_of_same (HG.out _)) | (go_at_call 62; rw [HB.out]; exact Calls.quiet_of_same (HS.out _)) | (go_at_call 32; exact Calls.quiet_of_same (HG.out _)) | (go_at_call 62; exact Calls.quiet_of_same (HS.out _)))
      go_wp2
      go_ret2
      exact ⟨by rw [← HB.out]; rfl, bel_draws _ _ _⟩
    · obtain ⟨o1, o2⟩ := opens_no b (fun q => hxy q.2)
      rw [o1, o2]
      clear o1 o2
      generalize sumI (bodyOf b).data.toList = x at *
      generalize getI (tailOf b) = y at *
      have hb : b.extract 0 (b.size - 4) = bodyOf b := rfl
      have ht : b.extract (b.size - 4) b.size = tailOf b := rfl
      generalize bodyOf b = t at *
      generalize tailOf b = z at *
      go_enter Try.func31, Try.ntmps31
      go_wp2_with fail
      go_quiet (first | (go_at_call 32; rw [HT.out]; exact Calls.quiet_of_same (HG.out _)) | (go_at_call 62; rw [HB.out]; exact Calls.quiet_of_same (HS.out _)) | (go_at_call 32; exact Calls.quiet_of_same (HG.out _)) | (go_at_call 62; exact Calls.quiet_of_same (HS.out _)))
      go_wp2
      go_ret2
      exact ⟨rfl, bel_draws _ _ _⟩
  · obtain ⟨e1, e2⟩ := opens_no b (fun q => h0 q.1)
    rw [e1, e2]
    clear e1 e2
    have h0' : b.size < 4 := by omega
    have hd : decide ((b.size : Int) < 4) = true := by simp; omega
    clear h0
    go_enter Try.func31, Try.ntmps31
    go_wp2_with fail
    go_quiet (fail)
    go_wp2
    all_goals
      go_ret2
      exact ⟨rfl, bel_draws _ _ _⟩
end Go.Proofs.Ytebeegfgghbdlaa
