/- Package page: Put. -/
import Derived.Test.YtgmjphekfhiapaaPageCut
namespace Go.Proofs.Ytgmjphekfhiapaa
open Go.RowKit
open Go.Proofs.Ytgmjphekfhiapaa.Bk

/-- May it be a page? Its bytes; its sectors, or none. -/
def pgOk (no v : Int) (cs : List Int) : Bool := decide (0 ≤ no ∧ no ≤ 1000 ∧ outI v = false ∧ cs.length = 16 ∧ cs.any outI = false)
def pgB (no v : Int) (cs : List Int) : ByteArray := sealB (catB (no :: v :: cs)) 96
def pgL (no v : Int) (cs : List Int) : List ByteArray := if pgOk no v cs = true then parts (pgB no v cs) else []
theorem pg_cat (no v : Int) (cs : List Int) (h : cs.length = 16) : (catB (no :: v :: cs)).size ≤ 72 := by
  have := catB_le (no :: v :: cs)
  simp only [List.length_cons, h] at this
  exact this
theorem pgB_size (no v : Int) (cs : List Int) (h : cs.length = 16) : (pgB no v cs).size = 96 := sealB_size _ _ (by omega) (by have := pg_cat no v cs h; omega)
theorem pg_sealS (no v : Int) (cs : List Int) (h : cs.length = 16) : sealS (catB (no :: v :: cs)) 96 = pgB no v cs := if_pos ⟨by omega, by omega, by have := pg_cat no v cs h; omega⟩
theorem pgL_no {no v : Int} {cs : List Int} (h : pgOk no v cs = false) : pgL no v cs = [] := if_neg (by rw [h]; decide)
theorem pgL_yes {no v : Int} {cs : List Int} (h : pgOk no v cs = true) : pgL no v cs = parts (pgB no v cs) := if_pos h

theorem owns_mono {w : World} {b b' : Nat} {e : TypeId} {k : Nat} {v : Value} {m : Nat} {cs : List Value} (hb : b ≤ b') (h : w.ownsRow b' e k v m cs) : w.ownsRow b e k v m cs := by
  refine ⟨h.1, ?_⟩
  rcases h.2 with q | ⟨g, cap, cur, hv, hg, r⟩
  · exact .inl q
  · exact .inr ⟨g, cap, cur, hv, Nat.le_trans hb hg, r⟩
theorem pg_not {no v : Int} {cs : List Int} (h : pgOk no v cs = false) : no < 0 ∨ (0 ≤ no ∧ 1000 < no) ∨ ((0 ≤ no ∧ no ≤ 1000) ∧ outI v = true) ∨ ((0 ≤ no ∧ no ≤ 1000) ∧ outI v = false ∧ cs.length ≠ 16) ∨ ((0 ≤ no ∧ no ≤ 1000) ∧ outI v = false ∧ cs.length = 16 ∧ cs.any outI = true) := by
  have h := of_decide_eq_false h
  cases hv : outI v <;> cases hc : cs.any outI <;> simp [hv, hc] at h ⊢ <;> omega

set_option maxRecDepth 100000 in
set_option maxHeartbeats 1000000 in
theorem pput_is (no v : Int) (a : Option Addr) (cs : List Int) (c : Nat) (w : World) (h : LiesAt w a (vals cs)) (hl : cs.length ≤ maxLen) :
    Calls Try.prog 7 #[.int .i64 no, .int .i64 v, .slice a cs.length c] w fun e w' => ∃ x, e = .returned (.tuple #[x, .bool (pgOk no v cs)]) ∧ Below w.heap.size w w' ∧ w'.ownsRow w.heap.size 9 1 x (pgL no v cs).length (txts (pgL no v cs)) := by
  have HO := Lib.hid (fun u => isOut_is v u)
  have H := Lib.hid (And.intro h hl)
  have HC := Lib.hid (fun u (q : LiesAt u a (vals cs)) => containsFI a cs c u q hl)
  by_cases hok : pgOk no v cs = true
  · have hq := of_decide_eq_true hok
    obtain ⟨h0, h1, h2, h3, h4⟩ := hq
    rw [pgL_yes hok, hok]
    rw [h2] at HO
    rw [h4] at HC
    have HS := Lib.hid (fun u => Seal_is (catB (no :: v :: cs)) 96 (by have := pg_cat no v cs h3; unfold maxLen; omega) u)
    rw [pg_sealS no v cs h3] at HS
    have HCU := Lib.hid (fun u => cut_is (pgB no v cs) (pgB_size no v cs h3) u)
    have HBY := Lib.hid (fun u (q : LiesAt u a (vals cs)) => bytesOf_is no v a cs c u q (by omega))
    have hl3 : (cs.length : Int) = 16 := by omega
    clear hok h2 h4 h3 h hl
    generalize pgB no v cs = s at *
    have hB : Hid (Below w.heap.size w w) := Lib.hid (Below.refl _ _)
    go_enter Try.func7, Try.ntmps7
    go_wp2_with (first
      | (go_at_call 20; refine (HO.out _).mono ?_; rintro e w1 ⟨rfl, rfl⟩)
      | (go_at_call 21; refine (HC.out _ (H.out.1.below hB.out)).mono ?_; rintro e w1 ⟨rfl, rfl⟩)
      | (go_at_call 24; refine (HBY.out _ (H.out.1.below hB.out)).mono ?_; rintro e w1 ⟨rfl, b1⟩; replace hB := Lib.hid (below_next hB.out b1); clear b1)
      | (go_at_call 23; refine (HS.out _).mono ?_; rintro e w1 ⟨rfl, b1⟩; replace hB := Lib.hid (below_next hB.out b1); clear b1)
      | (go_at_call 22; refine (HCU.out _).mono ?_; rintro e w1 ⟨x, rfl, b1, o1⟩; replace HCU := Lib.hid (And.intro hB.out.size o1); replace hB := Lib.hid (below_next hB.out b1); clear b1 o1))
    go_ret2
    exact ⟨_, rfl, hB.out, owns_mono HCU.out.1 HCU.out.2⟩
  · have hok : pgOk no v cs = false := by simpa using hok
    rw [pgL_no hok, hok]
    have hB : Hid (Below w.heap.size w w) := Lib.hid (Below.refl _ _)
    rcases pg_not hok with h0 | ⟨h0, h1⟩ | ⟨⟨h0, h1⟩, h2⟩ | ⟨⟨h0, h1⟩, h2, h3⟩ | ⟨⟨h0, h1⟩, h2, h3, h4⟩
    · clear hok h hl
      go_enter Try.func7, Try.ntmps7
      go_wp2
      all_goals
        go_ret2
        exact ⟨_, rfl, hB.out, World.ownsRow_nil _ _ _ _⟩
    · clear hok h hl
      go_enter Try.func7, Try.ntmps7
      go_wp2
      all_goals
        go_ret2
        exact ⟨_, rfl, hB.out, World.ownsRow_nil _ _ _ _⟩
    · rw [h2] at HO
      clear hok h hl h2
      go_enter Try.func7, Try.ntmps7
      go_wp2_with (go_at_call 20; refine (HO.out _).mono ?_; rintro e w1 ⟨rfl, rfl⟩)
      all_goals
        go_ret2
        exact ⟨_, rfl, hB.out, World.ownsRow_nil _ _ _ _⟩
    · rw [h2] at HO
      have hl3 : ((cs.length : Int) == 16) = false := by simp; omega
      have hl4 : ((cs.length : Int) != 16) = true := by simp; omega
      clear hok h hl h2 h3
      go_enter Try.func7, Try.ntmps7
      go_wp2_with (go_at_call 20; refine (HO.out _).mono ?_; rintro e w1 ⟨rfl, rfl⟩)
      all_goals
        go_ret2
        exact ⟨_, rfl, hB.out, World.ownsRow_nil _ _ _ _⟩
    · rw [h2] at HO
      rw [h4] at HC
      have hl3 : (cs.length : Int) = 16 := by omega
      clear hok h hl h2 h3 h4
      go_enter Try.func7, Try.ntmps7
      go_wp2_with (first
        | (go_at_call 20; refine (HO.out _).mono ?_; rintro e w1 ⟨rfl, rfl⟩)
        | (go_at_call 21; refine (HC.out _ (H.out.1.below hB.out)).mono ?_; rintro e w1 ⟨rfl, rfl⟩))
      all_goals
        go_ret2
        exact ⟨_, rfl, hB.out, World.ownsRow_nil _ _ _ _⟩
end Go.Proofs.Ytgmjphekfhiapaa
