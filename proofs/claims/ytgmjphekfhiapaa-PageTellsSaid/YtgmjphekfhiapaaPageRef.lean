/- The document's own Page. -/
import Derived.Test.YtgmjphekfhiapaaPageAt
import Derived.Deep.RegionHeld3
namespace Go.Proofs.Ytgmjphekfhiapaa
open Go.RowKit
open Go.Proofs.Ytgmjphekfhiapaa.Bk

theorem num_out (v : Int) (w : World) : Calls Try.prog 25 #[.int .i64 v] w fun e w' => e = .returned (.bool (!outI v)) ∧ w' = w := by
  have := Number_is v w
  rwa [show decide (0 ≤ v ∧ v < 4294967296) = !outI v by unfold outI; rw [Bool.not_not]] at this
theorem cat_two (a b : Int) : putS a 4 ++ putS b 4 = catB [a, b] := by
  rw [catB, catB, show catB [] = ByteArray.empty from rfl, ByteArray.append_empty]
theorem cat_step (no v : Int) (cs : List Int) (k : Nat) (h : k < cs.length) : catB (no :: v :: cs.take k) ++ putS cs[k] 4 = catB (no :: v :: cs.take (k + 1)) := by
  rw [← take_cons2 no v cs k h, catB_snoc]
theorem cat_fits (l : List Int) (x : Int) (h : l.length ≤ 1000) : (catB l).size + (putS x 4).size ≤ 9223372036854775807 := by
  have h1 := putS_le x
  have h2 := catB_le l
  omega
theorem last_part (s : ByteArray) (hs : s.size = 96) : s.extract 64 s.size = part s 2 := by rw [hs]; rfl

set_option maxRecDepth 100000 in
set_option maxHeartbeats 2000000 in
theorem rpage_is (no v : Int) (a : Option Addr) (cs : List Int) (c : Nat) (w : World) (h : LiesAt w a (vals cs)) :
    Calls Try.prog 8 #[.int .i64 no, .int .i64 v, .slice a cs.length c] w fun e w' => ∃ x, e = .returned (.tuple #[x, .bool (pgOk no v cs)]) ∧ Below w.heap.size w w' ∧ w'.ownsRow w.heap.size 9 1 x (pgL no v cs).length (txts (pgL no v cs)) := by
  have HO := Lib.hid (fun u => num_out v u)
  have H := Lib.hid h
  have hB : Hid (Below w.heap.size w w) := Lib.hid (Below.refl _ _)
  by_cases hpre : (0 ≤ no ∧ no ≤ 1000) ∧ outI v = false ∧ cs.length = 16
  · obtain ⟨⟨h0, h1⟩, h2, h3⟩ := hpre
    have HP := Lib.hid (fun (x : Int) u => rPut_is x 4 u)
    have HNX := Lib.hid (fun (x : Int) u => num_out x u)
    have hl3 : (cs.length : Int) = 16 := by omega
    have HS := Lib.hid (fun u => rSeal_is (catB (no :: v :: cs)) 96 (by have := pg_cat no v cs h3; unfold maxLen; omega) u)
    rw [pg_sealS no v cs h3] at HS
    have hs := pgB_size no v cs h3
    have HL := Lib.hid (And.intro h3 (fun (q : cs.any outI = false) => show pgOk no v cs = true ∧ pgL no v cs = parts (pgB no v cs) from by
      have e : pgOk no v cs = true := decide_eq_true ⟨h0, h1, h2, h3, q⟩
      exact ⟨e, pgL_yes e⟩))
    have HF := Lib.hid (fun (q : cs.any outI = true) => show pgOk no v cs = false ∧ pgL no v cs = [] from by
      have e : pgOk no v cs = false := decide_eq_false (fun z => by rw [z.2.2.2.2] at q; cases q)
      exact ⟨e, pgL_no e⟩)
    rw [h2] at HO
    have HC2 := Lib.hid (And.intro (cat_two no v) (fun k (h : k < cs.length) => cat_step no v cs k h))
    have hf0 : (putS no 4).size + (putS v 4).size ≤ 9223372036854775807 := by have := putS_le no; have := putS_le v; omega
    have HFT := Lib.hid (fun (k : Nat) (x : Int) => cat_fits (no :: v :: cs.take k) x (by simp [List.length_take]; omega))
    have HX := Lib.hid (last_part (pgB no v cs) hs)
    generalize pgB no v cs = s at *
    clear h h2
    go_enter Try.func8, Try.ntmps8
    go_wp2_with (first
      | (go_at_call 25; refine (HO.out _).mono ?_; rintro e w1 ⟨rfl, hw⟩; obtain rfl := hw.symm)
      | (go_at_call 26; refine (HP.out _ _).mono ?_; rintro e w1 ⟨rfl, b1⟩; replace hB := Lib.hid (below_next hB.out b1); clear b1))
    rw [HC2.out.1]
    go_loopw [8, 9] (fun b i wr => ∃ k : Nat, k ≤ cs.length ∧ i = .int .i64 (k : Int) ∧ b = .string (catB (no :: v :: cs.take k)) ∧ Hid (Below w.heap.size w wr ∧ (cs.take k).any outI = false)) (fun _ i _ => cs.length - (intOf i).toNat)
    case atStart => exact ⟨0, Nat.zero_le _, rfl, rfl, Lib.hid ⟨hB.out, rfl⟩⟩
    case round =>
      obtain ⟨k, hk, rfl, rfl, HI⟩ := hrel
      by_cases hlt : k < cs.length
      · have HT := Lib.hid (HC2.out.2 k hlt)
        obtain ⟨b1, rfl, hbl, e1⟩ := (H.out.below HI.out.1).at_ (k := k) (val_at hlt)
        have HE := Lib.hid (And.intro hbl e1)
        have hi1 : (k : Int) < 16 := by omega
        have hf := HFT.out k cs[k]
        by_cases hx : outI cs[k] = true
        · have HQ := Lib.hid (HF.out (any_hit hlt hx))
          have HNK := Lib.hid (fun u => HNX.out cs[k] u)
          rw [hx] at HNK
          clear hx
          generalize cs[k] = x at *
          generalize catB (no :: v :: cs.take k) = cb at *
          go_wp2_with (go_at_call 25; refine (HNK.out _).mono ?_; rintro e w1 ⟨rfl, rfl⟩)
          all_goals
            go_ret2
            rw [HQ.out.1, HQ.out.2]
            exact ⟨_, rfl, HI.out.1, World.ownsRow_nil _ _ _ _⟩
        · have hx : outI cs[k] = false := by simpa using hx
          have HN := Lib.hid (any_next HI.out.2 hlt hx)
          have HNK := Lib.hid (fun u => HNX.out cs[k] u)
          rw [hx] at HNK
          clear hx
          generalize cs[k] = x at *
          generalize catB (no :: v :: cs.take k) = cb at *
          go_wp2_with (first
            | (go_at_call 25; refine (HNK.out _).mono ?_; rintro e w1 ⟨rfl, hw⟩; obtain rfl := hw.symm)
            | (go_at_call 26; refine (HP.out _ _).mono ?_; rintro e w1 ⟨rfl, b1⟩; replace HI := Lib.hid (And.intro (below_next HI.out.1 b1) HI.out.2); clear b1))
          exact ⟨⟨k + 1, by omega, by go_num, by rw [HT.out], Lib.hid ⟨HI.out.1, HN.out⟩⟩, by simp [intOf]; omega⟩
      · obtain rfl : k = cs.length := by omega
        rw [take_len] at HI ⊢
        have HI0 := HI
        replace HI := Lib.hid HI0.out.1
        have HQ := Lib.hid (HL.out.2 HI0.out.2)
        have hn : ¬ (cs.length : Int) < (cs.length : Int) := by omega
        clear hlt hk
        generalize catB (no :: v :: cs) = cb at *
        go_wp2_with (go_at_call 27; refine (HS.out _).mono ?_; rintro e w1 ⟨rfl, b1⟩; replace HI := Lib.hid (below_next HI.out b1); clear b1)
        go_region
        all_goals
          go_wp2
          go_ret2
          rw [HQ.out.1, HQ.out.2]
          exact ⟨_, rfl, (HI.out.alloc HI.out.size _).drew, owns_laid _ w.heap.size 9 (txts (parts s)) 3 rfl HI.out.size (by unfold maxLen; omega)⟩
  · obtain ⟨e1, e2⟩ : pgOk no v cs = false ∧ pgL no v cs = [] := by
      have e : pgOk no v cs = false := decide_eq_false (fun q => hpre ⟨⟨q.1, q.2.1⟩, q.2.2.1, q.2.2.2.1⟩)
      exact ⟨e, pgL_no e⟩
    rw [e1, e2]
    by_cases h0 : no < 0
    · clear hpre h e1 e2
      go_enter Try.func8, Try.ntmps8
      go_wp2
      all_goals
        go_ret2
        exact ⟨_, rfl, hB.out, World.ownsRow_nil _ _ _ _⟩
    · by_cases h1 : 1000 < no
      · clear hpre h e1 e2
        go_enter Try.func8, Try.ntmps8
        go_wp2
        all_goals
          go_ret2
          exact ⟨_, rfl, hB.out, World.ownsRow_nil _ _ _ _⟩
      · by_cases h2 : outI v = true
        · rw [h2] at HO
          clear hpre h e1 e2 h2
          go_enter Try.func8, Try.ntmps8
          go_wp2_with (go_at_call 25; refine (HO.out _).mono ?_; rintro e w1 ⟨rfl, rfl⟩)
          all_goals
            go_ret2
            exact ⟨_, rfl, hB.out, World.ownsRow_nil _ _ _ _⟩
        · have h2 : outI v = false := by simpa using h2
          rw [h2] at HO
          have hl3 : ((cs.length : Int) == 16) = false := by
            have : cs.length ≠ 16 := fun q => hpre ⟨⟨by omega, by omega⟩, h2, q⟩
            simp; omega
          have hl4 : ((cs.length : Int) != 16) = true := by rw [bne, hl3]; rfl
          clear hpre h e1 e2 h2
          go_enter Try.func8, Try.ntmps8
          go_wp2_with (go_at_call 25; refine (HO.out _).mono ?_; rintro e w1 ⟨rfl, rfl⟩)
          all_goals
            go_ret2
            exact ⟨_, rfl, hB.out, World.ownsRow_nil _ _ _ _⟩
end Go.Proofs.Ytgmjphekfhiapaa
