/- LoopAround: however often it goes round, as long as it is cut, there is room for what fits at all. -/
import Derived.Test.YtjfccpajcdpahaaDoorLoopLgMore
namespace Go.Proofs.YtjfccpajcdpahaaDoor
open Go.RowKit Sec
open Go.Proofs.YtjfccpajcdpahaaDoor.Bk

def sqs (k : Nat) : List Chg := (List.range k).map fun (i : Nat) => (⟨(i : Int), (i : Int) * (i : Int)⟩ : Chg)
theorem sqs_len (k : Nat) : (sqs k).length = k := by simp [sqs]
theorem sqs_next (k : Nat) : sqs (k + 1) = sqs k ++ [⟨(k : Int), (k : Int) * (k : Int)⟩] := by simp [sqs, List.range_succ]
theorem sq_le {k : Nat} (h : k ≤ 30) : 0 ≤ (k : Int) * (k : Int) ∧ (k : Int) * (k : Int) ≤ 900 := by
  have := Nat.mul_le_mul h h
  have e : (k : Int) * (k : Int) = ((k * k : Nat) : Int) := by simp
  omega
theorem sqs_ok (k : Nat) (hk : k ≤ 30) : ∀ x ∈ sqs k, numI x.c = true ∧ numI x.v = true := fun x hx => by
  obtain ⟨i, hi, rfl⟩ := List.mem_map.1 hx
  have h1 := List.mem_range.1 hi
  have h2 := sq_le (k := i) (by omega)
  exact ⟨decide_eq_true (show 0 ≤ (i : Int) ∧ (i : Int) < 4294967296 by omega), decide_eq_true (show 0 ≤ (i : Int) * (i : Int) ∧ (i : Int) * (i : Int) < 4294967296 from ⟨h2.1, by omega⟩)⟩
theorem pr_le {i k : Nat} (hi : i ≤ 60) (hk : k ≤ 30) : 0 ≤ ((i : Int) + 1) * ((k : Int) + 1) ∧ ((i : Int) + 1) * ((k : Int) + 1) ≤ 1891 ∧ ((i * (k + 1) + k + 1 : Nat) : Int) = ((i : Int) + 1) * ((k : Int) + 1) ∧ i * (k + 1) + k + 1 = (i + 1) * (k + 1) := by
  have h1 := Nat.mul_le_mul (show i + 1 ≤ 61 by omega) (show k + 1 ≤ 31 by omega)
  have h2 : i * (k + 1) + k + 1 = (i + 1) * (k + 1) := by rw [Nat.add_mul, Nat.one_mul]; omega
  have h3 : (((i + 1) * (k + 1) : Nat) : Int) = ((i : Int) + 1) * ((k : Int) + 1) := by simp
  rw [h2]
  exact ⟨by omega, by omega, h3, rfl⟩

section
variable {B : Nat} {G : Nat → Prop} {w : World} {q p n H K j : Nat} {ep : Int}
theorem ar_lim (hn : n ≤ 30) (hH : H ≤ 4000) (e0 : 0 ≤ ep) (e1 : ep ≤ 100) (hK : K ≤ 5000) : Lim 0 n H ep K := ⟨by omega, by omega, by omega, e0, by omega, by omega⟩
theorem ar_app {a : Option Addr} {c : Nat} (h : Lg B G w q p 0 n H H ep [] K) (hn : n ≤ 30) (hj : j < n) (hH : H ≤ 4000) (e0 : 0 ≤ ep) (e1 : ep ≤ 100) (hK : K ≤ 4000) (hl : LiesAt w a (flat Chg.cells (sqs j))) :
    Calls Tryd.prog 12 #[.pointer (some ⟨q, 0, none⟩), .slice a j c] w fun e w' => e = .returned (.int .i64 0) ∧ Lg B G w' q p 0 n H (H + j + 1) ep (sqs j) (K + j + 2) ∧ Below B w w' ∧ KeptG G w w' := by
  have hg := lg_append h (ar_lim hn hH e0 e1 (by omega)) a (sqs j) c hl (by rw [sqs_len]; omega)
  simp only [sqs_len] at hg
  refine hg.mono fun e w' ⟨x, nx, all, he, hA, hb, hk, hx⟩ => ?_
  rcases hx with ⟨rfl, rfl, hall, _, _⟩ | ⟨_, _, _, hno⟩
  · rw [List.nil_append] at hall
    rw [hall] at hA
    exact ⟨he, hA, hb, hk⟩
  · exfalso
    rcases hno with r | r
    · rw [grOk_of (by rw [sqs_len]; omega) e0 (by omega) (sqs_ok j (by omega))] at r
      cases r
    · omega
theorem ar_room (h : Lg B G w q p 0 n H (H + j + 1) ep (sqs j) K) (hn : n ≤ 30) (hH : H ≤ 4000) (e0 : 0 ≤ ep) (e1 : ep ≤ 100) (hK : K ≤ 5000) :
    Calls Tryd.prog 16 #[.pointer (some ⟨q, 0, none⟩)] w fun e w' => e = .returned (.int .i64 ((n : Int) - (j : Int) - 1)) ∧ Below w.heap.size w w' := by
  refine (lg_room h (ar_lim hn hH e0 e1 hK)).mono fun e w' ⟨he, hb⟩ => ⟨?_, hb⟩
  rw [he]
  congr 2
  omega
theorem ar_next {P : Int} (h : Lg B G w q p 0 n H (H + j + 1) ep (sqs j) K) (hP : ((H + j + 1 : Nat) : Int) = P) : Calls Tryd.prog 14 #[.pointer (some ⟨q, 0, none⟩)] w fun e w' => e = .returned (.int .i64 P) ∧ w' = w := by
  subst hP
  exact lg_next h
theorem ar_scan {P : Int} (h : Lg B G w q p 0 n H (H + j + 1) ep (sqs j) K) (hn : n ≤ 30) (hH : H ≤ 4000) (e0 : 0 ≤ ep) (e1 : ep ≤ 100) (hK : K ≤ 5000) (hP : ((H + j + 1 : Nat) : Int) = P) :
    Calls Tryd.prog 10 #[.pointer (some ⟨p, 0, none⟩), .int .i64 0, .int .i64 n, .int .i64 (H : Int), .int .i64 ep] w fun e w' => ∃ a c, e = .returned (.tuple #[.slice a j c, .int .i64 P, .int .i64 0]) ∧ Below w.heap.size w w' ∧ LiesAt w' a (flat Chg.cells (sqs j)) := by
  subst hP
  refine (lg_scan h (ar_lim hn hH e0 e1 hK)).mono fun e w' ⟨v, he, hb, ho⟩ => ?_
  rw [sqs_len] at ho
  obtain ⟨a, c, rfl, hl, _⟩ := own_formK ho
  exact ⟨a, c, he, hb, hl⟩
theorem ar_same {a1 a2 : Option Addr} {c1 c2 : Nat} (h1 : LiesAt w a1 (flat Chg.cells (sqs j))) (h2 : LiesAt w a2 (flat Chg.cells (sqs j))) (hj : j ≤ 30) :
    Calls Tryd.prog 15 #[.slice a1 j c1, .slice a2 j c2] w fun e w' => e = .returned (.bool true) ∧ Below w.heap.size w w' := by
  have := SameChanges_is (sqs j) (sqs j) a1 a2 c1 c2 w h1 h2 (by rw [sqs_len]; unfold maxLen; omega) (by rw [sqs_len]; unfold maxLen; omega) true ⟨fun _ => rfl, fun _ => rfl⟩
  simp only [sqs_len] at this
  exact this.mono fun e w' ⟨he, m, hm⟩ => ⟨he, by rw [hm]; exact ⟨rfl, rfl, rfl, Nat.le_refl _, fun _ _ => rfl⟩⟩
end
set_option maxRecDepth 100000 in
set_option maxHeartbeats 8000000 in
theorem Around_walk (x y z : Int) (W : World) (ht : TyOk W.heap.size W) :
    Calls Tryd.prog 5 #[.int .i64 x, .int .i64 y, .int .i64 z] W fun e w' => e = .returned (.bool true) ∧ Below W.heap.size W w' := by
  have HT := Lib.hid ht
  clear ht
  by_cases hin : x < 2 ∨ 30 < x ∨ y < 0 ∨ x ≤ y ∨ z < 0 ∨ 60 < z
  · have HA := Lib.hid (lalive_is W HT.out)
    rcases hin with h | h | h | h | h | h
    all_goals
      go_enter Tryd.func5, Tryd.ntmps5
      go_wp2_with (go_at_call 7; refine HA.out.mono ?_; rintro e w1 ⟨rfl, hb1⟩)
    all_goals
      go_ret
      exact ⟨rfl, hb1⟩
  · obtain ⟨n, rfl⟩ := Int.eq_ofNat_of_zero_le (show 0 ≤ x by omega)
    obtain ⟨k, rfl⟩ := Int.eq_ofNat_of_zero_le (show 0 ≤ y by omega)
    obtain ⟨m, rfl⟩ := Int.eq_ofNat_of_zero_le (show 0 ≤ z by omega)
    have h1 : 2 ≤ (n : Int) := by omega
    have h2 : (n : Int) ≤ 30 := by omega
    have h3 : (k : Int) < (n : Int) := by omega
    have h4 : (m : Int) ≤ 60 := by omega
    obtain ⟨i0, hi, hz0, hz1, hz2⟩ := info_parts chgInfo
    have HI := Lib.hid (And.intro hi (And.intro hz0 (And.intro hz1 hz2)))
    have hmn : (min (max (n : Int) 0) 3000).toNat = n := by omega
    have HMN := Lib.hid hmn
    clear hin hi hz0 hz1 hz2 hmn
    go_enter Tryd.func5, Tryd.ntmps5
    go_wp2_with (first
      | (go_at_call 7; refine (lalive_is _ HT.out).mono ?_; rintro e w1 ⟨rfl, hb1⟩)
      | (go_at_call 8; refine (New_k n _ (HT.out.below hb1) hb1.size).mono ?_; rintro e w2 ⟨p, rfl, hA, hb2, _⟩; rw [HMN.out] at hA; have H2 : Hid (AtK W.heap.size (fun _ => False) w2 p (newD n) ∧ Below W.heap.size W w2) := Lib.hid ⟨hA.mono (fun _ q => q.elim), hb1.trans (hb2.mono hb1.size)⟩; clear hA hb2)
      | (go_at_call 9
         refine (lg_new H2.out.1 0 n 0 1 (by omega) (by omega) (by omega) (by omega) (by omega)).mono ?_
         rintro e w3 ⟨q, rfl, A3, b3⟩
         have H3 := Lib.hid (And.intro A3 (H2.out.2.trans (b3.mono H2.out.2.size)))
         clear A3 b3))
    go_loopw [9, 10] (fun v i wr => ∃ j : Nat, j ≤ k ∧ i = .int .i64 (j : Int) ∧ Hid (Below W.heap.size W wr ∧ wr.ownsRow W.heap.size 39 2 v j (flat Chg.cells (sqs j)) ∧ Lg W.heap.size (fun b => v.ownBlock = some b) wr q p 0 n 0 0 1 [] 0)) (fun _ i _ => k - (intOf i).toNat)
    case atStart => exact ⟨0, Nat.zero_le _, rfl, Lib.hid ⟨H3.out.2, World.ownsRow_nil _ _ _ _, H3.out.1.mono (fun b q => by simp [Value.ownBlock] at q)⟩⟩
    case round =>
      obtain ⟨j, hj, rfl, HH⟩ := hrel
      by_cases hlt : j < k
      · have hji : (j : Int) < (k : Int) := by omega
        have hsq := sq_le (k := j) (by omega)
        obtain ⟨sq0, sq1⟩ := hsq
        have HN := Lib.hid (sqs_next j)
        have hsz := HH.out.1.size
        go_wp2_with (refine wpList_append_lies _ rfl (.tmp 55) (.tmp 61) 27 rfl W.heap.size 39 i0 _ 2 16 Tryd.underlying27 HI.out.1 HI.out.2.1 HI.out.2.2.1 HI.out.2.2.2 ?ba1 ?ba2 u9 j (flat Chg.cells (sqs j)) rfl ?ba4 _ 1 1 [.int .i64 (j : Int), .int .i64 ((j : Int) * (j : Int))] rfl rfl ?ba7 ?ba8 ?ba9 ?bb1 ?bb2 ?bb3 _ rfl ?bb5
                     case ba1 => rfl
                     case ba2 => omega
                     case ba4 => exact (HH.out.2.1.alloc _)
                     case ba7 => exact World.news_of_block (heap_alloc_last _ _)
                     case ba8 => exact Chg.one ⟨(j : Int), (j : Int) * (j : Int)⟩
                     case ba9 => omega
                     case bb1 => unfold maxLen; omega
                     case bb2 => omega
                     case bb3 => simp; omega
                     intro g cap w4 hown4 hgr4 hat4 hlt4
                     have HX := Lib.hid (And.intro hown4 (And.intro hgr4 (And.intro hat4 hlt4)))
                     clear hown4 hgr4 hat4 hlt4)
        have hrow : ∀ b, u9.ownBlock = some b → W.heap.size ≤ b := fun b hb => (HH.out.2.1.lt b hb).1
        refine ⟨⟨j + 1, by omega, by go_num, Lib.hid ⟨(HH.out.1.alloc hsz _).grown HX.out.2.1 (by simp; omega) hrow, ?_, ?_⟩⟩, by simp [intOf]; omega⟩
        · rw [HN.out, flat_app, Bk.flat_one]
          exact HX.out.1
        · have A4 := (HH.out.2.2.below ((Below.refl _ _).alloc (Nat.le_refl _) (.cells #[.int .i64 (j : Int), .int .i64 ((j : Int) * (j : Int))] 39))).grow HX.out.2.1 (fun b hb => ⟨hb, hrow b hb⟩)
          refine A4.mono (fun b hb => ?_)
          obtain rfl : g = b := by simpa [Value.ownBlock] using hb
          rcases HX.out.2.2.1 with r | r
          · exact .inl r
          · exact .inr ⟨by rw [r]; exact Nat.le_refl _, HX.out.2.2.2⟩
      · obtain rfl : j = k := by omega
        have hn1 : ¬ (j : Int) < (j : Int) := by omega
        obtain ⟨a9, c9, rfl, l9, _⟩ := own_formK HH.out.2.1
        clear l9
        go_wp2
        go_loopw [11] (fun i wt => ∃ t : Nat, t ≤ m ∧ i = .int .i64 (t : Int) ∧ Hid (Below W.heap.size W wt ∧ wt.ownsRow W.heap.size 39 2 (.slice a9 j c9) j (flat Chg.cells (sqs j)) ∧ ∃ H K, H = t * (j + 1) ∧ K ≤ t * 40 ∧ Lg W.heap.size (fun b => (Value.slice a9 j c9).ownBlock = some b) wt q p 0 n H H (1 + (t : Int)) [] K)) (fun i _ => m - (intOf i).toNat)
        case atStart => exact ⟨0, Nat.zero_le _, rfl, Lib.hid ⟨HH.out.1, HH.out.2.1, 0, 0, by simp, Nat.le_refl _, HH.out.2.2⟩⟩
        case round =>
          obtain ⟨t, htm, rfl, HT2⟩ := hrel
          by_cases hlt2 : t < m
          · have hti : (t : Int) < (m : Int) := by omega
            obtain ⟨b2, o2, H, K, hH, hK, A2⟩ := HT2.out
            obtain ⟨p0, p1, p2, p3⟩ := pr_le (i := t) (k := j) (by omega) (by omega)
            rw [← hH] at p2 p3
            have hHb : H ≤ 4000 := by omega
            have hKb : K ≤ 2400 := by omega
            have HP := Lib.hid (And.intro p2 p3)
            have H0 := Lib.hid (And.intro b2 (And.intro o2 A2))
            have HKK := Lib.hid hK
            have hn30 : n ≤ 30 := by omega
            clear b2 o2 A2 p2 p3 hH hK HT2
            go_wp2_with (first
              | (go_at_call 12
                 refine (ar_app H0.out.2.2 hn30 (by omega) hHb (by omega) (by omega) (by omega) (row_liesK H0.out.2.1)).mono ?_
                 rintro e w5 ⟨rfl, A5, b5, g5⟩
                 have H5 := Lib.hid (And.intro (H0.out.1.trans b5) (And.intro (owns_keptG H0.out.2.1 g5) A5))
                 clear A5 b5 g5)
              | (go_at_call 14; first | (refine (ar_next H8.out.2.2.1 HP.out.1).mono ?_; rintro e w6 ⟨rfl, rfl⟩) | (refine (ar_next H5.out.2.2 HP.out.1).mono ?_; rintro e w6 ⟨rfl, rfl⟩))
              | (go_at_call 16
                 refine (ar_room H5.out.2.2 hn30 hHb (by omega) (by omega) (by omega)).mono ?_
                 rintro e w7 ⟨rfl, b7⟩
                 have H7 := Lib.hid (And.intro (H5.out.1.trans (b7.mono H5.out.1.size)) (And.intro (own_belowK H5.out.2.1 b7) (H5.out.2.2.below b7)))
                 clear b7)
              | (go_at_call 13; refine (lg_head H7.out.2.2).mono ?_; rintro e w8 ⟨rfl, rfl⟩)
              | (go_at_call 10
                 refine (ar_scan H7.out.2.2 hn30 hHb (by omega) (by omega) (by omega) HP.out.1).mono ?_
                 rintro e w9 ⟨ax, cx, rfl, b9, l9⟩
                 have H8 := Lib.hid (And.intro (H7.out.1.trans (b9.mono H7.out.1.size)) (And.intro (own_belowK H7.out.2.1 b9) (And.intro (H7.out.2.2.below b9) l9)))
                 clear b9 l9)
              | (go_at_call 15
                 refine (ar_same H8.out.2.2.2 (row_liesK H8.out.2.1) (by omega)).mono ?_
                 rintro e w10 ⟨rfl, b10⟩
                 have H9 := Lib.hid (And.intro (H8.out.1.trans (b10.mono H8.out.1.size)) (And.intro (own_belowK H8.out.2.1 b10) (H8.out.2.2.1.below b10)))
                 clear b10)
              | (go_at_call 11
                 refine (lg_cut H9.out.2.2 (2 + (t : Int)) (by omega) (by omega)).mono ?_
                 rintro e w11 ⟨rfl, A11, b11, g11⟩
                 have H10 := Lib.hid (And.intro (H9.out.1.trans b11) (And.intro (owns_keptG H9.out.2.1 g11) A11))
                 clear A11 b11 g11))
            refine ⟨⟨t + 1, by omega, by go_num, Lib.hid ⟨H10.out.1, H10.out.2.1, H + j + 1, K + j + 2, HP.out.2, by have := HKK.out; rw [Nat.add_mul]; omega, ?_⟩⟩, by simp [intOf]; omega⟩
            have := H10.out.2.2
            rwa [show 2 + (t : Int) = 1 + ((t + 1 : Nat) : Int) by omega] at this
          · obtain rfl : t = m := by omega
            have hn2 : ¬ (t : Int) < (t : Int) := by omega
            obtain ⟨b2, o2, H, K, hH, hK, A2⟩ := HT2.out
            have hpr := pr_le (i := t) (k := j) (by omega) (by omega)
            have hHb : H ≤ 4000 := by omega
            have hR : Hid (∀ u, Lg W.heap.size (fun b => (Value.slice a9 j c9).ownBlock = some b) u q p 0 n H H (1 + (t : Int)) [] K → Calls Tryd.prog 16 #[.pointer (some ⟨q, 0, none⟩)] u fun e w' => e = .returned (.int .i64 (n : Int)) ∧ Below u.heap.size u w') := Lib.hid (fun u hu => (lg_room hu (ar_lim (by omega) hHb (by omega) (by omega) (by omega))).mono fun e w' ⟨he, hb⟩ => ⟨by rw [he]; congr 2; omega, hb⟩)
            have H0 := Lib.hid (And.intro b2 A2)
            clear b2 o2 A2 hpr
            go_wp2_with (go_at_call 16; refine (hR.out _ H0.out.2).mono ?_; rintro e w7 ⟨rfl, b7⟩)
            go_ret
            exact ⟨rfl, H0.out.1.trans (b7.mono H0.out.1.size)⟩
end Go.Proofs.YtjfccpajcdpahaaDoor
