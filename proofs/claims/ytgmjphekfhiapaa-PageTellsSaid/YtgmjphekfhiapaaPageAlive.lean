/- The law's helpers: Sixteen, alive. -/
import Derived.Test.YtgmjphekfhiapaaPagePaged
namespace Go.Proofs.Ytgmjphekfhiapaa
open Go.RowKit
open Go.Proofs.Ytgmjphekfhiapaa.Bk

theorem own_somec {w : World} {base : Nat} {e : TypeId} {v : Value} {n : Nat} {xs : List Value} (h : w.ownsRow base e 1 v n xs) (hn : 0 < n) : ∃ (g c : Nat), v = .slice (some ⟨g, 0, none⟩) n c ∧ n ≤ c ∧ LiesAt w (some ⟨g, 0, none⟩) xs := by
  obtain ⟨g, c, rfl, hl⟩ := own_some h hn
  exact ⟨g, c, rfl, owns_cap h, hl⟩
theorem pat3 (no v : Int) (g o : Nat) (l : List ByteArray) (c : Nat) (w : World) (h : RowAt w g o l) (h3 : l.length = 3) (hc : 3 ≤ c) :
    Calls Try.prog 15 #[.int .i64 no, .int .i64 v, .slice (some ⟨g, o, none⟩) 3 c] w fun e w' => ∃ x, e = .returned (.tuple #[x, .bool (atIs no v l)]) ∧ Below w.heap.size w w' ∧ w'.ownsRow w.heap.size 3 1 x (atC no v l).length (vals (atC no v l)) := by
  have := pat_is no v (some ⟨g, o, none⟩) l c w h (by rw [h3]; unfold maxLen; omega) (fun _ => ⟨hc, g, o, rfl⟩)
  rwa [h3] at this
theorem pget3 (g o : Nat) (l : List ByteArray) (c : Nat) (w : World) (h : RowAt w g o l) (h3 : l.length = 3) (hc : 3 ≤ c) :
    Calls Try.prog 12 #[.slice (some ⟨g, o, none⟩) 3 c] w fun e w' => ∃ x, e = .returned (.tuple #[.int .i64 (getN l), .int .i64 (getV l), x, .bool (pgIs l)]) ∧ Below w.heap.size w w' ∧ w'.ownsRow w.heap.size 3 1 x (getC l).length (vals (getC l)) := by
  have := pget_is (some ⟨g, o, none⟩) l c w h (by rw [h3]; unfold maxLen; omega) (fun _ => ⟨hc, g, o, rfl⟩)
  rwa [h3] at this
theorem rpaged3 (g o : Nat) (l : List ByteArray) (c : Nat) (w : World) (h : RowAt w g o l) (h3 : l.length = 3) (hc : 3 ≤ c) :
    Calls Try.prog 13 #[.slice (some ⟨g, o, none⟩) 3 c] w fun e w' => ∃ x, e = .returned (.tuple #[.int .i64 (getN l), .int .i64 (getV l), x, .bool (pgIs l)]) ∧ Below w.heap.size w w' ∧ w'.ownsRow w.heap.size 3 1 x (getC l).length (vals (getC l)) := by
  have := rpaged_is (some ⟨g, o, none⟩) l c w h (fun _ => ⟨hc, g, o, rfl⟩)
  rwa [h3] at this

/-- Sixteen numbers: these, zeros behind them. -/
def padL (l : List Int) : List Int := (List.range 16).map fun i => l.getD i 0
theorem padL_len (l : List Int) : (padL l).length = 16 := by simp [padL]
theorem pad_at (l : List Int) (k : Nat) (h : k < 16) (hk : k < l.length) : (vals (padL l)).getD k (.int .i64 0) = .int .i64 l[k] := by
  simp [vals, padL, h, hk]
theorem pad_end (l : List Int) (k : Nat) (h : l.length ≤ k) : rowK (vals (padL l)) (.int .i64 0) k = (vals (padL l)).toArray := by
  apply Array.ext
  · simp [rowK]
  · intro i h1 h2
    have hi : i < 16 := by simpa [rowK, vals, padL] using h1
    by_cases hk : i < k
    · simp [rowK, vals, padL, hi, hk]
    · have : l[i]? = none := List.getElem?_eq_none (by omega)
      simp [rowK, vals, padL, hk, this]

set_option maxRecDepth 100000 in
set_option maxHeartbeats 400000 in
theorem sixteen_is (a : Option Addr) (l : List Int) (c : Nat) (w : World) (h : LiesAt w a (vals l)) :
    Calls Try.prog 5 #[.slice a l.length c] w fun e w' => ∃ v, e = .returned v ∧ Below w.heap.size w w' ∧ w'.ownsRow w.heap.size 3 1 v 16 (vals (padL l)) := by
  have hmk := mkInts16 w
  have hvl : (vals (padL l)).length = 16 := by rw [vals_len, padL_len]
  rw [rowK_zero (vals (padL l)) _ 16 hvl] at hmk
  have HE := Lib.hid (owns_laid w w.heap.size 3 (vals (padL l)) 16 hvl (Nat.le_refl _) (by unfold maxLen; omega))
  have H := Lib.hid (fun k => (h.below ((Below.refl w.heap.size w).alloc (Nat.le_refl _) (.cells (rowK (vals (padL l)) (.int .i64 0) k) 3))))
  clear h
  go_enter Try.func5, Try.ntmps5
  go_wp2
  go_loopw [4] (fun i wr => ∃ k : Nat, k ≤ 16 ∧ k ≤ l.length ∧ i = .int .i64 (k : Int) ∧ wr = w.alloc (.cells (rowK (vals (padL l)) (.int .i64 0) k) 3)) (fun i _ => 16 - (intOf i).toNat)
  case atStart => exact ⟨0, Nat.zero_le _, Nat.zero_le _, rfl, rfl⟩
  case round =>
    obtain ⟨k, hk, hkl, rfl, rfl⟩ := hrel
    by_cases hlt : k < l.length
    · have hi1 : (k : Int) < (l.length : Int) := by omega
      by_cases h16 : k < 16
      · have hi2 : (k : Int) < 16 := by omega
        have hck := rowK_at (vals (padL l)) (.int .i64 0) k (by omega)
        have HV := Lib.hid (rowK_next (vals (padL l)) (.int .i64 0) k (by omega))
        rw [pad_at l k h16 hlt] at HV
        obtain ⟨b1, rfl, _, e1⟩ := (H.out k).at_ (k := k) (val_at hlt)
        generalize l[k] = x at *
        clear hmk hvl
        go_wp2
        exact ⟨⟨k + 1, by omega, by omega, by go_num, by rw [HV.out, Array.set!_eq_setIfInBounds]⟩, by simp [intOf]; omega⟩
      · obtain rfl : k = 16 := by omega
        clear hmk
        rw [← rowK_end (vals (padL l)) (.int .i64 0) 16 hvl] at HE
        go_wp2
        all_goals
          go_ret
          exact ⟨_, rfl, (Below.refl _ _).alloc (Nat.le_refl _) _, HE.out⟩
    · obtain rfl : k = l.length := by omega
      have hn : ¬ (l.length : Int) < (l.length : Int) := by omega
      rw [← pad_end l l.length (Nat.le_refl _)] at HE
      clear hlt hk hkl hmk
      go_wp2
      all_goals
        go_ret
        exact ⟨_, rfl, (Below.refl _ _).alloc (Nat.le_refl _) _, HE.out⟩

def aliveC : List Int := [0, 0, 0, 7, 0, 0, 0, 0, 0, 0, 0, 0, 0, 0, 0, 0]
theorem alive_ok : pgOk 3 4 aliveC = true := by decide
theorem alive_at : atIs 3 4 (pgL 3 4 aliveC) = true ∧ atC 3 4 (pgL 3 4 aliveC) = aliveC ∧ atIs 3 5 (pgL 3 4 aliveC) = false := by
  obtain ⟨h1, h2, h3, h4⟩ := get_put alive_ok
  obtain ⟨a1, a2⟩ := at_yes ⟨h1, h2, h3⟩
  exact ⟨a1, a2.trans h4, (at_no (fun q => by rw [h3] at q; exact absurd q.2.2 (by decide))).1⟩
theorem alive_len : (pgL 3 4 aliveC).length = 3 := by rw [pgL_yes alive_ok]; rfl
theorem alive_row (w : World) : LiesAt (w.alloc (.cells ((Array.replicate 16 (.int .i64 0)).setIfInBounds 3 (.int .i64 7)) 3)) (some ⟨w.heap.size, 0, none⟩) (vals aliveC) := fun j u hu => by
  refine ⟨_, rfl, by simp, ?_⟩
  have e : (Array.replicate 16 (Value.int .i64 0)).setIfInBounds 3 (.int .i64 7) = (vals aliveC).toArray := by
    apply Array.ext'
    rw [Array.toList_setIfInBounds, Array.toList_replicate]
    rfl
  rw [Addr.add_mid, Nat.zero_add, World.cell?_alloc_new, ← hu, e]
  simp
set_option maxRecDepth 100000 in
set_option maxHeartbeats 1000000 in
theorem alive_is (w : World) : Calls Try.prog 4 #[] w fun e w' => e = .returned (.bool true) ∧ Below w.heap.size w w' := by
  have hmk := mkInts16 w
  have HR := Lib.hid (And.intro (alive_row w) ((Below.refl w.heap.size w).alloc (Nat.le_refl _) (.cells ((Array.replicate 16 (.int .i64 0)).setIfInBounds 3 (.int .i64 7)) 3)))
  have HP := Lib.hid (fun u (q : LiesAt u (some ⟨w.heap.size, 0, none⟩) (vals aliveC)) => pput_is 3 4 (some ⟨w.heap.size, 0, none⟩) aliveC 16 u q (by show 16 ≤ _; unfold maxLen; omega))
  rw [alive_ok, show aliveC.length = 16 from rfl, alive_len] at HP
  obtain ⟨a1, a2, a3⟩ := alive_at
  have HA := Lib.hid (fun (g c : Nat) u (q : RowAt u g 0 (pgL 3 4 aliveC)) (hc : 3 ≤ c) => pat3 3 4 g 0 _ c u q alive_len hc)
  have HB := Lib.hid (fun (g c : Nat) u (q : RowAt u g 0 (pgL 3 4 aliveC)) (hc : 3 ≤ c) => pat3 3 5 g 0 _ c u q alive_len hc)
  rw [a1, a2, show aliveC.length = 16 from rfl] at HA
  rw [a3] at HB
  clear a1 a2 a3
  generalize atC 3 5 (pgL 3 4 aliveC) = ac at *
  generalize pgL 3 4 aliveC = L at *
  have hc0 : (Array.replicate 16 (Value.int .i64 0))[3]? = some (.int .i64 0) := by simp
  have H7 := Lib.hid (show (vals aliveC)[3]? = some (.int .i64 7) from rfl)
  generalize hr : Array.replicate 16 (Value.int .i64 0) = r at *
  generalize aliveC = C at *
  have HZ := Lib.hid (show r.size = 16 by rw [← hr]; simp)
  clear hr
  go_enter Try.func4, Try.ntmps4
  go_wp2_with (first
    | (go_at_call 7
       refine (HP.out _ HR.out.1).mono ?_
       rintro e w1 ⟨x, rfl, b1, o1⟩
       obtain ⟨g1, c1, rfl, hc, l1⟩ := own_somec o1 (show 0 < 3 by omega)
       replace HR := Lib.hid (And.intro (below_next HR.out.2 b1) (And.intro hc (show RowAt _ g1 0 L from l1)))
       clear b1 o1 hc l1)
    | (go_at_call 15
       with_reducible refine (HA.out _ _ _ HR.out.2.2 HR.out.2.1).mono ?_
       rintro e w1 ⟨x, rfl, b1, o1⟩
       obtain ⟨g2, c2, rfl, l2⟩ := own_some o1 (show 0 < 16 by omega)
       replace HR := Lib.hid (And.intro (below_next HR.out.1 b1) (And.intro HR.out.2.1 (show RowAt _ g1 0 L from LiesAt.below HR.out.2.2 b1)))
       have HX := Lib.hid l2
       clear b1 o1 l2)
    | (go_at_call 15
       with_reducible refine (HB.out _ _ _ HR.out.2.2 HR.out.2.1).mono ?_
       rintro e w1 ⟨x, rfl, b1, _⟩
       obtain ⟨q, hq, _, r3⟩ := (HX.out.below b1).at_ H7.out
       obtain rfl : (⟨g2, 0, none⟩ : Addr) = q := by simpa using hq
       rw [Addr.add_mid, Nat.zero_add] at r3
       replace HR := Lib.hid (below_next HR.out.1 b1)
       clear b1 hq))
  all_goals
    go_ret
    exact ⟨rfl, HR.out⟩
end Go.Proofs.Ytgmjphekfhiapaa
