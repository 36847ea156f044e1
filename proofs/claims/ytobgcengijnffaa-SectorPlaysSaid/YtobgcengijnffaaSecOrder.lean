/- SectorOrder answers true: for all texts and all that is kept. -/
import Derived.Test.YtobgcengijnffaaSecAlive
namespace Go.Proofs.Ytobgcengijnffaa
open Go.RowKit

/-- A slice of texts, or of numbers, in memory. -/
def StrsAt (w : World) (a : Option Addr) (l : List ByteArray) : Prop := ∀ j s, l[j]? = some s → ∃ b : Addr, a = some b ∧ b.block < w.heap.size ∧ w.cell? (b.add j) = some (.string s)
def IntsAt (w : World) (a : Option Addr) (l : List Int) : Prop := ∀ j z, l[j]? = some z → ∃ b : Addr, a = some b ∧ b.block < w.heap.size ∧ w.cell? (b.add j) = some (.int .i64 z)
theorem add_block (a : Addr) (n : Nat) : (a.add n).block = a.block := by unfold Addr.add; split <;> rfl
theorem StrsAt.below {w w' : World} {a : Option Addr} {l : List ByteArray} (h : StrsAt w a l) (hb : Below w.heap.size w w') : StrsAt w' a l := fun j s hs => by
  obtain ⟨b, hb1, hb2, hb3⟩ := h j s hs
  exact ⟨b, hb1, Nat.lt_of_lt_of_le hb2 hb.size, by rw [hb.cell (by rw [add_block]; exact hb2)]; exact hb3⟩
theorem IntsAt.below {w w' : World} {a : Option Addr} {l : List Int} (h : IntsAt w a l) (hb : Below w.heap.size w w') : IntsAt w' a l := fun j s hs => by
  obtain ⟨b, hb1, hb2, hb3⟩ := h j s hs
  exact ⟨b, hb1, Nat.lt_of_lt_of_le hb2 hb.size, by rw [hb.cell (by rw [add_block]; exact hb2)]; exact hb3⟩

/-- The disk behind k writes of sector 1. -/
def ordD (l : List ByteArray) : Nat → Dsk
  | 0 => newD 2
  | k + 1 => ((ordD l k).push 1 (pad32 (l.getD k ByteArray.empty))).down.deed
/-- What is wanted behind k writes. -/
def ordW (l : List ByteArray) (kl : List Int) : Nat → ByteArray
  | 0 => pad32 ⟨#[]⟩
  | k + 1 => if odd (kl.getD k 0) then pad32 (l.getD k ByteArray.empty) else ordW l kl k

theorem down_unlit {D : Dsk} (h : D.lit = false) : D.down = D := by unfold Dsk.down; rw [if_neg (by rw [h]; simp)]
theorem ord_facts (l : List ByteArray) : ∀ k, (ordD l k).on = true ∧ (ordD l k).lasts = [zero32, zero32] ∧ (ordD l k).now.length = 2 ∧ (ordD l k).waits = (List.range k).map (fun i => (1, pad32 (l.getD i ByteArray.empty))) ∧ (ordD l k).deeds = k ∧ (ordD l k).lit = false
  | 0 => ⟨rfl, rfl, rfl, rfl, rfl, rfl⟩
  | k + 1 => by
    obtain ⟨h1, h2, h3, h4, h5, h6⟩ := ord_facts l k
    have e : ordD l (k + 1) = ((ordD l k).push 1 (pad32 (l.getD k ByteArray.empty))).deed := by
      show ((ordD l k).push 1 _).down.deed = _
      rw [down_unlit (show ((ordD l k).push 1 _).lit = false from h6)]
    rw [e]
    refine ⟨h1, h2, by simpa [Dsk.push, Dsk.deed] using h3, ?_, by simp [Dsk.push, Dsk.deed, h5], h6⟩
    simp [Dsk.push, Dsk.deed, h4, List.range_succ]
theorem ord_now (l : List ByteArray) (k : Nat) : (ordD l (k + 1)).now[1]? = some (pad32 (l.getD k ByteArray.empty)) := by
  have e : ordD l (k + 1) = ((ordD l k).push 1 (pad32 (l.getD k ByteArray.empty))).deed := by
    show ((ordD l k).push 1 _).down.deed = _
    rw [down_unlit (show ((ordD l k).push 1 _).lit = false from (ord_facts l k).2.2.2.2.2)]
  rw [e]
  have := (ord_facts l k).2.2.1
  simp [Dsk.push, Dsk.deed, this]
theorem ord_crash (l : List ByteArray) (kl : List Int) (n : Nat) : ∀ k, k ≤ n → ((ordD l n).crashL kl k)[1]? = some (ordW l kl k) ∧ ((ordD l n).crashL kl k).length = 2
  | 0, _ => by
    refine ⟨?_, ?_⟩
    · show (ordD l n).lasts[1]? = _
      rw [(ord_facts l n).2.1]
      show some zero32 = some (pad32 ⟨#[]⟩)
      rw [show pad32 ⟨#[]⟩ = zero32 by kernel_rfl]
    · show (ordD l n).lasts.length = 2
      rw [(ord_facts l n).2.1]; rfl
  | k + 1, h => by
    obtain ⟨h1, h2⟩ := ord_crash l kl n k (by omega)
    have hx : (ordD l n).waits[k]? = some (1, pad32 (l.getD k ByteArray.empty)) := by
      rw [(ord_facts l n).2.2.2.1]
      simp [show k < n by omega]
    cases ho : odd (kl.getD k 0)
    · rw [crashL_even hx ho]
      refine ⟨?_, h2⟩
      rw [h1, ordW, if_neg (by rw [ho]; simp)]
    · rw [crashL_odd hx ho]
      refine ⟨?_, by simp [h2]⟩
      rw [ordW, if_pos ho]
      simp [h2]

set_option maxHeartbeats 1000000 in
/-- Where there is too much. -/
theorem Order_much (n0 n1 : Nat) (a0 a1 : Option Addr) (c0 c1 : Nat) (w : World) (h : 30 < n0 ∨ 40 < n1) (m0 : n0 ≤ maxLen) (m1 : n1 ≤ maxLen) :
    Calls Try.prog 7 #[.slice a0 n0 c0, .slice a1 n1 c1] w fun e w' => e = .returned (.bool true) ∧ Below w.heap.size w w' := by
  unfold maxLen at m0 m1
  by_cases h0 : 30 < n0
  · have h0' : (30 : Int) < (n0 : Int) := by omega
    clear h
    go_enter Try.func7, Try.ntmps7
    go_wp2_with (go_at_call 8; refine (alive_is _).mono ?_; rintro e w1 ⟨rfl, b1⟩)
    go_ret
    exact ⟨rfl, b1⟩
  · have h1 : 40 < n1 := by omega
    have h0' : ¬ (30 : Int) < (n0 : Int) := by omega
    have h1' : (40 : Int) < (n1 : Int) := by omega
    clear h
    go_enter Try.func7, Try.ntmps7
    go_wp2_with (go_at_call 8; refine (alive_is _).mono ?_; rintro e w1 ⟨rfl, b1⟩)
    go_ret
    exact ⟨rfl, b1⟩

set_option maxHeartbeats 1000000 in
theorem Order_walk (l : List ByteArray) (kl : List Int) (a0 a1 : Option Addr) (c0 c1 : Nat) (w : World) (h0 : StrsAt w a0 l) (h1 : IntsAt w a1 kl) (hs : ∀ s ∈ l, s.size ≤ maxLen) (hl : l.length ≤ 30) (hk : kl.length ≤ 40) :
    Calls Try.prog 7 #[.slice a0 l.length c0, .slice a1 kl.length c1] w fun e w' => e = .returned (.bool true) ∧ Below w.heap.size w w' := by
  have HA := Lib.hid (And.intro h0 (And.intro h1 hs))
  have hl' : decide ((30 : Int) < (l.length : Int)) = false := decide_eq_false (by omega)
  have hk' : decide ((40 : Int) < (kl.length : Int)) = false := decide_eq_false (by omega)
  clear h0 h1 hs
  go_enter Try.func7, Try.ntmps7
  go_wp2_with (first
    | (go_at_call 8; refine (alive_is _).mono ?_; rintro e w1 ⟨rfl, b1⟩)
    | (go_at_call 9; refine (New_at 2 w.heap.size _ b1.size).mono ?_; rintro e w2 ⟨p, rfl, h2, b2⟩; have A2 : At w.heap.size w2 p (ordD l 0) := h2; have B2 := b1.trans b2; clear h2 b1 b2)
    | (go_at_call 12; refine (Full_is _ (by decide) _).mono ?_; rintro e w' ⟨rfl, rfl⟩))
  go_loopw [6, 7] (fun v i wr => ∃ k : Nat, k ≤ l.length ∧ i = .int .i64 (k : Int) ∧ v = .string (ordW l kl k) ∧ At w.heap.size wr p (ordD l k) ∧ Below w.heap.size w wr) (fun _ i _ => l.length - (intOf i).toNat)
  case atStart => exact ⟨0, Nat.zero_le _, rfl, rfl, A2, B2⟩
  case round =>
    obtain ⟨k, hkn, rfl, rfl, A, B⟩ := hrel
    clear A2 B2
    by_cases hlt : k < l.length
    · have hx : l[k]? = some l[k] := List.getElem?_eq_getElem hlt
      obtain ⟨b, rfl, hbl, hcell⟩ := (HA.out.1.below B) k _ hx
      have hgd : l.getD k ByteArray.empty = l[k] := by simp [List.getD, hx]
      have hsz := HA.out.2.2 _ (List.getElem_mem hlt)
      have f := ord_facts l k
      have hm : (ordD l k).mayW 1 (pad32 (l.getD k ByteArray.empty)) = 0 := by
        unfold Dsk.mayW Dsk.has
        rw [if_pos f.1, f.2.1, pad32_size]; rfl
      have hfn : (ordD l k).fallsNow = false := by unfold Dsk.fallsNow; rw [f.2.2.2.2.2]; rfl
      have hwn : (ordD l k).waits.length + 1 < 2 ^ 40 := by rw [f.2.2.2.1]; simp; omega
      have hdn : (ordD l k).deeds + 1 < 2 ^ 60 := by rw [f.2.2.2.2.1]; omega
      have f' := ord_facts l (k + 1)
      have hr : (ordD l (k + 1)).mayR 1 = 0 := by
        unfold Dsk.mayR Dsk.has
        rw [if_pos f'.1, f'.2.1]; rfl
      have hat : (ordD l (k + 1)).at_ 1 = pad32 (l.getD k ByteArray.empty) := by
        show (ordD l (k + 1)).now.getD 1 ByteArray.empty = _
        rw [List.getD, ord_now]; rfl
      rw [hgd] at hm hat
      have HX2 := Lib.hid hx
      have HX := Lib.hid (And.intro hm (And.intro hfn (And.intro hwn (And.intro hdn (And.intro hr (And.intro hat (And.intro hgd hsz)))))))
      have HB := Lib.hid (And.intro A B)
      clear hm hfn hwn hdn hr hat hgd hsz f f' hx A B
      generalize l[k] = s at *
      have HC0 : ∀ w4 : World, Below w.heap.size w w4 → w4.cell? (b.add k) = some (.string s) := fun w4 B4 => by
        obtain ⟨b', hb1, hb2, hb3⟩ := HA.out.1 k _ HX2.out
        obtain rfl : b = b' := by simpa using hb1
        rw [B4.cell (by rw [add_block]; exact hb2)]; exact hb3
      by_cases hkk : k < kl.length
      · obtain ⟨c, rfl, hc2, hc3⟩ := HA.out.2.1 k _ (List.getElem?_eq_getElem hkk)
        have hkg : odd (kl.getD k 0) = odd kl[k] := by simp [List.getD, hkk]
        generalize kl[k] = z at *
        have HZ := Lib.hid hkg
        have HC1 : ∀ w4 : World, Below w.heap.size w w4 → w4.cell? (c.add k) = some (.int .i64 z) := fun w4 B4 => by
          rw [B4.cell (by rw [add_block]; exact hc2)]; exact hc3
        have HC : ∀ w4 : World, Below w.heap.size w w4 → w4.cell? (b.add k) = some (.string s) ∧ w4.cell? (c.add k) = some (.int .i64 z) := fun w4 B4 => ⟨HC0 w4 B4, HC1 w4 B4⟩
        have hcr := HC0 _ HB.out.2
        clear HC0 HC1 hkg hc3
        cases ho : odd z
        · have hbit : (bits .and .i64 z 1 == 1) = false := by rw [i64_and1]; exact ho
          have HE := Lib.hid (show ¬ odd (kl.getD k 0) = true by rw [HZ.out, ho]; simp)
          clear ho
          go_wp2_with (first
          | (go_at_call 12; refine (Full_is _ HX.out.2.2.2.2.2.2.2 _).mono ?_; rintro e w' ⟨rfl, rfl⟩)
          | (go_at_call 13; refine (Write_at 1 (pad32 s) (pad32_size _) _ HB.out.1 HX.out.1 HX.out.2.1 HX.out.2.2.1 HX.out.2.2.2.1).mono ?_; rintro e w4 ⟨rfl, h4, b4⟩
             have A4 : At w.heap.size w4 p (ordD l (k + 1)) := by rw [show ordD l (k + 1) = ((ordD l k).push 1 (pad32 s)).down.deed by rw [← HX.out.2.2.2.2.2.2.1]; rfl]; exact h4
             have B4 := HB.out.2.trans b4
             have cs4 := HC w4 B4
             clear h4 b4)
          | (go_at_call 26; refine (Read_at 1 _ A4).mono ?_; rintro e w' ⟨rfl, rfl⟩; rw [if_pos HX.out.2.2.2.2.1, HX.out.2.2.2.2.1, HX.out.2.2.2.2.2.1]))
          refine ⟨⟨k + 1, by omega, by go_num, ?_, A4, B4⟩, by simp [intOf]; omega⟩
          rw [ordW, if_neg HE.out]
        · have hbit : (bits .and .i64 z 1 == 1) = true := by rw [i64_and1]; exact ho
          have HE := Lib.hid (show odd (kl.getD k 0) = true by rw [HZ.out, ho])
          clear ho
          go_wp2_with (first
          | (go_at_call 12; refine (Full_is _ HX.out.2.2.2.2.2.2.2 _).mono ?_; rintro e w' ⟨rfl, rfl⟩)
          | (go_at_call 13; refine (Write_at 1 (pad32 s) (pad32_size _) _ HB.out.1 HX.out.1 HX.out.2.1 HX.out.2.2.1 HX.out.2.2.2.1).mono ?_; rintro e w4 ⟨rfl, h4, b4⟩
             have A4 : At w.heap.size w4 p (ordD l (k + 1)) := by rw [show ordD l (k + 1) = ((ordD l k).push 1 (pad32 s)).down.deed by rw [← HX.out.2.2.2.2.2.2.1]; rfl]; exact h4
             have B4 := HB.out.2.trans b4
             have cs4 := HC w4 B4
             clear h4 b4)
          | (go_at_call 26; refine (Read_at 1 _ A4).mono ?_; rintro e w' ⟨rfl, rfl⟩; rw [if_pos HX.out.2.2.2.2.1, HX.out.2.2.2.2.1, HX.out.2.2.2.2.2.1]))
          refine ⟨⟨k + 1, by omega, by go_num, ?_, A4, B4⟩, by simp [intOf]; omega⟩
          rw [ordW, if_pos HE.out, HX.out.2.2.2.2.2.2.1]
      · have HE := Lib.hid (show ¬ odd (kl.getD k 0) = true by simp [List.getD, List.getElem?_eq_none (show kl.length ≤ k by omega), odd])
        have HC := HC0
        have hcr := HC0 _ HB.out.2
        clear HC0
        go_wp2_with (first
          | (go_at_call 12; refine (Full_is _ HX.out.2.2.2.2.2.2.2 _).mono ?_; rintro e w' ⟨rfl, rfl⟩)
          | (go_at_call 13; refine (Write_at 1 (pad32 s) (pad32_size _) _ HB.out.1 HX.out.1 HX.out.2.1 HX.out.2.2.1 HX.out.2.2.2.1).mono ?_; rintro e w4 ⟨rfl, h4, b4⟩
             have A4 : At w.heap.size w4 p (ordD l (k + 1)) := by rw [show ordD l (k + 1) = ((ordD l k).push 1 (pad32 s)).down.deed by rw [← HX.out.2.2.2.2.2.2.1]; rfl]; exact h4
             have B4 := HB.out.2.trans b4
             have cs4 := HC w4 B4
             clear h4 b4)
          | (go_at_call 26; refine (Read_at 1 _ A4).mono ?_; rintro e w' ⟨rfl, rfl⟩; rw [if_pos HX.out.2.2.2.2.1, HX.out.2.2.2.2.1, HX.out.2.2.2.2.2.1]))
        refine ⟨⟨k + 1, by omega, by go_num, ?_, A4, B4⟩, by simp [intOf]; omega⟩
        rw [ordW, if_neg HE.out]
    · obtain rfl : k = l.length := by omega
      have hn : ¬ (l.length : Int) < (l.length : Int) := by omega
      have f := ord_facts l l.length
      have hcr := ord_crash l kl l.length l.length (Nat.le_refl _)
      have hwl : (ordD l l.length).waits.length = l.length := by rw [f.2.2.2.1]; simp
      have hr : ({ (ordD l l.length).crash kl with on := true } : Dsk).mayR 1 = 0 := by
        unfold Dsk.mayR Dsk.has
        rw [if_pos rfl]
        show (if decide (0 ≤ (1 : Int) ∧ (1 : Int) < (((ordD l l.length).crashL kl (ordD l l.length).waits.length).length : Int)) = true then (0 : Int) else 1) = 0
        rw [hwl, hcr.2]; rfl
      have hat : ({ (ordD l l.length).crash kl with on := true } : Dsk).at_ 1 = ordW l kl l.length := by
        show ((ordD l l.length).crashL kl (ordD l l.length).waits.length).getD 1 ByteArray.empty = _
        rw [hwl, List.getD, hcr.1]; rfl
      have HF := Lib.hid (And.intro f.1 (And.intro hr hat))
      have HG := Lib.hid (And.intro A B)
      clear A B hkn hlt f hcr hwl hr hat
      go_wp2_with (first
        | (go_at_call 17; refine (Crash_at _ a1 kl c1 HG.out.1 (fun j z hz => by obtain ⟨b, q1, _, q3⟩ := (HA.out.2.1.below HG.out.2) j z hz; exact ⟨b, q1, q3⟩) (fun a q0 qa => by obtain ⟨b, q1, q2, _⟩ := HA.out.2.1 0 _ (List.getElem?_eq_getElem q0); rw [qa] at q1; simp at q1; rw [q1]; exact q2) (by omega) HF.out.1).mono ?_; rintro e w5 ⟨rfl, A5, b5⟩; have B5 := HG.out.2.trans b5; clear b5)
        | (go_at_call 19; refine (Power_at _ A5).mono ?_; rintro e w6 ⟨rfl, A6, b6⟩; have B6 := B5.trans b6; clear b6 A5 B5)
        | (go_at_call 26; refine (Read_at 1 _ A6).mono ?_; rintro e w' ⟨rfl, rfl⟩; rw [if_pos HF.out.2.1, HF.out.2.1, HF.out.2.2]))
      go_ret
      exact ⟨rfl, B6⟩
end Go.Proofs.Ytobgcengijnffaa
