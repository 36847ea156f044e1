/- SectorLasts answers true: for all texts and all that is kept. -/
import Derived.Test.YtaammeciepemjaaSecOrder
namespace Go.Proofs.Ytaammeciepemjaa
open Go.RowKit

/-- The disk behind k writes, the i-th of sector i. -/
def seqP (D : Dsk) (l : List ByteArray) : Nat → Dsk
  | 0 => D
  | k + 1 => ((seqP D l k).push k (pad32 (l.getD k ByteArray.empty))).down.deed
theorem seq_facts {D : Dsk} (l : List ByteArray) (h1 : D.on = true) (h2 : D.lit = false) (h3 : D.waits = []) : ∀ k, (seqP D l k).on = true ∧ (seqP D l k).lit = false ∧ (seqP D l k).lasts = D.lasts ∧ (seqP D l k).now.length = D.now.length ∧
    (seqP D l k).waits = (List.range k).map (fun i => (i, pad32 (l.getD i ByteArray.empty))) ∧ (seqP D l k).deeds = D.deeds + k
  | 0 => ⟨h1, h2, rfl, rfl, h3, rfl⟩
  | k + 1 => by
    obtain ⟨q1, q2, q3, q4, q5, q6⟩ := seq_facts l h1 h2 h3 k
    have e : seqP D l (k + 1) = ((seqP D l k).push k (pad32 (l.getD k ByteArray.empty))).deed := by
      show ((seqP D l k).push k _).down.deed = _
      rw [down_unlit (show ((seqP D l k).push k _).lit = false from q2)]
    rw [e]
    refine ⟨q1, q2, q3, by simpa [Dsk.push, Dsk.deed] using q4, by simp [Dsk.push, Dsk.deed, q5, List.range_succ], by simp [Dsk.push, Dsk.deed, q6]; omega⟩
theorem seq_bar {E : Dsk} {l : List ByteArray} {n : Nat} (hw : E.waits = (List.range n).map (fun i => (i, pad32 (l.getD i ByteArray.empty)))) (i : Nat) (hi : i < E.lasts.length) : ∀ k, k ≤ n →
    (E.barL k)[i]? = some (if i < k then pad32 (l.getD i ByteArray.empty) else E.lasts.getD i ByteArray.empty)
  | 0, _ => by
    show E.lasts[i]? = _
    rw [if_neg (by omega), List.getElem?_eq_getElem hi]
    simp [List.getD, hi]
  | k + 1, h => by
    have ih := seq_bar hw i hi k (by omega)
    have hx : E.waits[k]? = some (k, pad32 (l.getD k ByteArray.empty)) := by
      rw [hw]; simp [show k < n by omega]
    rw [barL_step hx, List.getElem?_set]
    have hl := barL_len E k
    by_cases e : k = i
    · subst e
      rw [if_pos rfl, if_pos (by rw [hl]; exact hi), if_pos (by omega)]
    · rw [if_neg e, ih]
      congr 1
      by_cases q : i < k
      · rw [if_pos q, if_pos (by omega)]
      · rw [if_neg q, if_neg (by omega)]
theorem seq_crash {E : Dsk} {l : List ByteArray} {kl : List Int} {n : Nat} (hw : E.waits = (List.range n).map (fun i => (i, pad32 (l.getD i ByteArray.empty)))) (i : Nat) (hi : i < E.lasts.length) : ∀ k, k ≤ n →
    (E.crashL kl k)[i]? = some (if i < k ∧ odd (kl.getD i 0) = true then pad32 (l.getD i ByteArray.empty) else E.lasts.getD i ByteArray.empty)
  | 0, _ => by
    show E.lasts[i]? = _
    rw [if_neg (by omega), List.getElem?_eq_getElem hi]
    simp [List.getD, hi]
  | k + 1, h => by
    have ih := seq_crash (kl := kl) hw i hi k (by omega)
    have hx : E.waits[k]? = some (k, pad32 (l.getD k ByteArray.empty)) := by
      rw [hw]; simp [show k < n by omega]
    have hl := crashL_len E kl k
    cases ho : odd (kl.getD k 0)
    · rw [crashL_even hx ho, ih]
      congr 1
      by_cases e : k = i
      · subst e
        rw [if_neg (by omega), if_neg (by rw [ho]; simp)]
      · by_cases q : i < k
        · by_cases r : odd (kl.getD i 0) = true
          · rw [if_pos ⟨q, r⟩, if_pos ⟨by omega, r⟩]
          · rw [if_neg (fun h => r h.2), if_neg (fun h => r h.2)]
        · rw [if_neg (by omega), if_neg (by omega)]
    · rw [crashL_odd hx ho, List.getElem?_set]
      by_cases e : k = i
      · subst e
        rw [if_pos rfl, if_pos (by rw [hl]; exact hi), if_pos ⟨by omega, ho⟩]
      · rw [if_neg e, ih]
        congr 1
        by_cases q : i < k
        · by_cases r : odd (kl.getD i 0) = true
          · rw [if_pos ⟨q, r⟩, if_pos ⟨by omega, r⟩]
          · rw [if_neg (fun h => r h.2), if_neg (fun h => r h.2)]
        · rw [if_neg (by omega), if_neg (by omega)]

/-- The disks of the law: behind the first writes; behind the barrier; behind the second writes; behind the fall of the power. -/
def lasA (a : List ByteArray) (k : Nat) : Dsk := seqP (newD 20) a k
def lasB (a : List ByteArray) : Dsk := (lasA a a.length).down.bar
def lasC (a b : List ByteArray) (k : Nat) : Dsk := seqP (lasB a) b k
def lasD (a b : List ByteArray) (kl : List Int) : Dsk := { (lasC a b b.length).crash kl with on := true }
/-- What is wanted of sector i. -/
def lasW (a b : List ByteArray) (kl : List Int) (i : Nat) : ByteArray :=
  if i < b.length ∧ odd (kl.getD i 0) = true then pad32 (b.getD i ByteArray.empty) else if i < a.length then pad32 (a.getD i ByteArray.empty) else pad32 ⟨#[]⟩
theorem lasB_facts (a : List ByteArray) (ha : a.length ≤ 20) : (lasB a).on = true ∧ (lasB a).lit = false ∧ (lasB a).waits = [] ∧ (lasB a).lasts.length = 20 ∧ (lasB a).deeds = a.length + 1 ∧
    ∀ i, i < 20 → (lasB a).lasts.getD i ByteArray.empty = if i < a.length then pad32 (a.getD i ByteArray.empty) else pad32 ⟨#[]⟩ := by
  obtain ⟨q1, q2, q3, q4, q5, q6⟩ := seq_facts (D := newD 20) a rfl rfl rfl a.length
  have e : (lasA a a.length).down = lasA a a.length := down_unlit q2
  have hl : (lasA a a.length).lasts.length = 20 := by show (seqP (newD 20) a a.length).lasts.length = 20; rw [q3]; rfl
  have hw : (lasA a a.length).waits.length = a.length := by show (seqP (newD 20) a a.length).waits.length = _; rw [q5]; simp
  unfold lasB
  rw [e]
  refine ⟨q1, q2, rfl, ?_, ?_, fun i hi => ?_⟩
  · show ((lasA a a.length).barL (lasA a a.length).waits.length).length = 20
    rw [barL_len, hl]
  · show (seqP (newD 20) a a.length).deeds + 1 = _
    rw [q6]
    show 0 + a.length + 1 = _
    omega
  · show ((lasA a a.length).barL (lasA a a.length).waits.length).getD i ByteArray.empty = _
    rw [hw, List.getD, show lasA a a.length = seqP (newD 20) a a.length from rfl, seq_bar q5 i (by rw [show (seqP (newD 20) a a.length).lasts.length = 20 from hl]; exact hi) a.length (Nat.le_refl _)]
    simp only [Option.getD_some]
    have hz : (seqP (newD 20) a a.length).lasts.getD i ByteArray.empty = pad32 ⟨#[]⟩ := by
      rw [q3]
      show (List.replicate 20 zero32).getD i ByteArray.empty = _
      rw [List.getD, List.getElem?_replicate, if_pos hi, show pad32 ⟨#[]⟩ = zero32 by kernel_rfl]
      rfl
    by_cases q : i < a.length
    · rw [if_pos q, if_pos q]
    · rw [if_neg q, if_neg q, hz]
theorem lasD_facts (a b : List ByteArray) (kl : List Int) (ha : a.length ≤ 20) (i : Nat) (hi : i < 20) : (lasD a b kl).mayR (i : Int) = 0 ∧ (lasD a b kl).at_ (i : Int) = lasW a b kl i := by
  obtain ⟨p1, p2, p3, p4, p5, p6⟩ := lasB_facts a ha
  obtain ⟨q1, q2, q3, q4, q5, q6⟩ := seq_facts (D := lasB a) b p1 p2 p3 b.length
  have hl : (lasC a b b.length).lasts.length = 20 := by show (seqP (lasB a) b b.length).lasts.length = 20; rw [q3, p4]
  have hw : (lasC a b b.length).waits.length = b.length := by show (seqP (lasB a) b b.length).waits.length = _; rw [q5]; simp
  have hc := crashL_len (lasC a b b.length) kl b.length
  have hs := seq_crash (kl := kl) q5 i (by rw [show (seqP (lasB a) b b.length).lasts.length = 20 from hl]; exact hi) b.length (Nat.le_refl _)
  constructor
  · unfold Dsk.mayR Dsk.has
    rw [if_pos (show (lasD a b kl).on = true from rfl)]
    show (if decide (0 ≤ (i : Int) ∧ (i : Int) < (((lasC a b b.length).crashL kl (lasC a b b.length).waits.length).length : Int)) = true then (0 : Int) else 1) = 0
    rw [hw, hc, hl, if_pos (decide_eq_true (by omega))]
  · show ((lasC a b b.length).crashL kl (lasC a b b.length).waits.length).getD (i : Int).toNat ByteArray.empty = _
    rw [hw, List.getD, show (i : Int).toNat = i from rfl, show (lasC a b b.length) = seqP (lasB a) b b.length from rfl, hs]
    simp only [Option.getD_some]
    unfold lasW
    rw [q3, p6 i hi]

set_option maxHeartbeats 1000000 in
/-- Where there is too much. -/
theorem Lasts_much (n0 n1 n2 : Nat) (a0 a1 a2 : Option Addr) (c0 c1 c2 : Nat) (w : World) (h : 20 < n0 ∨ 20 < n1 ∨ 40 < n2) (m0 : n0 ≤ maxLen) (m1 : n1 ≤ maxLen) (m2 : n2 ≤ maxLen) :
    Calls Try.prog 4 #[.slice a0 n0 c0, .slice a1 n1 c1, .slice a2 n2 c2] w fun e w' => e = .returned (.bool true) ∧ Below w.heap.size w w' := by
  unfold maxLen at m0 m1 m2
  by_cases h0 : 20 < n0
  · have h0' : (20 : Int) < (n0 : Int) := by omega
    clear h
    go_enter Try.func4, Try.ntmps4
    go_wp2_with (go_at_call 8; refine (alive_is _).mono ?_; rintro e w1 ⟨rfl, b1⟩)
    go_ret
    exact ⟨rfl, b1⟩
  · have h0' : ¬ (20 : Int) < (n0 : Int) := by omega
    by_cases h1 : 20 < n1
    · have h1' : (20 : Int) < (n1 : Int) := by omega
      clear h
      go_enter Try.func4, Try.ntmps4
      go_wp2_with (go_at_call 8; refine (alive_is _).mono ?_; rintro e w1 ⟨rfl, b1⟩)
      go_ret
      exact ⟨rfl, b1⟩
    · have h1' : ¬ (20 : Int) < (n1 : Int) := by omega
      have h2' : (40 : Int) < (n2 : Int) := by omega
      clear h
      go_enter Try.func4, Try.ntmps4
      go_wp2_with (go_at_call 8; refine (alive_is _).mono ?_; rintro e w1 ⟨rfl, b1⟩)
      go_ret
      exact ⟨rfl, b1⟩

set_option maxRecDepth 100000 in
set_option maxHeartbeats 4000000 in
theorem Lasts_walk (a b : List ByteArray) (kl : List Int) (a0 a1 a2 : Option Addr) (c0 c1 c2 : Nat) (w : World) (h0 : StrsAt w a0 a) (h1 : StrsAt w a1 b) (h2 : IntsAt w a2 kl) (hs : ∀ s ∈ a, s.size ≤ maxLen) (ht : ∀ s ∈ b, s.size ≤ maxLen)
    (hl : a.length ≤ 20) (hl2 : b.length ≤ 20) (hk : kl.length ≤ 40) :
    Calls Try.prog 4 #[.slice a0 a.length c0, .slice a1 b.length c1, .slice a2 kl.length c2] w fun e w' => e = .returned (.bool true) ∧ Below w.heap.size w w' := by
  have HA := Lib.hid (And.intro h0 (And.intro h1 (And.intro h2 (And.intro hs ht))))
  have hl' : decide ((20 : Int) < (a.length : Int)) = false := decide_eq_false (by omega)
  have hm' : decide ((20 : Int) < (b.length : Int)) = false := decide_eq_false (by omega)
  have hk' : decide ((40 : Int) < (kl.length : Int)) = false := decide_eq_false (by omega)
  clear h0 h1 h2 hs ht
  go_enter Try.func4, Try.ntmps4
  go_wp2_with (first
    | (go_at_call 8; refine (alive_is _).mono ?_; rintro e w1 ⟨rfl, b1⟩)
    | (go_at_call 9; refine (New_at 20 w.heap.size _ b1.size).mono ?_; rintro e w2 ⟨p, rfl, h2, b2⟩; have A2 : At w.heap.size w2 p (lasA a 0) := h2; have B2 := b1.trans b2; clear h2 b1 b2))
  go_loopw [8] (fun i wr => ∃ k : Nat, k ≤ a.length ∧ i = .int .i64 (k : Int) ∧ At w.heap.size wr p (lasA a k) ∧ Below w.heap.size w wr) (fun i _ => a.length - (intOf i).toNat)
  case atStart => exact ⟨0, Nat.zero_le _, rfl, A2, B2⟩
  case round =>
    obtain ⟨k, hkn, rfl, A, B⟩ := hrel
    clear A2 B2
    by_cases hlt : k < a.length
    · have hx : a[k]? = some a[k] := List.getElem?_eq_getElem hlt
      obtain ⟨b0, rfl, hbl, hcell⟩ := (HA.out.1.below B) k _ hx
      have hgd : a.getD k ByteArray.empty = a[k] := by simp [List.getD, hx]
      have hsz := HA.out.2.2.2.1 _ (List.getElem_mem hlt)
      have f := seq_facts (D := newD 20) a rfl rfl rfl k
      have hm : (lasA a k).mayW (k : Int) (pad32 (a.getD k ByteArray.empty)) = 0 := by
        unfold Dsk.mayW Dsk.has lasA
        rw [if_pos f.1, f.2.2.1, pad32_size, if_pos (by simp [newD]; omega)]
      have hfn : (lasA a k).fallsNow = false := by unfold Dsk.fallsNow lasA; rw [f.2.1]; rfl
      have hwn : (lasA a k).waits.length + 1 < 2 ^ 40 := by unfold lasA; rw [f.2.2.2.2.1]; simp; omega
      have hdn : (lasA a k).deeds + 1 < 2 ^ 60 := by unfold lasA; rw [f.2.2.2.2.2]; simp [newD]; omega
      rw [hgd] at hm
      have HX := Lib.hid (And.intro hm (And.intro hfn (And.intro hwn (And.intro hdn (And.intro hgd hsz)))))
      have HB := Lib.hid (And.intro A B)
      clear hm hfn hwn hdn hgd hsz f hx A B
      generalize a[k] = s at *
      go_wp2_with (first
        | (go_at_call 12; refine (Full_is _ HX.out.2.2.2.2.2 _).mono ?_; rintro e w' ⟨rfl, rfl⟩)
        | (go_at_call 13; refine (Write_at (k : Int) (pad32 s) (pad32_size _) _ HB.out.1 HX.out.1 HX.out.2.1 HX.out.2.2.1 HX.out.2.2.2.1).mono ?_; rintro e w4 ⟨rfl, h4, b4⟩
           have A4 : At w.heap.size w4 p (lasA a (k + 1)) := by rw [show lasA a (k + 1) = ((lasA a k).push k (pad32 s)).down.deed by rw [← HX.out.2.2.2.2.1]; rfl]; exact h4
           have B4 := HB.out.2.trans b4
           clear h4 b4))
      refine ⟨⟨k + 1, by omega, by go_num, A4, B4⟩, by simp [intOf]; omega⟩
    · obtain rfl : k = a.length := by omega
      have hn : ¬ (a.length : Int) < (a.length : Int) := by omega
      have f := seq_facts (D := newD 20) a rfl rfl rfl a.length
      have hmB : (lasA a a.length).mayB = 0 := by unfold Dsk.mayB lasA; rw [if_pos f.1]
      have hfn : (lasA a a.length).fallsNow = false := by unfold Dsk.fallsNow lasA; rw [f.2.1]; rfl
      have hdn : (lasA a a.length).deeds + 1 < 2 ^ 60 := by unfold lasA; rw [f.2.2.2.2.2]; simp [newD]; omega
      have g := lasB_facts a hl
      have hw0 : (lasB a).waits.length = 0 := by rw [g.2.2.1]; rfl
      have HX := Lib.hid (And.intro hmB (And.intro hfn (And.intro hdn hw0)))
      have HG := Lib.hid g
      have HB := Lib.hid (And.intro A B)
      clear hmB hfn hdn f g hw0 A B hkn hlt
      go_wp2_with (first
        | (go_at_call 15; refine (Barrier_at _ HB.out.1 HX.out.1 HX.out.2.1 HX.out.2.2.1).mono ?_; rintro e w4 ⟨rfl, h4, b4⟩; have A4 : At w.heap.size w4 p (lasB a) := h4; have B4 := HB.out.2.trans b4; clear h4 b4)
        | (go_at_call 28; refine (Waits_at _ A4).mono ?_; rintro e w' ⟨rfl, rfl⟩; rw [HX.out.2.2.2]))
      have A5 : At w.heap.size _ p (lasC a b 0) := A4
      go_loopw [9] (fun i wr => ∃ k : Nat, k ≤ b.length ∧ i = .int .i64 (k : Int) ∧ At w.heap.size wr p (lasC a b k) ∧ Below w.heap.size w wr) (fun i _ => b.length - (intOf i).toNat)
      case atStart => exact ⟨0, Nat.zero_le _, rfl, A5, B4⟩
      case round =>
        obtain ⟨k, hkn, rfl, A, B⟩ := hrel
        clear A4 A5 B4 HB HX
        by_cases hlt : k < b.length
        · have hx : b[k]? = some b[k] := List.getElem?_eq_getElem hlt
          obtain ⟨b0, rfl, hbl, hcell⟩ := (HA.out.2.1.below B) k _ hx
          have hgd : b.getD k ByteArray.empty = b[k] := by simp [List.getD, hx]
          have hsz := HA.out.2.2.2.2 _ (List.getElem_mem hlt)
          have f := seq_facts (D := lasB a) b HG.out.1 HG.out.2.1 HG.out.2.2.1 k
          have hm : (lasC a b k).mayW (k : Int) (pad32 (b.getD k ByteArray.empty)) = 0 := by
            unfold Dsk.mayW Dsk.has lasC
            rw [if_pos f.1, f.2.2.1, HG.out.2.2.2.1, pad32_size, if_pos (by simp; omega)]
          have hfn : (lasC a b k).fallsNow = false := by unfold Dsk.fallsNow lasC; rw [f.2.1]; rfl
          have hwn : (lasC a b k).waits.length + 1 < 2 ^ 40 := by unfold lasC; rw [f.2.2.2.2.1]; simp; omega
          have hdn : (lasC a b k).deeds + 1 < 2 ^ 60 := by unfold lasC; rw [f.2.2.2.2.2, HG.out.2.2.2.2.1]; omega
          rw [hgd] at hm
          have HX := Lib.hid (And.intro hm (And.intro hfn (And.intro hwn (And.intro hdn (And.intro hgd hsz)))))
          have HB := Lib.hid (And.intro A B)
          clear hm hfn hwn hdn hgd hsz f hx A B
          generalize b[k] = s at *
          go_wp2_with (first
            | (go_at_call 12; refine (Full_is _ HX.out.2.2.2.2.2 _).mono ?_; rintro e w' ⟨rfl, rfl⟩)
            | (go_at_call 13; refine (Write_at (k : Int) (pad32 s) (pad32_size _) _ HB.out.1 HX.out.1 HX.out.2.1 HX.out.2.2.1 HX.out.2.2.2.1).mono ?_; rintro e w4 ⟨rfl, h4, b4⟩
               have A4 : At w.heap.size w4 p (lasC a b (k + 1)) := by rw [show lasC a b (k + 1) = ((lasC a b k).push k (pad32 s)).down.deed by rw [← HX.out.2.2.2.2.1]; rfl]; exact h4
               have B4 := HB.out.2.trans b4
               clear h4 b4))
          refine ⟨⟨k + 1, by omega, by go_num, A4, B4⟩, by simp [intOf]; omega⟩
        · obtain rfl : k = b.length := by omega
          have hn : ¬ (b.length : Int) < (b.length : Int) := by omega
          have f := seq_facts (D := lasB a) b HG.out.1 HG.out.2.1 HG.out.2.2.1 b.length
          have hon : (lasC a b b.length).on = true := f.1
          have HX := Lib.hid hon
          have HB := Lib.hid (And.intro A B)
          clear f hon A B hkn hlt
          go_wp2_with (first
            | (go_at_call 17; refine (Crash_at _ a2 kl c2 HB.out.1 (fun j z hz => by obtain ⟨b, q1, _, q3⟩ := (HA.out.2.2.1.below HB.out.2) j z hz; exact ⟨b, q1, q3⟩) (fun a q0 qa => by obtain ⟨b, q1, q2, _⟩ := HA.out.2.2.1 0 _ (List.getElem?_eq_getElem q0); rw [qa] at q1; simp at q1; rw [q1]; exact q2) (by omega) HX.out).mono ?_; rintro e w5 ⟨rfl, A5, b5⟩; have B5 := HB.out.2.trans b5; clear b5)
            | (go_at_call 19; refine (Power_at _ A5).mono ?_; rintro e w6 ⟨rfl, h6, b6⟩; have A6 : At w.heap.size w6 p (lasD a b kl) := h6; have B6 := B5.trans b6; clear h6 b6 A5 B5))
          go_loopw [10] (fun i wr => ∃ k : Nat, k ≤ 20 ∧ i = .int .i64 (k : Int) ∧ At w.heap.size wr p (lasD a b kl) ∧ Below w.heap.size w wr) (fun i _ => 20 - (intOf i).toNat)
          case atStart => exact ⟨0, Nat.zero_le _, rfl, A6, B6⟩
          case round =>
            obtain ⟨k, hkn, rfl, A, B⟩ := hrel
            clear A6 B6 HB HX
            by_cases hlt : k < 20
            · obtain ⟨r1, r2⟩ := lasD_facts a b kl hl k hlt
              have HR := Lib.hid (And.intro r1 (And.intro r2 (And.intro A B)))
              clear r1 r2 A
              by_cases ha : k < a.length
              · have hxa : a[k]? = some a[k] := List.getElem?_eq_getElem ha
                obtain ⟨ba, rfl, hbla, hcella⟩ := (HA.out.1.below HR.out.2.2.2) k _ hxa
                have HXa := Lib.hid (And.intro (show a.getD k ByteArray.empty = a[k] by simp [List.getD, hxa]) (HA.out.2.2.2.1 _ (List.getElem_mem ha)))
                clear hxa hbla
                generalize a[k] = sa at *
                by_cases hb : k < b.length
                · by_cases hk2 : k < kl.length
                  · have hxb : b[k]? = some b[k] := List.getElem?_eq_getElem hb
                    obtain ⟨bb, rfl, hblb, hcellb⟩ := (HA.out.2.1.below HR.out.2.2.2) k _ hxb
                    have HXb := Lib.hid (And.intro (show b.getD k ByteArray.empty = b[k] by simp [List.getD, hxb]) (HA.out.2.2.2.2 _ (List.getElem_mem hb)))
                    clear hxb hblb
                    generalize b[k] = sb at *
                    have hxk : kl[k]? = some kl[k] := List.getElem?_eq_getElem hk2
                    obtain ⟨bk, rfl, hblk, hcellk⟩ := (HA.out.2.2.1.below HR.out.2.2.2) k _ hxk
                    have HXk := Lib.hid (show odd (kl.getD k 0) = odd kl[k] by simp [List.getD, hk2])
                    clear hxk hblk
                    generalize kl[k] = z at *
                    cases ho : odd z
                    · have hbit : (bits .and .i64 z 1 == 1) = false := by rw [i64_and1]; exact ho
                      have HW := Lib.hid (show lasW a b kl k = pad32 sa by unfold lasW; rw [if_neg (fun q => by rw [HXk.out, ho] at q; cases q.2), if_pos ha, HXa.out.1])
                      clear ho
                      go_wp2_with (first
                        | (go_at_call 12; refine (Full_is _ (by first | exact HXa.out.2 | decide) _).mono ?_; rintro e w' ⟨rfl, rfl⟩)
                        | (go_at_call 26; refine (Read_at (k : Int) _ HR.out.2.2.1).mono ?_; rintro e w' ⟨rfl, rfl⟩; rw [if_pos HR.out.1, HR.out.1, HR.out.2.1, HW.out]))
                      refine ⟨⟨k + 1, by omega, by go_num, HR.out.2.2.1, HR.out.2.2.2⟩, by simp [intOf]; omega⟩
                    · have hbit : (bits .and .i64 z 1 == 1) = true := by rw [i64_and1]; exact ho
                      have HW := Lib.hid (show lasW a b kl k = pad32 sb by unfold lasW; rw [if_pos ⟨hb, by rw [HXk.out, ho]⟩, HXb.out.1])
                      clear ho
                      go_wp2_with (first
                        | (go_at_call 12; refine (Full_is _ (by first | exact HXa.out.2 | exact HXb.out.2 | decide) _).mono ?_; rintro e w' ⟨rfl, rfl⟩)
                        | (go_at_call 26; refine (Read_at (k : Int) _ HR.out.2.2.1).mono ?_; rintro e w' ⟨rfl, rfl⟩; rw [if_pos HR.out.1, HR.out.1, HR.out.2.1, HW.out]))
                      refine ⟨⟨k + 1, by omega, by go_num, HR.out.2.2.1, HR.out.2.2.2⟩, by simp [intOf]; omega⟩
                  · have HW := Lib.hid (show lasW a b kl k = pad32 sa by unfold lasW; rw [if_neg (fun q => by have := q.2; simp [List.getD, List.getElem?_eq_none (show kl.length ≤ k by omega), odd] at this), if_pos ha, HXa.out.1])
                    go_wp2_with (first
                      | (go_at_call 12; refine (Full_is _ (by first | exact HXa.out.2 | decide) _).mono ?_; rintro e w' ⟨rfl, rfl⟩)
                      | (go_at_call 26; refine (Read_at (k : Int) _ HR.out.2.2.1).mono ?_; rintro e w' ⟨rfl, rfl⟩; rw [if_pos HR.out.1, HR.out.1, HR.out.2.1, HW.out]))
                    refine ⟨⟨k + 1, by omega, by go_num, HR.out.2.2.1, HR.out.2.2.2⟩, by simp [intOf]; omega⟩
                · have HW := Lib.hid (show lasW a b kl k = pad32 sa by unfold lasW; rw [if_neg (fun q => hb q.1), if_pos ha, HXa.out.1])
                  go_wp2_with (first
                    | (go_at_call 12; refine (Full_is _ (by first | exact HXa.out.2 | decide) _).mono ?_; rintro e w' ⟨rfl, rfl⟩)
                    | (go_at_call 26; refine (Read_at (k : Int) _ HR.out.2.2.1).mono ?_; rintro e w' ⟨rfl, rfl⟩; rw [if_pos HR.out.1, HR.out.1, HR.out.2.1, HW.out]))
                  refine ⟨⟨k + 1, by omega, by go_num, HR.out.2.2.1, HR.out.2.2.2⟩, by simp [intOf]; omega⟩
              · by_cases hb : k < b.length
                · by_cases hk2 : k < kl.length
                  · have hxb : b[k]? = some b[k] := List.getElem?_eq_getElem hb
                    obtain ⟨bb, rfl, hblb, hcellb⟩ := (HA.out.2.1.below HR.out.2.2.2) k _ hxb
                    have HXb := Lib.hid (And.intro (show b.getD k ByteArray.empty = b[k] by simp [List.getD, hxb]) (HA.out.2.2.2.2 _ (List.getElem_mem hb)))
                    clear hxb hblb
                    generalize b[k] = sb at *
                    have hxk : kl[k]? = some kl[k] := List.getElem?_eq_getElem hk2
                    obtain ⟨bk, rfl, hblk, hcellk⟩ := (HA.out.2.2.1.below HR.out.2.2.2) k _ hxk
                    have HXk := Lib.hid (show odd (kl.getD k 0) = odd kl[k] by simp [List.getD, hk2])
                    clear hxk hblk
                    generalize kl[k] = z at *
                    cases ho : odd z
                    · have hbit : (bits .and .i64 z 1 == 1) = false := by rw [i64_and1]; exact ho
                      have HW := Lib.hid (show lasW a b kl k = pad32 ⟨#[]⟩ by unfold lasW; rw [if_neg (fun q => by rw [HXk.out, ho] at q; cases q.2), if_neg ha])
                      clear ho
                      go_wp2_with (first
                        | (go_at_call 12; refine (Full_is _ (by first | decide) _).mono ?_; rintro e w' ⟨rfl, rfl⟩)
                        | (go_at_call 26; refine (Read_at (k : Int) _ HR.out.2.2.1).mono ?_; rintro e w' ⟨rfl, rfl⟩; rw [if_pos HR.out.1, HR.out.1, HR.out.2.1, HW.out]))
                      refine ⟨⟨k + 1, by omega, by go_num, HR.out.2.2.1, HR.out.2.2.2⟩, by simp [intOf]; omega⟩
                    · have hbit : (bits .and .i64 z 1 == 1) = true := by rw [i64_and1]; exact ho
                      have HW := Lib.hid (show lasW a b kl k = pad32 sb by unfold lasW; rw [if_pos ⟨hb, by rw [HXk.out, ho]⟩, HXb.out.1])
                      clear ho
                      go_wp2_with (first
                        | (go_at_call 12; refine (Full_is _ (by first | exact HXb.out.2 | decide) _).mono ?_; rintro e w' ⟨rfl, rfl⟩)
                        | (go_at_call 26; refine (Read_at (k : Int) _ HR.out.2.2.1).mono ?_; rintro e w' ⟨rfl, rfl⟩; rw [if_pos HR.out.1, HR.out.1, HR.out.2.1, HW.out]))
                      refine ⟨⟨k + 1, by omega, by go_num, HR.out.2.2.1, HR.out.2.2.2⟩, by simp [intOf]; omega⟩
                  · have HW := Lib.hid (show lasW a b kl k = pad32 ⟨#[]⟩ by unfold lasW; rw [if_neg (fun q => by have := q.2; simp [List.getD, List.getElem?_eq_none (show kl.length ≤ k by omega), odd] at this), if_neg ha])
                    go_wp2_with (first
                      | (go_at_call 12; refine (Full_is _ (by first | decide) _).mono ?_; rintro e w' ⟨rfl, rfl⟩)
                      | (go_at_call 26; refine (Read_at (k : Int) _ HR.out.2.2.1).mono ?_; rintro e w' ⟨rfl, rfl⟩; rw [if_pos HR.out.1, HR.out.1, HR.out.2.1, HW.out]))
                    refine ⟨⟨k + 1, by omega, by go_num, HR.out.2.2.1, HR.out.2.2.2⟩, by simp [intOf]; omega⟩
                · have HW := Lib.hid (show lasW a b kl k = pad32 ⟨#[]⟩ by unfold lasW; rw [if_neg (fun q => hb q.1), if_neg ha])
                  go_wp2_with (first
                    | (go_at_call 12; refine (Full_is _ (by first | decide) _).mono ?_; rintro e w' ⟨rfl, rfl⟩)
                    | (go_at_call 26; refine (Read_at (k : Int) _ HR.out.2.2.1).mono ?_; rintro e w' ⟨rfl, rfl⟩; rw [if_pos HR.out.1, HR.out.1, HR.out.2.1, HW.out]))
                  refine ⟨⟨k + 1, by omega, by go_num, HR.out.2.2.1, HR.out.2.2.2⟩, by simp [intOf]; omega⟩
            · obtain rfl : k = 20 := by omega
              have HR := Lib.hid B
              clear A B
              go_wp2
              go_ret
              exact ⟨rfl, HR.out⟩
end Go.Proofs.Ytaammeciepemjaa
