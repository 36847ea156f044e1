/- The document's own disk: Disks by its contract. -/
import Derived.Test.YtobgcengijnffaaRefPush
import Derived.RegionTactic
namespace Go.Proofs.Ytobgcengijnffaa
open Go.RowKit

/-- A new one. -/
def newR (k : Nat) : Rsk := { on := true, lasts := List.replicate k zero32, waits := [], deeds := 0, arm := false, n := 0, keep := [] }
def RLay.bare (z : RLay) : Prop := z.wa = none ∧ z.ka = none ∧ z.W = z.p ∧ z.K = z.p ∧ z.cW = 0 ∧ z.cK = 0
theorem newR_step {wr w4 : World} {z : RLay} {k g cap : Nat} (I : IsR wr z (newR k)) (hk : k + 1 ≤ 3000) (hz : z.bare) (h4 : w4.heap[z.p]? = wr.heap[z.p]?)
    (ho : w4.ownsRow 0 9 1 (.slice (some ⟨g, 0, none⟩) (k + 1) cap) (k + 1) ((List.replicate k zero32).map Value.string ++ [.string zero32])) (hg : g ≠ z.p) (hlt : g < w4.heap.size) :
    IsR (w4.setCell ⟨z.p, 0, none⟩ (.slice (some ⟨g, 0, none⟩) (k + 1) cap)) (z.newS (some ⟨g, 0, none⟩) cap) (newR (k + 1)) := by
  obtain ⟨ha, hb, hW, hK, hcW, hcK⟩ := hz
  have o : ∀ b, b ≠ z.p → (w4.setCell ⟨z.p, 0, none⟩ (.slice (some ⟨g, 0, none⟩) (k + 1) cap)).heap[b]? = w4.heap[b]? := fun b hb => heap_setCell_ne _ _ _ _ hb
  have hp : z.p < w4.heap.size := by
    have h0 := I.small z.p (.inl rfl)
    rcases Nat.lt_or_ge z.p w4.heap.size with h | h
    · exact h
    · rw [Array.getElem?_eq_none h, Array.getElem?_eq_getElem h0] at h4
      cases h4
  refine ⟨?_, there_set (there_of_block h4 I.thr) _ _, .inr ⟨rfl, ?_⟩, .inl ⟨ha, rfl, hcW⟩, .inl ⟨hb, rfl, hcK⟩, fun _ => hg, fun q => absurd ha q, fun q => absurd hb q, ?_, by simpa [newR] using hk, by simp [newR], by simp [newR], fun x hx => by simp [newR] at hx⟩
  · have := rangeAt_set (k := 0) (rangeAt_of_block h4 I.rng) (.slice (some ⟨g, 0, none⟩) (k + 1) cap)
    simpa [rhead, newR, RLay.newS] using this
  · have e : (newR (k + 1)).lasts.map Value.string = (List.replicate k zero32).map Value.string ++ [.string zero32] := by
      simp [newR, List.replicate_succ']
    rw [e]
    have := owns_of_block ho (o g hg)
    simpa [newR, RLay.newS, blkOf] using this
  · intro b q
    rw [size_setCell']
    rcases q with q | q | q | q
    · have : b = z.p := q
      omega
    · have : b = g := q
      omega
    · have : b = z.W := q
      omega
    · have : b = z.K := q
      omega

theorem u8Info : (Try.prog.info? 5).map (fun i => (i.zero, i.size, i.bytes)) = some (some (.int .u8 0), 1, 1) := by kernel_rfl
theorem bcells_zero' : bcells zero32 = List.replicate 32 (.int .u8 0) := bcells_zero

set_option maxHeartbeats 1000000 in
theorem Disks_is (n : Int) (hn : n ≤ 40) (w : World) :
    Calls Try.prog 10 #[.int .i64 n] w fun e w' => ∃ z : RLay, e = .returned (.pointer (some ⟨z.p, 0, none⟩)) ∧ IsR w' z (newR (max n 0).toNat) ∧ (∀ b, z.foot b → w.heap.size ≤ b) ∧ Only (fun _ => False) w w' := by
  obtain ⟨i0, hi, hz0, hz1, hz2⟩ := info_parts strInfo
  have HI := Lib.hid (And.intro hi (And.intro hz0 (And.intro hz1 hz2)))
  clear hi hz0 hz1 hz2
  obtain ⟨i1, hi, hz0, hz1, hz2⟩ := info_parts u8Info
  have hmk : ∀ (u : World), (Instr.makeSlice 60 (.int .i64 32) (.int .i64 32)).run Try.prog u =
      .ok (.slice (some ⟨u.heap.size, 0, none⟩) 32 32) (u.alloc (.cells (Array.replicate 32 (.int .u8 0)) 5)) := fun u => by
    have h := run_make (P := Try.prog) u 60 5 i1 _ Try.underlying60 hi hz0 .i64 .i64 32 32 (by omega) (Int.le_refl _) (by rw [hz2]; omega) (by omega)
    simpa [hz1, Value.cells, show madeCells #[Value.int .u8 0] 32 = Array.replicate 32 (.int .u8 0) from by apply Array.ext <;> simp [madeCells, Nat.mod_one]] using h
  have hcv : ∀ (u : World) (s : Nat), u.rangeAt s 0 (bcells zero32) → (convert 60 9 (.slice (some ⟨s, 0, none⟩) 32 32)).run Try.prog u = .ok (.string zero32) u := fun u s hs => by
    rw [run_convert_bytes_string _ _ _ 5 _ _ _ (by kernel_rfl) (by kernel_rfl) (by kernel_rfl)]
    exact run_bytes_is _ s 0 32 32 zero32 rfl hs
  clear hi hz0 hz1 hz2
  have hn0 : ∃ N : Nat, N ≤ 40 ∧ (max n 0).toNat = N ∧ ((n < 0 ∧ N = 0) ∨ (0 ≤ n ∧ n = N)) := ⟨(max n 0).toNat, by omega, rfl, by omega⟩
  obtain ⟨N, hN, hNe, hn1⟩ := hn0
  rw [hNe]
  clear hNe
  have hmax : max n 0 = (N : Int) := by omega
  have hmin : min (N : Int) 3000 = N := by omega
  go_enter Try.func10, Try.ntmps10
  go_wp2
  go_loopw [4] (fun i wr => ∃ (k : Nat) (z : RLay), k ≤ N ∧ i = .int .i64 (k : Int) ∧ z.p = w.heap.size ∧ z.bare ∧ IsR wr z (newR k) ∧ (∀ b, z.foot b → w.heap.size ≤ b) ∧ Only (fun _ => False) w wr) (fun i _ => N - (intOf i).toNat)
  case atStart =>
    have b2 := heap_alloc_last w (.cells #[.slice none 0 0, .slice none 0 0, .bool false, .bool false, .int .i64 0, .slice none 0 0, .int .i64 0] 59)
    refine ⟨0, ⟨w.heap.size, w.heap.size, w.heap.size, w.heap.size, 0, 0, 0, none, none, none⟩, Nat.zero_le _, rfl, rfl, ⟨rfl, rfl, rfl, rfl, rfl, rfl⟩, ⟨?_, ?_, .inl ⟨rfl, rfl, rfl⟩, .inl ⟨rfl, rfl, rfl⟩, .inl ⟨rfl, rfl, rfl⟩, fun q => absurd rfl q, fun q => absurd rfl q, fun q => absurd rfl q, ?_, by simp [newR], by simp [newR], by simp [newR], fun x hx => by simp [newR] at hx⟩, ?_, ?_⟩
    · intro j v hv
      rw [Nat.zero_add, cell_of_row _ _ _ _ _ _ b2]
      simpa [rhead, newR] using hv
    · intro j hj
      rw [Nat.zero_add]
      refine ⟨?_, ?_⟩
      · rw [cell_of_row _ _ _ _ _ _ b2, Array.getElem?_eq_getElem (by simpa using hj)]; rfl
      · unfold World.frozen?
        rw [b2]
        simp
    · intro b q
      simp only [RLay.foot, or_self] at q
      rw [q]
      simp
    · intro b q
      simp only [RLay.foot, or_self] at q
      rw [q]
      exact Nat.le_refl _
    · exact (Only.refl _ _).alloc _
  case round =>
    obtain ⟨k, z, hkN, rfl, hzp, hzb, I, hf, ho⟩ := hrel
    by_cases hlt : k < N
    · have c0 := I.c0
      have f0 := I.fz 0 (by omega)
      rw [hzp] at c0 f0
      have hlk : (newR k).lasts.length = k := by simp [newR]
      rw [hlk] at c0
      have hC := Lib.hid (show wr.ownsRow 0 9 1 (.slice z.sa k z.cS) k ((List.replicate k zero32).map Value.string) from by
        have := I.rS.owns (by simp)
        rw [hlk] at this
        simpa [newR] using this)
      have hob : ∀ q, Value.ownBlock (.slice z.sa k z.cS) = some q → q = z.S ∧ z.S ≠ w.heap.size := fun q hq => by
        rcases I.rS with ⟨q1, _, _⟩ | ⟨q1, _⟩
        · rw [q1] at hq; simp [Value.ownBlock] at hq
        · have := I.neS (by rw [q1]; simp)
          rw [q1] at hq; simp [Value.ownBlock] at hq; omega
      have hpne : some w.heap.size ≠ Value.ownBlock (.slice z.sa k z.cS) := fun e => by
        have := hob _ e.symm
        omega
      have hps := I.small z.p (.inl rfl)
      rw [hzp] at hps
      have HR := Lib.hid (And.intro I (And.intro hzp (And.intro hzb (And.intro hf (And.intro ho hob)))))
      clear I hzp hzb hf ho hob
      have hcv' : (convert 60 9 (.slice (some ⟨wr.heap.size, 0, none⟩) 32 32)).run Try.prog (wr.alloc (.cells (Array.replicate 32 (.int .u8 0)) 5)).drew = .ok (.string zero32) (wr.alloc (.cells (Array.replicate 32 (.int .u8 0)) 5)).drew := hcv _ _ (by
        rw [bcells_zero]
        have := World.rangeAt_of_block (heap_alloc_last wr (.cells (Array.replicate 32 (.int .u8 0)) 5)) 0 32
        exact (World.rangeAt_drew _ _ _ _).2 (by simpa using this))
      have hnews : ∀ j u, [Value.string zero32][j]? = some u → (((wr.alloc (.cells (Array.replicate 32 (.int .u8 0)) 5)).alloc (.cells #[.string zero32] 9)).drew).cell? ((⟨wr.heap.size + 1, 0, none⟩ : Addr).add j) = some u := by
        refine World.news_of_block (t := 9) (fr := (0, 0)) ?_
        have := heap_alloc_last (wr.alloc (.cells (Array.replicate 32 (.int .u8 0)) 5)) (.cells #[.string zero32] 9)
        have e : wr.heap.size + 1 = (wr.alloc (.cells (Array.replicate 32 (.int .u8 0)) 5)).heap.size := by simp
        rw [e]
        exact this
      have IW := ((HR.out.1.alloc (.cells (Array.replicate 32 (.int .u8 0)) 5)).alloc (.cells #[.string zero32] 9)).drew
      have cW := IW.c0
      have fW := IW.fz 0 (by omega)
      rw [HR.out.2.1] at cW fW
      rw [hlk] at cW
      have HW := Lib.hid (And.intro IW (And.intro cW fW))
      clear IW cW fW
      go_wp2
      go_region_law (first
        | (refine step_append_lies _ rfl (.tmp 18) (.tmp 21) 46 rfl 0 9 i0 _ 1 16 Try.underlying46 HI.out.1 HI.out.2.1 HI.out.2.2.1 HI.out.2.2.2 (by rfl) (by omega)
            (.slice z.sa k z.cS) k ((List.replicate k zero32).map Value.string) rfl (by exact ((hC.out.alloc _).alloc _).drew) _ 1 1 [.string zero32] rfl rfl (by exact hnews) (by intro u hu; simp at hu; rw [hu]; rfl) (by omega) (by unfold maxLen; omega) (by omega) (by omega) _ rfl ?_
           intro g cap w4 hown4 hgr4 hat4 hlt4
           have b4 := hgr4.block w.heap.size (by simp; omega) hpne
           have d4 : w4.cell? ⟨w.heap.size, 0, none⟩ = some (.slice z.sa k z.cS) := (World.cell?_of_block (a := ⟨w.heap.size, 0, none⟩) b4).trans HW.out.2.1
           have g4 : w4.frozen? ⟨w.heap.size, 0, none⟩ = false := (World.frozen?_of_block (a := ⟨w.heap.size, 0, none⟩) b4).trans HW.out.2.2))
      all_goals
        go_wp2
        obtain ⟨I, hzp, hzb, hf, ho, hob⟩ := HR.out
        have e0 : ((wr.alloc (.cells (Array.replicate 32 (.int .u8 0)) 5)).alloc (.cells #[.string zero32] 9)).drew.heap[z.p]? = wr.heap[z.p]? := by
          show ((wr.alloc (.cells (Array.replicate 32 (.int .u8 0)) 5)).alloc (.cells #[.string zero32] 9)).heap[z.p]? = _
          rw [Below.heap_alloc _ _ _ (by simp; omega), Below.heap_alloc _ _ _ (by omega)]
        have hw4 : w4.heap[z.p]? = wr.heap[z.p]? := (hgr4.block z.p (by simp; omega) (by rw [hzp]; exact hpne)).trans e0
        have hszr := ho.size
        have hS := hf z.S (.inr (.inl rfl))
        have hgw : w.heap.size ≤ g ∧ g ≠ w.heap.size := by
          rcases hat4 with q | q
          · have := hob _ q
            omega
          · have q' : g = wr.heap.size + 1 + 1 := by simpa using q
            omega
        have St := newR_step I (by omega) hzb hw4 hown4 (by omega) hlt4
        rw [hzp] at St
        have oW : Only (fun b => w.heap.size ≤ b) w ((wr.alloc (.cells (Array.replicate 32 (.int .u8 0)) 5)).alloc (.cells #[.string zero32] 9)).drew := (((ho.mono (fun _ _ q => q.elim)).alloc _).alloc _).drew
        have o4 : Only (fun b => w.heap.size ≤ b) w w4 := ⟨hgr4.os.trans oW.os, hgr4.tape.trans oW.tape, hgr4.output.trans oW.output, Nat.le_trans oW.size hgr4.size, fun i hi hF => (hgr4.block i (Nat.lt_of_lt_of_le hi oW.size) (fun e => hF (by have := hob _ e.symm; omega))).trans (oW.block i hi hF)⟩
        refine ⟨⟨k + 1, z.newS (some ⟨g, 0, none⟩) cap, by omega, by go_num, hzp, hzb, St, fun b q => ?_, (o4.setCell (p := ⟨w.heap.size, 0, none⟩) (.inl (Nat.le_refl _)) _).mono (fun i hi q => by have q' : w.heap.size ≤ i := q; omega)⟩, by simp [intOf]; omega⟩
        rcases q with q | q | q | q
        · exact hf b (.inl q)
        · have q' : b = g := q
          omega
        · exact hf b (.inr (.inr (.inl q)))
        · exact hf b (.inr (.inr (.inr q)))
    · obtain rfl : k = N := by omega
      clear hlt
      go_wp2
      all_goals
        go_ret
        exact ⟨z, by rw [hzp]; rfl, I, hf, ho⟩
end Go.Proofs.Ytobgcengijnffaa
