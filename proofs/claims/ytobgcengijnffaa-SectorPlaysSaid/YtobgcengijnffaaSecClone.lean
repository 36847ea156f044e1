/- slices.Clone at the disk's three element types; Disk.Arm. -/
import Derived.Test.YtobgcengijnffaaSecAlive
import Derived.Test.YtobgcengijnffaaSecOrder
namespace Go.Proofs.Ytobgcengijnffaa
open Go.RowKit

theorem blockInfo' : (Try.prog.info? 63).map (fun i => (i.zero, i.size, i.bytes)) = some (some (.agg (Array.replicate 32 (.int .u8 0))), 32, 32) := blockInfo
theorem intInfo : (Try.prog.info? 3).map (fun i => (i.zero, i.size, i.bytes)) = some (some (.int .i64 0), 1, 8) := by kernel_rfl

/-- A new, empty row. -/
theorem owns_empty (w : World) (e : TypeId) (k : Nat) : (w.alloc (.cells #[] e)).ownsRow w.heap.size e k (.slice (some ⟨w.heap.size, 0, none⟩) 0 0) 0 [] :=
  ⟨by simp, .inr ⟨w.heap.size, 0, #[], rfl, Nat.le_refl _, heap_alloc_last _ _, Nat.le_refl _, Nat.zero_le _, by simp, by simp⟩⟩

/-- append by its run. -/
theorem wpList_append_run {P : Program} {ops : Array Oper} {rest : List Oper} {o : Oper} {a : Act} {w w' : World} {Q : Exit → Act → World → Prop} (hgd : o.guard = none) (d s : Operand) (dT sT : TypeId)
    (ho : o.op = .call { callee := .builtin .append, args := #[d, s], argTypes := #[dT, sT] }) (vd vs v : Value) (hd : a.eval d = vd) (hs : a.eval s = vs)
    (hr : (Builtin.append_ #[dT, sT] o.type #[vd, vs]).run P w = .ok v w') (h : wpList P ops Q rest (a.put o.dst v) w') : wpList P ops Q (o :: rest) a w :=
  wpList_plain hgd fun _ hK => by
    unfold Oper.wp execOp
    simp only [ho, resolve, invoke, builtin, Sem.run_bind, Sem.run_pure, Result.andThen_ok, List.map_toArray, List.map_cons, List.map_nil, hd, hs, hr]
    exact hK _ _ h
theorem run_append_zero {P : Program} (w : World) (t ty e : TypeId) (i : TypeInfo) (ht : P.underlying t = some (.slice e)) (hi : P.info? e = some i) (hn : (match P.underlying t with | some (.int _) => true | _ => false) = false) (g : Nat) (b : Addr) (c : Nat) :
    (Builtin.append_ #[t, t] ty #[.slice (some ⟨g, 0, none⟩) 0 0, .slice (some b) 0 c]).run P w = .ok (.slice (some ⟨g, 0, none⟩) 0 0) w := by
  have hl : ∀ (x : Addr), (loadCells x 0).run P w = .ok #[] w := fun x => by simpa using run_loadCells_list (P := P) w x [] (by simp)
  simp [Builtin.append_, run_underlying ht, sizeOf, typeInfo, hi, Builtin.lenOf, Builtin.firstCells, hl, storeCells]

set_option maxHeartbeats 1000000 in
theorem clone_int (a : Option Addr) (m c : Nat) (cs : List Value) (w : World) (hm : m < 2 ^ 40) (hl : cs.length = m * 1) (hcs : ∀ j u, cs[j]? = some u → ∃ b : Addr, a = some b ∧ b.block < w.heap.size ∧ w.cell? (b.add j) = some u)
    (h1 : ∀ u ∈ cs, u.oneCell' = true) (hnil : a = none → m = 0) :
    Calls Try.prog 38 #[.slice a m c] w fun e w' => ∃ a' c', e = .returned (.slice a' m c') ∧ Below w.heap.size w w' ∧ m ≤ c' ∧
      ((a' = none ∧ m = 0 ∧ c' = 0) ∨ ∃ g, a' = some ⟨g, 0, none⟩ ∧ w.heap.size ≤ g ∧ w'.ownsRow w.heap.size 3 1 (.slice (some ⟨g, 0, none⟩) m c') m cs) := by
  have hq := run_eql_slice_nil (P := Try.prog) w 29 3 a m c Try.underlying29
  cases a with
  | none =>
    have h0 : m = 0 := hnil rfl
    have H0 := Lib.hid h0
    clear h0 hcs hl h1 hnil
    go_enter Try.func38, Try.ntmps38
    go_wp2
    go_ret
    exact ⟨none, 0, by rw [H0.out]; rfl, Below.refl _ _, by rw [H0.out]; exact Nat.le_refl _, .inl ⟨rfl, H0.out, rfl⟩⟩
  | some b =>
    obtain ⟨i0, hi, hz0, hz1, hz2⟩ := info_parts intInfo
    have HI := Lib.hid (And.intro hi (And.intro hz0 (And.intro hz1 hz2)))
    clear hi hz0 hz1 hz2
    rcases Nat.eq_zero_or_pos m with h0 | h0
    · subst h0
      have hcn : cs = [] := List.eq_nil_of_length_eq_zero (by simpa using hl)
      have HN := Lib.hid hcn
      clear hcn hcs hl h1 hnil
      go_enter Try.func38, Try.ntmps38
      go_wp2_with (refine wpList_append_run rfl (.tmp 5) (.tmp 6) 29 29 rfl _ _ _ rfl rfl (run_append_zero _ 29 29 3 i0 Try.underlying29 HI.out.1 rfl w.heap.size b c) ?_)
      go_ret
      refine ⟨_, _, rfl, (Below.refl _ _).alloc (Nat.le_refl _) _, Nat.le_refl _, .inr ⟨_, rfl, Nat.le_refl _, ?_⟩⟩
      rw [HN.out]
      exact owns_empty w _ _
    · have HD := Lib.hid (show ∀ j u, cs[j]? = some u → (w.alloc (.cells #[] 3)).cell? (b.add j) = some u from fun j u hu => by
          obtain ⟨b', hb, hlt, hc⟩ := hcs j u hu
          obtain rfl : b = b' := by simpa using hb
          rw [World.cell?_alloc_lt _ _ _ (by rw [add_block]; exact hlt)]
          exact hc)
      have HC := Lib.hid (And.intro hl (And.intro hcs h1))
      clear hl hcs h1 hnil
      go_enter Try.func38, Try.ntmps38
      go_wp2_with (first
       | (refine wpList_append_lies _ rfl (.tmp 5) (.tmp 6) 29 rfl w.heap.size 3 i0 _ 1 8 Try.underlying29 HI.out.1 HI.out.2.1 HI.out.2.2.1 HI.out.2.2.2 (by rfl) (by omega)
            (.slice (some ⟨w.heap.size, 0, none⟩) 0 0) 0 [] rfl (by exact owns_empty w _ _) b m c cs rfl HC.out.1 (by exact HD.out) HC.out.2.2 h0 (by unfold maxLen; omega) (by omega) (by simp) _ rfl ?_
          intro g cap w1 hown hgr hat hlt))
      go_ret
      have hg : w.heap.size ≤ g := by
        rcases hat with q | q
        · have : w.heap.size = g := by simpa [Value.ownBlock] using q
          omega
        · rw [q]; simp
      simp only [Nat.zero_add, List.nil_append] at hown
      refine ⟨_, cap, by simp, ((Below.refl _ _).alloc (Nat.le_refl _) _).grown hgr (by simp) (fun k hk => by simp [Value.ownBlock] at hk; omega), ?_, .inr ⟨g, rfl, hg, hown⟩⟩
      rcases hown.2 with ⟨q, _⟩ | ⟨g', cap', cur, hv, _, _, hle, _⟩
      · cases q
      · obtain ⟨_, rfl⟩ : g = g' ∧ cap = cap' := by simpa using hv
        exact hle
set_option maxHeartbeats 1000000 in
theorem clone_block (a : Option Addr) (m c : Nat) (cs : List Value) (w : World) (hm : m < 2 ^ 40) (hl : cs.length = m * 32) (hcs : ∀ j u, cs[j]? = some u → ∃ b : Addr, a = some b ∧ b.block < w.heap.size ∧ w.cell? (b.add j) = some u)
    (h1 : ∀ u ∈ cs, u.oneCell' = true) (hnil : a = none → m = 0) :
    Calls Try.prog 41 #[.slice a m c] w fun e w' => ∃ a' c', e = .returned (.slice a' m c') ∧ Below w.heap.size w w' ∧ m ≤ c' ∧
      ((a' = none ∧ m = 0 ∧ c' = 0) ∨ ∃ g, a' = some ⟨g, 0, none⟩ ∧ w.heap.size ≤ g ∧ w'.ownsRow w.heap.size 63 32 (.slice (some ⟨g, 0, none⟩) m c') m cs) := by
  have hq := run_eql_slice_nil (P := Try.prog) w 51 63 a m c Try.underlying51
  cases a with
  | none =>
    have h0 : m = 0 := hnil rfl
    have H0 := Lib.hid h0
    clear h0 hcs hl h1 hnil
    go_enter Try.func41, Try.ntmps41
    go_wp2
    go_ret
    exact ⟨none, 0, by rw [H0.out]; rfl, Below.refl _ _, by rw [H0.out]; exact Nat.le_refl _, .inl ⟨rfl, H0.out, rfl⟩⟩
  | some b =>
    obtain ⟨i0, hi, hz0, hz1, hz2⟩ := info_parts blockInfo
    have HI := Lib.hid (And.intro hi (And.intro hz0 (And.intro hz1 hz2)))
    clear hi hz0 hz1 hz2
    rcases Nat.eq_zero_or_pos m with h0 | h0
    · subst h0
      have hcn : cs = [] := List.eq_nil_of_length_eq_zero (by simpa using hl)
      have HN := Lib.hid hcn
      clear hcn hcs hl h1 hnil
      go_enter Try.func41, Try.ntmps41
      go_wp2_with (refine wpList_append_run rfl (.tmp 5) (.tmp 6) 51 51 rfl _ _ _ rfl rfl (run_append_zero _ 51 51 63 i0 Try.underlying51 HI.out.1 rfl w.heap.size b c) ?_)
      go_ret
      refine ⟨_, _, rfl, (Below.refl _ _).alloc (Nat.le_refl _) _, Nat.le_refl _, .inr ⟨_, rfl, Nat.le_refl _, ?_⟩⟩
      rw [HN.out]
      exact owns_empty w _ _
    · have HD := Lib.hid (show ∀ j u, cs[j]? = some u → (w.alloc (.cells #[] 63)).cell? (b.add j) = some u from fun j u hu => by
          obtain ⟨b', hb, hlt, hc⟩ := hcs j u hu
          obtain rfl : b = b' := by simpa using hb
          rw [World.cell?_alloc_lt _ _ _ (by rw [add_block]; exact hlt)]
          exact hc)
      have HC := Lib.hid (And.intro hl (And.intro hcs h1))
      clear hl hcs h1 hnil
      go_enter Try.func41, Try.ntmps41
      go_wp2_with (first
       | (refine wpList_append_lies _ rfl (.tmp 5) (.tmp 6) 51 rfl w.heap.size 63 i0 _ 32 32 Try.underlying51 HI.out.1 HI.out.2.1 HI.out.2.2.1 HI.out.2.2.2 (by rfl) (by omega)
            (.slice (some ⟨w.heap.size, 0, none⟩) 0 0) 0 [] rfl (by exact owns_empty w _ _) b m c cs rfl HC.out.1 (by exact HD.out) HC.out.2.2 h0 (by unfold maxLen; omega) (by omega) (by simp) _ rfl ?_
          intro g cap w1 hown hgr hat hlt))
      go_ret
      have hg : w.heap.size ≤ g := by
        rcases hat with q | q
        · have : w.heap.size = g := by simpa [Value.ownBlock] using q
          omega
        · rw [q]; simp
      simp only [Nat.zero_add, List.nil_append] at hown
      refine ⟨_, cap, by simp, ((Below.refl _ _).alloc (Nat.le_refl _) _).grown hgr (by simp) (fun k hk => by simp [Value.ownBlock] at hk; omega), ?_, .inr ⟨g, rfl, hg, hown⟩⟩
      rcases hown.2 with ⟨q, _⟩ | ⟨g', cap', cur, hv, _, _, hle, _⟩
      · cases q
      · obtain ⟨_, rfl⟩ : g = g' ∧ cap = cap' := by simpa using hv
        exact hle
set_option maxHeartbeats 1000000 in
theorem clone_write (a : Option Addr) (m c : Nat) (cs : List Value) (w : World) (hm : m < 2 ^ 40) (hl : cs.length = m * 33) (hcs : ∀ j u, cs[j]? = some u → ∃ b : Addr, a = some b ∧ b.block < w.heap.size ∧ w.cell? (b.add j) = some u)
    (h1 : ∀ u ∈ cs, u.oneCell' = true) (hnil : a = none → m = 0) :
    Calls Try.prog 42 #[.slice a m c] w fun e w' => ∃ a' c', e = .returned (.slice a' m c') ∧ Below w.heap.size w w' ∧ m ≤ c' ∧
      ((a' = none ∧ m = 0 ∧ c' = 0) ∨ ∃ g, a' = some ⟨g, 0, none⟩ ∧ w.heap.size ≤ g ∧ w'.ownsRow w.heap.size 66 33 (.slice (some ⟨g, 0, none⟩) m c') m cs) := by
  have hq := run_eql_slice_nil (P := Try.prog) w 52 66 a m c Try.underlying52
  cases a with
  | none =>
    have h0 : m = 0 := hnil rfl
    have H0 := Lib.hid h0
    clear h0 hcs hl h1 hnil
    go_enter Try.func42, Try.ntmps42
    go_wp2
    go_ret
    exact ⟨none, 0, by rw [H0.out]; rfl, Below.refl _ _, by rw [H0.out]; exact Nat.le_refl _, .inl ⟨rfl, H0.out, rfl⟩⟩
  | some b =>
    obtain ⟨i0, hi, hz0, hz1, hz2⟩ := info_parts writeInfo
    have HI := Lib.hid (And.intro hi (And.intro hz0 (And.intro hz1 hz2)))
    clear hi hz0 hz1 hz2
    rcases Nat.eq_zero_or_pos m with h0 | h0
    · subst h0
      have hcn : cs = [] := List.eq_nil_of_length_eq_zero (by simpa using hl)
      have HN := Lib.hid hcn
      clear hcn hcs hl h1 hnil
      go_enter Try.func42, Try.ntmps42
      go_wp2_with (refine wpList_append_run rfl (.tmp 5) (.tmp 6) 52 52 rfl _ _ _ rfl rfl (run_append_zero _ 52 52 66 i0 Try.underlying52 HI.out.1 rfl w.heap.size b c) ?_)
      go_ret
      refine ⟨_, _, rfl, (Below.refl _ _).alloc (Nat.le_refl _) _, Nat.le_refl _, .inr ⟨_, rfl, Nat.le_refl _, ?_⟩⟩
      rw [HN.out]
      exact owns_empty w _ _
    · have HD := Lib.hid (show ∀ j u, cs[j]? = some u → (w.alloc (.cells #[] 66)).cell? (b.add j) = some u from fun j u hu => by
          obtain ⟨b', hb, hlt, hc⟩ := hcs j u hu
          obtain rfl : b = b' := by simpa using hb
          rw [World.cell?_alloc_lt _ _ _ (by rw [add_block]; exact hlt)]
          exact hc)
      have HC := Lib.hid (And.intro hl (And.intro hcs h1))
      clear hl hcs h1 hnil
      go_enter Try.func42, Try.ntmps42
      go_wp2_with (first
       | (refine wpList_append_lies _ rfl (.tmp 5) (.tmp 6) 52 rfl w.heap.size 66 i0 _ 33 40 Try.underlying52 HI.out.1 HI.out.2.1 HI.out.2.2.1 HI.out.2.2.2 (by rfl) (by omega)
            (.slice (some ⟨w.heap.size, 0, none⟩) 0 0) 0 [] rfl (by exact owns_empty w _ _) b m c cs rfl HC.out.1 (by exact HD.out) HC.out.2.2 h0 (by unfold maxLen; omega) (by omega) (by simp) _ rfl ?_
          intro g cap w1 hown hgr hat hlt))
      go_ret
      have hg : w.heap.size ≤ g := by
        rcases hat with q | q
        · have : w.heap.size = g := by simpa [Value.ownBlock] using q
          omega
        · rw [q]; simp
      simp only [Nat.zero_add, List.nil_append] at hown
      refine ⟨_, cap, by simp, ((Below.refl _ _).alloc (Nat.le_refl _) _).grown hgr (by simp) (fun k hk => by simp [Value.ownBlock] at hk; omega), ?_, .inr ⟨g, rfl, hg, hown⟩⟩
      rcases hown.2 with ⟨q, _⟩ | ⟨g', cap', cur, hv, _, _, hle, _⟩
      · cases q
      · obtain ⟨_, rfl⟩ : g = g' ∧ cap = cap' := by simpa using hv
        exact hle
end Go.Proofs.Ytobgcengijnffaa
