import Derived.Deep.Cut
import Derived.Test.YtbghglkplbnnkaaGreatDoorYHeapC
import Derived.Test.YtbghglkplbnnkaaGreatDoorYGcC
import Derived.Test.YtbghglkplbnnkaaGreatDoorYHeapB
import Derived.Test.YtbghglkplbnnkaaGreatDoorYGcA
set_option linter.unusedVariables false
set_option linter.unusedSimpArgs false
-- HeapRoots
namespace Go.Proofs.YtbghglkplbnnkaaGreatDoor
open Go.RowKit Sec
open Go.Proofs.YtbghglkplbnnkaaGreatDoor.Bk

section
variable {B : Nat} {w : World} {b g c : Nat} {h l : Int} {W : List Int}
set_option maxRecDepth 100000 in
set_option maxHeartbeats 2000000 in
theorem rroots_is (k : HIs B w b h l W g c) : Calls Tryz.prog 16 #[.pointer (some ⟨b, 0, none⟩)] w fun e w' => e = .returned (.slice (some ⟨g, 8, none⟩) 8 (c - 8)) ∧ w' = w := by
  obtain ⟨c0, c1, c2⟩ := k.cs
  have hge := k.ge
  obtain ⟨q, cc, e, hc, _⟩ := own_blk k.o (by omega)
  obtain ⟨rfl, rfl⟩ : g = q ∧ c = cc := by simpa using e
  have h16 : ¬ (c : Int) < 16 := by omega
  clear e hge
  go_enter Tryz.func16, Tryz.ntmps16
  go_wp2_with fail
  go_ret
  exact ⟨rfl, rfl⟩
structure CkS (w : World) (v : Value) (T : List Int) (u : World) : Prop where
  b : Below w.heap.size w u
  o : u.ownsRow w.heap.size 3 1 v T.length (vals T)
theorem CkS.next {v : Value} {T : List Int} {u u' : World} (x : CkS w v T u) (y : Below u.heap.size u u') : CkS w v T u' := ⟨geo_next x.b y, own_below x.o y⟩
theorem objs_ok {h l : Int} {W : List Int} (e : (objs h l W).2 = true) : hOk h l W = true := by
  cases q : hOk h l W
  · rw [objs, if_neg (by rw [q]; decide)] at e
    exact absurd e (by decide)
  · rfl
end
end Go.Proofs.YtbghglkplbnnkaaGreatDoor
-- HeapNode
namespace Go.Proofs.YtbghglkplbnnkaaGreatDoor
open Go.RowKit Sec
open Go.Proofs.YtbghglkplbnnkaaGreatDoor.Bk

structure NdF (p base : Nat) (w w' : World) (v v1 : Value) : Prop where
  b : ∀ q, q ≤ p → q ≤ base → Below q w w'
  same : ∀ k, k < w.heap.size → k ≠ p → v.ownBlock ≠ some k → w'.heap[k]? = w.heap[k]?
  blk : ∀ k, v1.ownBlock = some k → v.ownBlock = some k ∨ w.heap.size ≤ k
def NdPost (h l : Int) (W A : List Int) (a : Int) (p base : Nat) (v : Value) (w : World) (m : Int) (o : Bool) (w' : World) : Prop :=
  match nod h l W A a with
  | none => (m = 0 ∧ o = false) ∧ Below w.heap.size w w'
  | some (n, A1) => ∃ v1, (m = n ∧ o = true) ∧ w'.ownsRow base 3 1 v1 A1.length (vals A1) ∧ w'.cell? ⟨p, 0, none⟩ = some v1 ∧ w'.frozen? ⟨p, 0, none⟩ = false ∧ v1.ownBlock ≠ some p ∧ NdF p base w w' v v1
theorem w64_nd {x : Int} (h0 : -1000000 ≤ x) (h1 : x ≤ 1000000) : IntKind.i64.wrap x = x := by
  rw [IntKind.wrap_i64]
  omega
theorem cell_in {w : World} {a : Addr} {v : Value} (h : w.cell? a = some v) : a.block < w.heap.size := by
  rcases Nat.lt_or_ge a.block w.heap.size with q | q
  · exact q
  · unfold World.cell? at h
    rw [Array.getElem?_eq_none q] at h
    cases h
theorem idx_first {A : List Int} {k : Int} : ∀ {i : Nat}, i < A.length → A.getD i 0 = k → (∀ j, j < i → A.getD j 0 ≠ k) → A.idxOf k = i ∧ k ∈ A := by
  induction A with
  | nil => intro i h; exact absurd h (Nat.not_lt_zero i)
  | cons y r ih =>
    intro i hi e hj
    cases i with
    | zero =>
      have : y = k := e
      subst this
      exact ⟨by simp, List.mem_cons_self ..⟩
    | succ i =>
      have ne : y ≠ k := hj 0 (Nat.succ_pos i)
      obtain ⟨h1, h2⟩ := ih (i := i) (by simpa using hi) e (fun j q => hj (j + 1) (by omega))
      exact ⟨by rw [List.idxOf_cons, beq_eq_false_iff_ne.2 ne, h1]; rfl, List.mem_cons_of_mem _ h2⟩
theorem not_mem_getD {A : List Int} {k : Int} (h : ∀ j, j < A.length → A.getD j 0 ≠ k) : k ∉ A := fun q => by
  obtain ⟨j, hj, e⟩ := List.getElem_of_mem q
  refine h j hj ?_
  rw [List.getD_eq_getElem?_getD, List.getElem?_eq_getElem hj]
  exact e
theorem lk_range {h l : Int} {W : List Int} {a : Int} (hWl : (W.length : Int) = 16 + 2 * h) (e : (lk h l W a).2 = true) (n0 : (lk h l W a).1 ≠ 0) : hOk h l W = true ∧ ∃ n : Nat, (lk h l W a).1 = (n : Int) ∧ 16 ≤ n ∧ n < W.length ∧ (inB h (hSp W) (lk h l W a).1 = true ∨ inB h (1 - hSp W) (lk h l W a).1 = true) := by
  cases q1 : hOk h l W with
  | false =>
    rw [lk, if_pos q1] at e
    exact absurd e (by decide)
  | true =>
    obtain ⟨f1, f2, _⟩ := fine_yes q1
    have hq := geOk_yes f1
    have hm : 0 ≤ hSp W * h ∧ hSp W * h ≤ h ∧ 0 ≤ (1 - hSp W) * h ∧ (1 - hSp W) * h ≤ h := by rcases f2 with e | e <;> rw [e] <;> omega
    have key : inB h (hSp W) (lk h l W a).1 = true ∨ inB h (1 - hSp W) (lk h l W a).1 = true := by
      rw [lk, if_neg (by rw [q1]; decide)] at e n0 ⊢
      by_cases c : a = 0 ∨ inB h (hSp W) a = true
      · rw [if_pos c] at n0 ⊢
        exact .inl (c.resolve_left n0)
      · rw [if_neg c] at e n0 ⊢
        by_cases d : hGc W = 0 ∨ inB h (1 - hSp W) a = false
        · rw [if_pos d] at e
          exact absurd e (by decide)
        · rw [if_neg d] at e n0 ⊢
          have d1 : inB h (1 - hSp W) a = true := by
            cases x : inB h (1 - hSp W) a
            · exact absurd (.inr x) d
            · rfl
          by_cases f : fwOk (W.getD a.toNat 0) = true
          · rw [if_pos f] at e n0 ⊢
            by_cases i : inB h (hSp W) (fwA (W.getD a.toNat 0)) = true
            · rw [if_pos i]
              exact .inl i
            · rw [if_neg i] at e
              exact absurd e (by decide)
          · rw [if_neg f] at e n0 ⊢
            by_cases i : hdOk (W.getD a.toNat 0) = true ∧ a + 1 + prS (W.getD a.toNat 0) + prW (W.getD a.toNat 0) ≤ 16 + (1 - hSp W) * h + h
            · rw [if_pos i]
              exact .inr d1
            · rw [if_neg i] at e
              exact absurd e (by decide)
    refine ⟨rfl, (lk h l W a).1.toNat, ?_, ?_, ?_, key⟩
    all_goals
      rcases key with x | x
      all_goals
        have x := of_decide_eq_true x
        omega
theorem nd_push {w u w5 : World} {A : List Int} {p base g5 cap n5 : Nat} {va : Option Addr} {vc : Nat} {z : Int} {o : Obj} (own : w.ownsRow base 3 1 (.slice va A.length vc) A.length (vals A)) (hp : w.cell? ⟨p, 0, none⟩ = some (.slice va A.length vc)) (hpf : w.frozen? ⟨p, 0, none⟩ = false) (hne : (Value.slice va A.length vc).ownBlock ≠ some p) (hbs : base ≤ w.heap.size) (y : Below w.heap.size w u)
    (ho : w5.ownsRow base 3 1 (.slice (some ⟨g5, 0, none⟩) n5 cap) (A.length + 1) (vals A ++ [.int .i64 z])) (hg : (u.alloc o).grownBy w5 (Value.slice va A.length vc).ownBlock) (hat : (Value.slice va A.length vc).ownBlock = some g5 ∨ g5 = (u.alloc o).heap.size) :
    w5.cell? ⟨p, 0, none⟩ = some (.slice va A.length vc) ∧ w5.frozen? ⟨p, 0, none⟩ = false ∧ (w5.setCell ⟨p, 0, none⟩ (.slice (some ⟨g5, 0, none⟩) n5 cap)).ownsRow base 3 1 (.slice (some ⟨g5, 0, none⟩) n5 cap) (A.length + 1) (vals A ++ [.int .i64 z]) ∧
      (w5.setCell ⟨p, 0, none⟩ (.slice (some ⟨g5, 0, none⟩) n5 cap)).cell? ⟨p, 0, none⟩ = some (.slice (some ⟨g5, 0, none⟩) n5 cap) ∧ (w5.setCell ⟨p, 0, none⟩ (.slice (some ⟨g5, 0, none⟩) n5 cap)).frozen? ⟨p, 0, none⟩ = false ∧ (Value.slice (some ⟨g5, 0, none⟩) n5 cap).ownBlock ≠ some p ∧ NdF p base w (w5.setCell ⟨p, 0, none⟩ (.slice (some ⟨g5, 0, none⟩) n5 cap)) (.slice va A.length vc) (.slice (some ⟨g5, 0, none⟩) n5 cap) := by
  have hpl : p < w.heap.size := cell_in hp
  have ys := y.size
  have as1 : (u.alloc o).heap.size = u.heap.size + 1 := by simp
  have h5 := hg.size
  have pb : w5.heap[p]? = w.heap[p]? := by
    rw [hg.block p (by omega) (fun e => hne e.symm), ((Below.refl u.heap.size u).alloc (Nat.le_refl _) o).block p (by omega), y.block p hpl]
  have c5 : w5.cell? ⟨p, 0, none⟩ = some (.slice va A.length vc) := (World.cell?_of_block (a := ⟨p, 0, none⟩) pb).trans hp
  have f5 : w5.frozen? ⟨p, 0, none⟩ = false := (World.frozen?_of_block (a := ⟨p, 0, none⟩) pb).trans hpf
  have gp : g5 ≠ p := by
    rcases hat with q | q
    · intro e
      rw [e] at q
      exact hne q
    · omega
  have nb : (Value.slice (some ⟨g5, 0, none⟩) n5 cap).ownBlock = some g5 ∨ (Value.slice (some ⟨g5, 0, none⟩) n5 cap).ownBlock = none := by
    simp [Value.ownBlock]
  have set_o : ∀ k, k ≠ p → (w5.setCell ⟨p, 0, none⟩ (.slice (some ⟨g5, 0, none⟩) n5 cap)).heap[k]? = w5.heap[k]? := fun k q => heap_setCell_other _ ⟨p, 0, none⟩ _ _ (fun e => q e)
  refine ⟨c5, f5, hb_same ho (fun k e => set_o k (fun q => ?_)), World.cell?_setCell_same _ _ _ c5, by rw [World.frozen?_setCell]; exact f5, fun e => ?_, ?_⟩
  · rcases nb with q2 | q2
    · rw [q2] at e
      exact gp (by simpa [q] using e)
    · rw [q2] at e
      cases e
  · rcases nb with q2 | q2
    · rw [q2] at e
      exact gp (by simpa using e)
    · rw [q2] at e
      cases e
  · refine ⟨fun q h1 h2 => ?_, fun k hk hkp hko => ?_, fun k hk => ?_⟩
    · exact (((y.mono (by omega)).alloc (by omega) _).grown hg (by omega) (fun k e => Nat.le_trans h2 (own.lt k e).1)).setCell (p := ⟨p, 0, none⟩) h1 _
    · rw [set_o k hkp, hg.block k (by omega) (fun e => hko e.symm), ((Below.refl u.heap.size u).alloc (Nat.le_refl _) o).block k (by omega), y.block k hk]
    · rcases nb with q2 | q2
      · rw [q2] at hk
        obtain rfl : g5 = k := by simpa using hk
        rcases hat with q | q
        · exact .inl q
        · right; omega
      · rw [q2] at hk
        cases hk
section
variable {B : Nat} {w : World} {b g c : Nat} {h l : Int} {W A : List Int} {p base : Nat} {v : Value}
set_option maxRecDepth 100000 in
set_option maxHeartbeats 8000000 in
theorem rnode_is (k : HIs B w b h l W g c) (hWl : (W.length : Int) = 16 + 2 * h) (hr : Ints64 W) (own : w.ownsRow base 3 1 v A.length (vals A)) (hp : w.cell? ⟨p, 0, none⟩ = some v) (hpf : w.frozen? ⟨p, 0, none⟩ = false) (hlen : A.length ≤ 900) (hne : v.ownBlock ≠ some p) (hbs : base ≤ w.heap.size) (a : Int) :
    Calls Tryz.prog 40 #[.pointer (some ⟨b, 0, none⟩), .pointer (some ⟨p, 0, none⟩), .int .i64 a, .int .i64 (hSp W), .int .i64 (hFr W)] w fun e w' => ∃ (m : Int) (o : Bool), e = .returned (.tuple #[.int .i64 m, .bool o]) ∧ NdPost h l W A a p base v w m o w' := by
  obtain ⟨i0, hi, hz0, hz1, hz2⟩ := info_parts (show (Tryz.prog.info? 3).map (fun i => (i.zero, i.size, i.bytes)) = some (some (.int .i64 0), 1, 8) by kernel_rfl)
  have HI := Lib.hid (And.intro hi (And.intro hz0 (And.intro hz1 hz2)))
  clear hi hz0 hz1 hz2
  have hpl : p < w.heap.size := cell_in hp
  have HLk := Lib.hid (rlook_is k hWl hr a)
  have stay : ∀ w', Below w.heap.size w w' → w'.ownsRow base 3 1 v A.length (vals A) ∧ w'.cell? ⟨p, 0, none⟩ = some v ∧ w'.frozen? ⟨p, 0, none⟩ = false ∧ v.ownBlock ≠ some p ∧ NdF p base w w' v v := fun w' y =>
    ⟨own_below own y, (y.cell (p := ⟨p, 0, none⟩) hpl).trans hp, (y.frozen (p := ⟨p, 0, none⟩) hpl).trans hpf, hne, fun q h1 _ => y.mono (by omega), fun k hk _ _ => y.block k hk, fun k hk => .inl hk⟩
  cases q1 : (lk h l W a).2 with
  | false =>
    have eN : nod h l W A a = none := if_pos q1
    have HQ : Hid (∀ w', Below w.heap.size w w' → NdPost h l W A a p base v w 0 false w') := Lib.hid (fun w' y => by
      unfold NdPost
      rw [eN]
      exact ⟨⟨rfl, rfl⟩, y⟩)
    rw [q1] at HLk
    generalize NdPost h l W A a p base v w = Q at *
    clear k own hp hpf hr stay
    generalize (lk h l W a).1 = ka at *
    generalize hSp W = x0 at *
    generalize hFr W = x1 at *
    go_enter Tryz.func40, Tryz.ntmps40
    go_wp2_with (go_at_call 47; refine HLk.out.mono ?_; rintro e w1 ⟨rfl, b1⟩; have H1 := Lib.hid b1; clear b1)
    all_goals go_ret2
    all_goals exact ⟨_, _, rfl, HQ.out _ H1.out⟩
  | true =>
    have eK : lk h l W a = ((lk h l W a).1, true) := by rw [← q1]
    have eN := nod_eq (at_ := A) eK
    rw [q1] at HLk
    by_cases k0 : (lk h l W a).1 = 0
    · rw [if_pos k0] at eN
      have HQ : Hid (∀ w', Below w.heap.size w w' → NdPost h l W A a p base v w 0 true w') := Lib.hid (fun w' y => by
        unfold NdPost
        rw [eN]
        exact ⟨v, ⟨rfl, rfl⟩, stay w' y⟩)
      rw [k0] at HLk
      generalize NdPost h l W A a p base v w = Q at *
      clear k own hp hpf hr stay eK eN k0 q1
      generalize hSp W = x0 at *
      generalize hFr W = x1 at *
      go_enter Tryz.func40, Tryz.ntmps40
      go_wp2_with (go_at_call 47; refine HLk.out.mono ?_; rintro e w1 ⟨rfl, b1⟩; have H1 := Lib.hid b1; clear b1)
      all_goals go_ret2
      all_goals exact ⟨_, _, rfl, HQ.out _ H1.out⟩
    rw [if_neg k0] at eN
    obtain ⟨ok, n, en, n16, nl, hrg⟩ := lk_range hWl q1 k0
    rw [en] at HLk eN hrg
    obtain ⟨f1, f2, fa, f4, fb⟩ := fine_yes ok
    have hq := geOk_yes f1
    clear fa fb
    have f3 : (1 - hSp W) = 0 ∨ (1 - hSp W) = 1 := by omega
    have hm : 0 ≤ hSp W * h ∧ hSp W * h ≤ h ∧ 0 ≤ (1 - hSp W) * h ∧ (1 - hSp W) * h ≤ h := by rcases f2 with e | e <;> rw [e] <;> omega
    have hpr := shOk_yes (pr_range (W.getD n 0))
    obtain ⟨va, vc, rfl⟩ := owns_slice own
    have HQf : Hid (∀ i, i < A.length → A.getD i 0 = (n : Int) → (∀ j, j < i → A.getD j 0 ≠ (n : Int)) → ∀ w', Below w.heap.size w w' → NdPost h l W A a p base (.slice va A.length vc) w ((i : Int) + 1) true w') := Lib.hid (fun i hi e hj w' y => by
      obtain ⟨i1, i2⟩ := idx_first hi e hj
      unfold NdPost
      rw [eN, if_pos i2, i1]
      exact ⟨_, ⟨rfl, rfl⟩, stay w' y⟩)
    have HQn : Hid ((n : Int) ∉ A → nodB h W (n : Int) = false → ∀ w', Below w.heap.size w w' → NdPost h l W A a p base (.slice va A.length vc) w 0 false w') := Lib.hid (fun hA hN w' y => by
      unfold NdPost
      rw [eN, if_neg hA, if_neg (by rw [hN]; decide)]
      exact ⟨⟨rfl, rfl⟩, y⟩)
    have HQa : Hid ((n : Int) ∉ A → nodB h W (n : Int) = true → ∀ v1 w', w'.ownsRow base 3 1 v1 (A.length + 1) (vals A ++ [.int .i64 (n : Int)]) → w'.cell? ⟨p, 0, none⟩ = some v1 → w'.frozen? ⟨p, 0, none⟩ = false → v1.ownBlock ≠ some p → NdF p base w w' (.slice va A.length vc) v1 → NdPost h l W A a p base (.slice va A.length vc) w ((A.length : Int) + 1) true w') := Lib.hid (fun hA hN v1 w' o1 o2 o3 o4 o5 => by
      unfold NdPost
      rw [eN, if_neg hA, if_pos hN]
      refine ⟨v1, ⟨rfl, rfl⟩, ?_, o2, o3, o4, o5⟩
      rw [List.length_append, List.length_singleton]
      simpa [vals] using o1)
    have HIu := Lib.hid (fun u (y : Below w.heap.size w u) => rin_is (k.below y) f1 (hSp W) f2 (n : Int))
    have HIo := Lib.hid (fun u (y : Below w.heap.size w u) => rin_is (k.below y) f1 (1 - hSp W) f3 (n : Int))
    have HB := Lib.hid (fun u => rbase_is h l (1 - hSp W) f1 f3 u)
    rw [ge_base f1 f3] at HB
    have HPa := Lib.hid (rparse_is (W.getD n 0))
    have HP := Lib.hid (fun u (y : Below w.heap.size w u) => (show u.cell? ⟨p, 0, none⟩ = some (.slice va A.length vc) ∧ u.frozen? ⟨p, 0, none⟩ = false from ⟨(y.cell (p := ⟨p, 0, none⟩) hpl).trans hp, (y.frozen (p := ⟨p, 0, none⟩) hpl).trans hpf⟩))
    have HD := Lib.hid (fun u (y : Below w.heap.size w u) => (show u.cell? ⟨b, 0, none⟩ = some (.int .i64 h) ∧ u.cell? ⟨b, 1, none⟩ = some (.int .i64 l) ∧ u.cell? ⟨b, 2, none⟩ = some (.slice (some ⟨g, 0, none⟩) W.length c) from ⟨(k.below y).cs.1, (k.below y).cs.2.1, (k.below y).cs.2.2⟩))
    have HC := Lib.hid (fun u (y : Below w.heap.size w u) => ((k.below y).at nl).1)
    have HO := Lib.hid own
    have hNB : nodB h W (n : Int) = ((inB h (hSp W) (n : Int) || inB h (1 - hSp W) (n : Int)) && (hdOk (W.getD n 0) && decide ((n : Int) + 1 + prS (W.getD n 0) + prW (W.getD n 0) ≤ (if inB h (hSp W) (n : Int) = true then hFr W else 16 + (1 - hSp W) * h + h)))) := by rw [nodB, Int.toNat_natCast]
    have hWi : (W.length : Int) ≤ 1000 := by have := k.le; omega
    have hAi : (A.length : Int) ≤ 900 := by omega
    have hn00 : ((n : Int) == 0) = false := beq_eq_false_iff_ne.2 (by omega)
    have hni : (n : Int) < (W.length : Int) := by omega
    have hfr : 0 ≤ hFr W ∧ hFr W ≤ 1000 := by omega
    have hn16 : (16 : Int) ≤ (n : Int) := by omega
    have hsp : 0 ≤ hSp W ∧ hSp W ≤ 1 := by omega
    have he1 : 0 ≤ 16 + (1 - hSp W) * h ∧ 16 + (1 - hSp W) * h ≤ 500 := by omega
    have hh : 8 ≤ h ∧ h ≤ 400 := by omega
    clear stay eK eN q1 k0 en ok hr own hp hpf f1 f2 f3 f4 hq hm hWl
    have HNB := Lib.hid hNB
    clear hNB
    generalize nodB h W (n : Int) = nb at *
    generalize NdPost h l W A a p base (.slice va A.length vc) w = Q at *
    generalize prS (W.getD n 0) = ps at *
    generalize prW (W.getD n 0) = pw at *
    generalize hdOk (W.getD n 0) = hd at *
    generalize W.getD n 0 = hv at *
    generalize inB h (hSp W) (n : Int) = q2 at *
    generalize inB h (1 - hSp W) (n : Int) = q3 at *
    generalize 16 + (1 - hSp W) * h = bs at *
    generalize hFr W = fr at *
    generalize hSp W = sp at *
    have HWs : Hid (IntKind.i64.wrap ((n : Int) + 1) = (n : Int) + 1 ∧ IntKind.i64.wrap ((n : Int) + 1 + ps) = (n : Int) + 1 + ps ∧ IntKind.i64.wrap ((n : Int) + 1 + ps + pw) = (n : Int) + 1 + ps + pw ∧ IntKind.i64.wrap (1 - sp) = 1 - sp ∧ IntKind.i64.wrap (bs + h) = bs + h) := Lib.hid ⟨w64_nd (by omega) (by omega), w64_nd (by omega) (by omega), w64_nd (by omega) (by omega), w64_nd (by omega) (by omega), w64_nd (by omega) (by omega)⟩
    go_enter Tryz.func40, Tryz.ntmps40
    go_wp2_with (go_at_call 47; refine HLk.out.mono ?_; rintro e w1 ⟨rfl, b1⟩; have H1 := Lib.hid b1; clear b1)
    go_loopw [14] (fun i wr => ∃ k : Nat, k ≤ A.length ∧ i = .int .i64 (k : Int) ∧ Hid (∀ j, j < k → A.getD j 0 ≠ (n : Int)) ∧ Hid (Below w.heap.size w wr)) (fun i _ => A.length - (intOf i).toNat)
    case atStart => exact ⟨0, Nat.zero_le _, rfl, Lib.hid (fun j hj => absurd hj (Nat.not_lt_zero j)), H1⟩
    case round =>
      clear H1 HLk
      obtain ⟨i, hi, rfl, HN, HW⟩ := hrel
      obtain ⟨p0, pf⟩ := HP.out _ HW.out
      by_cases hlt : i < A.length
      · have hiI : (i : Int) < (A.length : Int) := by omega
        obtain ⟨g7, q7, e7, _, _, _⟩ := own_blk HO.out (by omega)
        obtain ⟨rfl, rfl⟩ : va = some ⟨g7, 0, none⟩ ∧ vc = q7 := by simpa using e7
        have c7 := (owns_cell (own_below HO.out HW.out) (show (vals A)[i]? = some (.int .i64 (A.getD i 0)) by simp [vals, hlt])).1
        by_cases hA : A.getD i 0 = (n : Int)
        · have hb1 : (A.getD i 0 == (n : Int)) = true := beq_iff_eq.2 hA
          have hQ := Lib.hid (HQf.out i hlt hA HN.out)
          clear HQf HQn HQa hA HN
          generalize A.getD i 0 = x at *
          go_wp2_with fail
          go_ret2
          exact ⟨_, _, rfl, hQ.out _ HW.out⟩
        · have hb1 : (A.getD i 0 == (n : Int)) = false := beq_eq_false_iff_ne.2 hA
          have HA := Lib.hid hA
          have hb2 : ¬ A.getD i 0 = (n : Int) := hA
          clear hA HQf HQn HQa
          generalize A.getD i 0 = x at c7 hb1 hb2
          go_wp2_with fail
          refine ⟨⟨i + 1, by omega, by go_num, Lib.hid (fun j hj => ?_), HW⟩, by simp [intOf]; omega⟩
          by_cases e : j = i
          · rw [e]; exact HA.out
          · exact HN.out j (by omega)
      · obtain rfl : i = A.length := by omega
        have hno := not_mem_getD HN.out
        have hnl : ¬ (A.length : Int) < (A.length : Int) := by omega
        obtain ⟨c0, c1, c2⟩ := HD.out _ HW.out
        have hA1 : A.length + 1 ≤ maxLen := by unfold maxLen; omega
        have hA2 : (A.length + 1) * 8 ≤ 140737488355328 := by omega
        have hn0 : ¬ (n : Int) < 0 := by omega
        have hn1 : ¬ (W.length : Int) ≤ (n : Int) := by omega
        cases q2 with
        | true =>
          by_cases hfit : hd = true ∧ (n : Int) + 1 + ps + pw ≤ fr
          · obtain ⟨rfl, hf⟩ := hfit
            have hnf : ¬ fr < (n : Int) + 1 + ps + pw := by omega
            have hQ := Lib.hid (HQa.out hno (by rw [HNB.out, decide_eq_true (by first | exact hf | (simp only [if_true, if_false, reduceIte, Bool.false_eq_true]; exact hf))]; rfl))
            clear HQn HQa HQf HNB
            obtain ⟨hw1, hw2, hw3, hw4, hw5⟩ := HWs.out
            go_upto_region 19 with (first
            | (go_at_call 48; with_reducible refine (HIu.out _ HW.out).mono ?_; rintro e w2 ⟨rfl, b2⟩; have H2 := Lib.hid (geo_next HW.out b2); clear b2 p0 pf c0 c1 c2; obtain ⟨p0, pf⟩ := HP.out _ H2.out; obtain ⟨c0, c1, c2⟩ := HD.out _ H2.out; have c3 := HC.out _ H2.out)
            | (go_at_call 48; with_reducible refine (HIu.out _ H2.out).mono ?_; rintro e w3 ⟨rfl, b3⟩; have H3 := Lib.hid (geo_next H2.out b3); clear b3 p0 pf c0 c1 c2 c3; obtain ⟨p0, pf⟩ := HP.out _ H3.out; obtain ⟨c0, c1, c2⟩ := HD.out _ H3.out; have c3 := HC.out _ H3.out)
            | (go_at_call 41; refine (HPa.out _).mono ?_; rintro e w' ⟨rfl, hw⟩; obtain rfl : w3 = w' := hw.symm))
            clear hw1 hw2 hw3 hw4 hw5
            go_wp2_with (refine wpList_append_lies _ rfl (.tmp 119) (.tmp 121) 24 rfl base 3 i0 _ 1 8 Tryz.underlying24 HI.out.1 HI.out.2.1 HI.out.2.2.1 HI.out.2.2.2 rfl (by decide) (.slice va A.length vc) A.length (vals A) rfl ((own_below HO.out H3.out).alloc _) _ 1 1 [.int .i64 (n : Int)] rfl rfl (by exact World.news_of_block (heap_alloc_last _ _)) (by intro u hu; simp at hu; rw [hu]; rfl) (by decide) hA1 hA2 (Nat.le_trans hbs (Nat.le_trans H3.out.size (by simp))) _ rfl ?_; intro g5 cap w5 hown5 hgr5 hat5 hlt5; have HY := Lib.hid (nd_push HO.out (HP.out _ (Below.refl _ _)).1 (HP.out _ (Below.refl _ _)).2 hne hbs H3.out hown5 hgr5 hat5); clear hown5 hgr5 hat5 hlt5 p0 pf c0 c1 c2 c3; obtain ⟨p0, pf, _⟩ := HY.out)
            go_ret2
            exact ⟨_, _, rfl, hQ.out _ _ HY.out.2.2.1 HY.out.2.2.2.1 HY.out.2.2.2.2.1 HY.out.2.2.2.2.2.1 HY.out.2.2.2.2.2.2⟩
          · have hQ := Lib.hid (HQn.out hno (by
              rw [HNB.out]
              cases hd
              · simp
              · have : ¬ (n : Int) + 1 + ps + pw ≤ fr := fun x => hfit ⟨rfl, x⟩
                rw [decide_eq_false (by first | exact this | (simp only [if_true, if_false, reduceIte, Bool.false_eq_true]; exact this))]
                simp))
            clear HQn HQa HQf HNB
            have hgt : hd = true → fr < (n : Int) + 1 + ps + pw := fun e => by
              have : ¬ (n : Int) + 1 + ps + pw ≤ fr := fun x => hfit ⟨e, x⟩
              omega
            cases hd
            all_goals
              try (have hgt2 := hgt rfl)
              clear hgt
              obtain ⟨hw1, hw2, hw3, hw4, hw5⟩ := HWs.out
              go_wp2_with (first
                | (go_at_call 48; with_reducible refine (HIu.out _ HW.out).mono ?_; rintro e w2 ⟨rfl, b2⟩; have H2 := Lib.hid (geo_next HW.out b2); clear b2 p0 pf c0 c1 c2; obtain ⟨p0, pf⟩ := HP.out _ H2.out; obtain ⟨c0, c1, c2⟩ := HD.out _ H2.out; have c3 := HC.out _ H2.out)
                | (go_at_call 48; with_reducible refine (HIu.out _ H2.out).mono ?_; rintro e w3 ⟨rfl, b3⟩; have H3 := Lib.hid (geo_next H2.out b3); clear b3 p0 pf c0 c1 c2 c3; obtain ⟨p0, pf⟩ := HP.out _ H3.out; obtain ⟨c0, c1, c2⟩ := HD.out _ H3.out; have c3 := HC.out _ H3.out)
                | (go_at_call 41; refine (HPa.out _).mono ?_; rintro e w' ⟨rfl, hw⟩; obtain rfl : w3 = w' := hw.symm)
                | fail)
              go_ret2
              exact ⟨_, _, rfl, hQ.out _ H3.out⟩
        | false =>
          obtain rfl : q3 = true := hrg.resolve_left (by decide)
          by_cases hfit : hd = true ∧ (n : Int) + 1 + ps + pw ≤ bs + h
          · obtain ⟨rfl, hf⟩ := hfit
            have hnf : ¬ bs + h < (n : Int) + 1 + ps + pw := by omega
            have hQ := Lib.hid (HQa.out hno (by rw [HNB.out, if_neg (by decide), decide_eq_true hf]; rfl))
            clear HQn HQa HQf HNB
            obtain ⟨hw1, hw2, hw3, hw4, hw5⟩ := HWs.out
            go_upto_region 13 with (go_at_call 48; with_reducible refine (HIu.out _ HW.out).mono ?_; rintro e w2 ⟨rfl, b2⟩; have H2 := Lib.hid (geo_next HW.out b2); clear b2 p0 pf c0 c1 c2; obtain ⟨c0, c1, c2⟩ := HD.out _ H2.out)
            go_region_held3 (fun u => (u.cell? ⟨b, 0, none⟩ = some (.int .i64 h) ∧ u.cell? ⟨b, 1, none⟩ = some (.int .i64 l)) ∧ Below w.heap.size w u) (first
                | assumption
                | exact ⟨⟨(HD.out _ H2.out).1, (HD.out _ H2.out).2.1⟩, H2.out⟩
                | exact ⟨⟨(HD.out _ H2.out.drew).1, (HD.out _ H2.out.drew).2.1⟩, H2.out.drew⟩
                | exact ⟨⟨(HD.out _ (geo_next (by assumption : _ ∧ Below w.heap.size w _).2 b4)).1, (HD.out _ (geo_next (by assumption : _ ∧ Below w.heap.size w _).2 b4)).2.1⟩, geo_next (by assumption : _ ∧ Below w.heap.size w _).2 b4⟩) (first
              | (go_at_call 76; refine (HB.out _).mono ?_; rintro e w4 ⟨rfl, b4⟩))
            rename_i hH
            have H4 := Lib.hid hH.2
            clear hH c0 c1 c2
            obtain ⟨p0, pf⟩ := HP.out _ H4.out
            obtain ⟨c0, c1, c2⟩ := HD.out _ H4.out
            have c3 := HC.out _ H4.out
            go_upto_region 19 with (first
              | (go_at_call 48; with_reducible refine (HIu.out _ H4.out).mono ?_; rintro e w5 ⟨rfl, b5⟩; have H5 := Lib.hid (geo_next H4.out b5); clear b5 p0 pf c0 c1 c2 c3; obtain ⟨p0, pf⟩ := HP.out _ H5.out; obtain ⟨c0, c1, c2⟩ := HD.out _ H5.out; have c3 := HC.out _ H5.out)
              | (go_at_call 48; with_reducible refine (HIo.out _ H5.out).mono ?_; rintro e w6 ⟨rfl, b6⟩; have H6 := Lib.hid (geo_next H5.out b6); clear b6 p0 pf c0 c1 c2 c3; obtain ⟨p0, pf⟩ := HP.out _ H6.out; obtain ⟨c0, c1, c2⟩ := HD.out _ H6.out; have c3 := HC.out _ H6.out)
              | (go_at_call 41; refine (HPa.out _).mono ?_; rintro e w' ⟨rfl, hw⟩; obtain rfl : w6 = w' := hw.symm))
            clear hw1 hw2 hw3 hw4 hw5
            go_wp2_with (refine wpList_append_lies _ rfl (.tmp 119) (.tmp 121) 24 rfl base 3 i0 _ 1 8 Tryz.underlying24 HI.out.1 HI.out.2.1 HI.out.2.2.1 HI.out.2.2.2 rfl (by decide) (.slice va A.length vc) A.length (vals A) rfl ((own_below HO.out H6.out).alloc _) _ 1 1 [.int .i64 (n : Int)] rfl rfl (by exact World.news_of_block (heap_alloc_last _ _)) (by intro u hu; simp at hu; rw [hu]; rfl) (by decide) hA1 hA2 (Nat.le_trans hbs (Nat.le_trans H6.out.size (by simp))) _ rfl ?_; intro g5 cap w5 hown5 hgr5 hat5 hlt5; have HY := Lib.hid (nd_push HO.out (HP.out _ (Below.refl _ _)).1 (HP.out _ (Below.refl _ _)).2 hne hbs H6.out hown5 hgr5 hat5); clear hown5 hgr5 hat5 hlt5 p0 pf c0 c1 c2 c3; obtain ⟨p0, pf, _⟩ := HY.out)
            go_ret2
            exact ⟨_, _, rfl, hQ.out _ _ HY.out.2.2.1 HY.out.2.2.2.1 HY.out.2.2.2.2.1 HY.out.2.2.2.2.2.1 HY.out.2.2.2.2.2.2⟩
          · have hQ := Lib.hid (HQn.out hno (by
              rw [HNB.out, if_neg (by decide)]
              cases hd
              · simp
              · have : ¬ (n : Int) + 1 + ps + pw ≤ bs + h := fun x => hfit ⟨rfl, x⟩
                rw [decide_eq_false this]
                simp))
            clear HQn HQa HQf HNB
            have hgt : hd = true → bs + h < (n : Int) + 1 + ps + pw := fun e => by
              have : ¬ (n : Int) + 1 + ps + pw ≤ bs + h := fun x => hfit ⟨e, x⟩
              omega
            cases hd
            all_goals
              try (have hgt2 := hgt rfl)
              clear hgt
              obtain ⟨hw1, hw2, hw3, hw4, hw5⟩ := HWs.out
              go_upto_region 13 with (go_at_call 48; with_reducible refine (HIu.out _ HW.out).mono ?_; rintro e w2 ⟨rfl, b2⟩; have H2 := Lib.hid (geo_next HW.out b2); clear b2 p0 pf c0 c1 c2; obtain ⟨c0, c1, c2⟩ := HD.out _ H2.out)
              go_region_held3 (fun u => (u.cell? ⟨b, 0, none⟩ = some (.int .i64 h) ∧ u.cell? ⟨b, 1, none⟩ = some (.int .i64 l)) ∧ Below w.heap.size w u) (first
                  | assumption
                  | exact ⟨⟨(HD.out _ H2.out).1, (HD.out _ H2.out).2.1⟩, H2.out⟩
                  | exact ⟨⟨(HD.out _ H2.out.drew).1, (HD.out _ H2.out.drew).2.1⟩, H2.out.drew⟩
                  | exact ⟨⟨(HD.out _ (geo_next (by assumption : _ ∧ Below w.heap.size w _).2 b4)).1, (HD.out _ (geo_next (by assumption : _ ∧ Below w.heap.size w _).2 b4)).2.1⟩, geo_next (by assumption : _ ∧ Below w.heap.size w _).2 b4⟩) (first
                | (go_at_call 76; refine (HB.out _).mono ?_; rintro e w4 ⟨rfl, b4⟩))
              rename_i hH
              have H4 := Lib.hid hH.2
              clear hH c0 c1 c2
              obtain ⟨p0, pf⟩ := HP.out _ H4.out
              obtain ⟨c0, c1, c2⟩ := HD.out _ H4.out
              have c3 := HC.out _ H4.out
              go_wp2_with (first
                | (go_at_call 48; with_reducible refine (HIu.out _ H4.out).mono ?_; rintro e w5 ⟨rfl, b5⟩; have H5 := Lib.hid (geo_next H4.out b5); clear b5 p0 pf c0 c1 c2 c3; obtain ⟨p0, pf⟩ := HP.out _ H5.out; obtain ⟨c0, c1, c2⟩ := HD.out _ H5.out; have c3 := HC.out _ H5.out)
                | (go_at_call 48; with_reducible refine (HIo.out _ H5.out).mono ?_; rintro e w6 ⟨rfl, b6⟩; have H6 := Lib.hid (geo_next H5.out b6); clear b6 p0 pf c0 c1 c2 c3; obtain ⟨p0, pf⟩ := HP.out _ H6.out; obtain ⟨c0, c1, c2⟩ := HD.out _ H6.out; have c3 := HC.out _ H6.out)
                | (go_at_call 41; refine (HPa.out _).mono ?_; rintro e w' ⟨rfl, hw⟩; obtain rfl : w6 = w' := hw.symm))
              go_ret2
              exact ⟨_, _, rfl, hQ.out _ H6.out⟩
end
end Go.Proofs.YtbghglkplbnnkaaGreatDoor
