/- PageTorn's walk. -/
import Derived.Test.YtkffcnnbglficaaPageTwo
import Derived.Test.YtkffcnnbglficaaBookStore
namespace Go.Proofs.Ytkffcnnbglficaa
open Go.RowKit
open Go.Proofs.Ytkffcnnbglficaa.Bk

/-- What the law's loop holds: the two pages, and the torn one so far. -/
structure Torn (w wr : World) (g3 g4 gt ct : Nat) (A B T : List ByteArray) (al : Bool) : Prop where
  below : Below w.heap.size w wr
  a : RowAt wr g3 0 A
  b : RowAt wr g4 0 B
  t : wr.ownsRow w.heap.size 9 1 (.slice (some ⟨gt, 0, none⟩) 3 ct) 3 (txts T)
  lA : A.length = 3
  lB : B.length = 3
  lT : T.length = 3
  ne : g3 ≠ gt ∧ g4 ≠ gt ∧ w.heap.size ≤ gt ∧ 3 ≤ ct
  al : al = true → T = A
theorem Torn.drew {w wr : World} {g3 g4 gt ct : Nat} {A B T : List ByteArray} {al : Bool} (h : Torn w wr g3 g4 gt ct A B T al) (n : Nat) : Torn w (wr.drewN n) g3 g4 gt ct A B T al :=
  ⟨bel_drewN h.below n, h.a.drew n, h.b.drew n, owns_below h.t (drew_below _ n), h.lA, h.lB, h.lT, h.ne, h.al⟩
theorem row_other {w : World} {g o q k : Nat} {l : List ByteArray} (h : RowAt w g o l) (hne : g ≠ q) (x : Value) : RowAt (w.setCell ⟨q, k, none⟩ x) g o l :=
  lies_other h (fun b hb => by obtain rfl : (⟨g, o, none⟩ : Addr) = b := by simpa using hb
                               exact hne) x
theorem txts_set (l : List ByteArray) (k : Nat) (x : ByteArray) : (txts l).set k (.string x) = txts (l.set k x) := by simp [txts]
/-- One sector of the other page. -/
theorem Torn.put {w wr : World} {g3 g4 gt ct : Nat} {A B T : List ByteArray} {al : Bool} (h : Torn w wr g3 g4 gt ct A B T al) (k : Nat) (hA : k < A.length) (hB : k < B.length) (al' : Bool) (ha : al' = true → al = true ∧ A[k] = B[k]) :
    Torn w (wr.setCell ⟨gt, k, none⟩ (.string B[k])) g3 g4 gt ct A B (T.set k B[k]) al' := by
  refine ⟨h.below.setCell (p := ⟨gt, k, none⟩) h.ne.2.2.1 _, row_other h.a h.ne.1 _, row_other h.b h.ne.2.1 _, ?_, h.lA, h.lB, by rw [List.length_set]; exact h.lT, h.ne, fun q => ?_⟩
  · rw [← txts_set]
    exact owns_set h.t k _
  · obtain ⟨q1, q2⟩ := ha q
    rw [h.al q1, ← q2, List.set_getElem_self]
theorem Torn.keep {w wr : World} {g3 g4 gt ct : Nat} {A B T : List ByteArray} {al : Bool} (h : Torn w wr g3 g4 gt ct A B T al) (k : Nat) (hA : k < A.length) (hB : k < B.length) :
    wr.cell? ⟨g3, k, none⟩ = some (.string A[k]) ∧ wr.cell? ⟨g4, k, none⟩ = some (.string B[k]) ∧ (∃ y, wr.cell? ⟨gt, k, none⟩ = some (.string y)) ∧ wr.frozen? ⟨gt, k, none⟩ = false := by
  have e1 := h.a.cell k A[k] (by simp [hA])
  have e2 := h.b.cell k B[k] (by simp [hB])
  rw [Nat.zero_add] at e1 e2
  have hT : k < T.length := by rw [h.lT, ← h.lA]; exact hA
  have := owns_cell h.t (k := k) (x := .string T[k]) (by simp [txts, hT])
  exact ⟨e1, e2, ⟨_, this.1⟩, this.2⟩

theorem Torn.row {w wr : World} {g3 g4 gt ct : Nat} {A B T : List ByteArray} {al : Bool} (h : Torn w wr g3 g4 gt ct A B T al) : RowAt wr gt 0 T := by
  obtain ⟨g, c, hv, hl⟩ := own_some h.t (by omega)
  obtain ⟨rfl, rfl⟩ : gt = g ∧ ct = c := by simpa using hv
  exact hl
theorem getC_len (l : List ByteArray) : (getC l).length ≤ 16 := by
  unfold getC
  split
  · rw [nums_len]; exact Nat.le_refl _
  · exact Nat.zero_le _

set_option maxRecDepth 100000 in
set_option maxHeartbeats 4000000 in
theorem Torn_ok (no v u : Int) (a b : Option Addr) (la lb : List Int) (c1 c2 : Nat) (mix : Int) (w : World) (ha : LiesAt w a (vals la)) (hb : LiesAt w b (vals lb)) (ok1 : pgOk no v (padL la) = true) (ok2 : pgOk no u (padL lb) = true) :
    Calls Try.prog 3 #[.int .i64 no, .int .i64 v, .int .i64 u, .slice a la.length c1, .slice b lb.length c2, .int .i64 mix] w fun e w' => e = .returned (.bool true) ∧ Below w.heap.size w w' := by
  have hB : Hid (Below w.heap.size w w) := Lib.hid (Below.refl _ _)
  obtain ⟨i0, hi, hz0, hz1, hz2⟩ := sl_info pg_strInfo
  have HI := Lib.hid (And.intro hi (And.intro hz0 (And.intro hz1 hz2)))
  clear hi hz0 hz1 hz2
  have HA := Lib.hid (fun z => alive_is z)
  have HSA := Lib.hid (fun z (q : Below w.heap.size w z) => sixteen_is a la c1 z (ha.below q))
  have HSB := Lib.hid (fun z (q : Below w.heap.size w z) => sixteen_is b lb c2 z (hb.below q))
  have L1 := Lib.hid (padL_len la)
  have L2 := Lib.hid (padL_len lb)
  have HP1 := Lib.hid (fun (g c : Nat) z (q : LiesAt z (some ⟨g, 0, none⟩) (vals (padL la))) => pput_is no v _ (padL la) c z q (by rw [L1.out]; unfold maxLen; omega))
  have HP2 := Lib.hid (fun (g c : Nat) z (q : LiesAt z (some ⟨g, 0, none⟩) (vals (padL lb))) => pput_is no u _ (padL lb) c z q (by rw [L2.out]; unfold maxLen; omega))
  rw [ok1, L1.out] at HP1
  rw [ok2, L2.out] at HP2
  have HN := Lib.hid (get_put ok1)
  have LA := Lib.hid (show (pgL no v (padL la)).length = 3 by rw [pgL_yes ok1]; rfl)
  have LB := Lib.hid (show (pgL no u (padL lb)).length = 3 by rw [pgL_yes ok2]; rfl)
  rw [LA.out] at HP1
  rw [LB.out] at HP2
  clear ok1 ok2 ha hb
  generalize pgL no v (padL la) = A at *
  generalize pgL no u (padL lb) = B at *
  generalize padL la = ca at *
  generalize padL lb = cb at *
  go_enter Try.func3, Try.ntmps3
  go_wp2_with (first
    | (go_at_call 5
       with_reducible refine (HSA.out _ hB.out).mono ?_
       rintro e w1 ⟨x, rfl, b1, o1⟩
       obtain ⟨g1, d1, rfl, l1⟩ := own_some o1 (show 0 < 16 by omega)
       have HRA := Lib.hid l1
       replace hB := Lib.hid (below_next hB.out b1)
       clear b1 o1 l1)
    | (go_at_call 5
       with_reducible refine (HSB.out _ hB.out).mono ?_
       rintro e w1 ⟨x, rfl, b1, o1⟩
       obtain ⟨g2, d2, rfl, l1⟩ := own_some o1 (show 0 < 16 by omega)
       have HRB := Lib.hid l1
       replace HRA := Lib.hid (LiesAt.below HRA.out b1)
       replace hB := Lib.hid (below_next hB.out b1)
       clear b1 o1 l1)
    | (go_at_call 6
       refine (HA.out _).mono ?_
       rintro e w1 ⟨rfl, b1⟩
       replace HRA := Lib.hid (LiesAt.below HRA.out b1)
       replace HRB := Lib.hid (LiesAt.below HRB.out b1)
       replace hB := Lib.hid (below_next hB.out b1)
       clear b1)
    | (go_at_call 7
       with_reducible refine (HP1.out _ _ _ HRA.out).mono ?_
       rintro e w1 ⟨x, rfl, b1, o1⟩
       obtain ⟨g3, d3, rfl, l1⟩ := own_some o1 (show 0 < 3 by omega)
       have HRX := Lib.hid (show RowAt _ g3 0 A from l1)
       replace HRB := Lib.hid (LiesAt.below HRB.out b1)
       replace hB := Lib.hid (below_next hB.out b1)
       clear b1 o1 l1)
    | (go_at_call 7
       with_reducible refine (HP2.out _ _ _ HRB.out).mono ?_
       rintro e w1 ⟨x, rfl, b1, o1⟩
       obtain ⟨g4, d4, rfl, l1⟩ := own_some o1 (show 0 < 3 by omega)
       have HRY := Lib.hid (show RowAt _ g4 0 B from l1)
       replace HRX := Lib.hid (show RowAt _ g3 0 A from LiesAt.below HRX.out b1)
       replace hB := Lib.hid (below_next hB.out b1)
       clear b1 o1 l1)
    | (refine wpList_append_copy rfl (.tmp 72) 25 rfl 9 i0 _ 1 16 Try.underlying25 HI.out.1 HI.out.2.1 HI.out.2.2.1 HI.out.2.2.2 rfl (by omega) (by omega) (some ⟨g3, 0, none⟩) 3 d3 (txts A) rfl (fun j u hu => by obtain ⟨b, q1, _, q3⟩ := HRX.out j u hu; exact ⟨b, q1, q3⟩) (by rw [txts, List.length_map]; exact LA.out) (fun u hu => by obtain ⟨x, _, rfl⟩ := List.mem_map.1 hu; rfl) (by decide) ?_
       intro vt w1 b1 o1
       obtain ⟨gt, dt, rfl, hc, l1⟩ := own_somec o1 (show 0 < 3 by omega)
       have hgt := (o1.lt gt rfl).1
       have hg3 := HRX.out.block (by rw [LA.out]; omega)
       have hg4 := HRY.out.block (by rw [LB.out]; omega)
       have HT := Lib.hid (show Torn w w1 g3 g4 gt dt A B A true from ⟨below_next hB.out b1, LiesAt.below HRX.out b1, LiesAt.below HRY.out b1, owns_mono hB.out.size o1, LA.out, LB.out, LA.out, ⟨by omega, by omega, Nat.le_trans hB.out.size hgt, hc⟩, fun _ => rfl⟩)
       clear b1 o1 hc l1 hgt hg3 hg4))
  any_goals (go_ret; exact ⟨rfl, hB.out⟩)
  go_loopw [18, 19] (fun al i wr => ∃ (k : Nat) (alb : Bool) (T : List ByteArray), k ≤ 3 ∧ i = .int .i64 (k : Int) ∧ al = .bool alb ∧ Hid (Torn w wr g3 g4 gt dt A B T alb)) (fun _ i _ => 3 - (intOf i).toNat)
  case atStart => exact ⟨0, true, A, Nat.zero_le _, rfl, rfl, HT⟩
  case round =>
    obtain ⟨k, alb, T, hk, rfl, rfl, HF⟩ := hrel
    by_cases hlt : k < 3
    · have hi1 : (k : Int) < 3 := by omega
      have kA : k < A.length := by rw [LA.out]; exact hlt
      have kB : k < B.length := by rw [LB.out]; exact hlt
      obtain ⟨e1, e2, ⟨y, e3⟩, e4⟩ := HF.out.keep k kA kB
      cases alb with
      | true =>
        have HZ := Lib.hid (fun n => (HF.out.drew n).put k kA kB (A[k].toList == B[k].toList) (fun q => ⟨rfl, str_ext (beq_iff_eq.1 q)⟩))
        generalize A[k] = x at *
        generalize B[k] = z at *
        clear kA kB
        go_wp2_with fail
        · go_quiet (fail)
          go_wp2
          exact ⟨⟨k + 1, _, _, by omega, by go_num, rfl, HZ.out _⟩, by simp [intOf]; omega⟩
        · exact ⟨⟨k + 1, _, _, by omega, by go_num, rfl, HF⟩, by simp [intOf]; omega⟩
      | false =>
        have HZ := Lib.hid (fun n => (HF.out.drew n).put k kA kB false (fun q => by cases q))
        generalize A[k] = x at *
        generalize B[k] = z at *
        clear kA kB
        go_wp2_with fail
        · go_quiet (fail)
          go_wp2
          exact ⟨⟨k + 1, _, _, by omega, by go_num, rfl, HZ.out _⟩, by simp [intOf]; omega⟩
        · exact ⟨⟨k + 1, _, _, by omega, by go_num, rfl, HF⟩, by simp [intOf]; omega⟩
    · obtain rfl : k = 3 := by omega
      have hn : ¬ (3 : Int) < 3 := by omega
      have HG := Lib.hid (fun z (q : RowAt z gt 0 T) => pget3 gt 0 T dt z q HF.out.lT HF.out.ne.2.2.2)
      have HD := Lib.hid (fun z (q : RowAt z gt 0 T) => rpaged3 gt 0 T dt z q HF.out.lT HF.out.ne.2.2.2)
      have HZ := Lib.hid (show (getC T).length ≤ maxLen from Nat.le_trans (getC_len T) (by unfold maxLen; omega))
      have HE := Lib.hid (And.intro HF.out.below HF.out.row)
      clear hlt hk
      cases alb with
      | true =>
        obtain rfl := HF.out.al rfl
        obtain ⟨h1, h2, h3, h4⟩ := HN.out
        rw [h1, h2] at HG HD
        clear h1 h2 h3 h4 HF HT
        generalize getC T = gc at *
        generalize getV T = gv at *
        go_wp2_with (first
          | (go_at_call 8
             refine (HG.out _ (HE.out.2)).mono ?_
             rintro e w1 ⟨x, rfl, b1, o1⟩
             obtain ⟨ax, cx, rfl, l1, _⟩ := own_form o1
             have HL := Lib.hid l1
             replace HE := Lib.hid (And.intro (below_next HE.out.1 b1) (show RowAt _ gt 0 T from LiesAt.below HE.out.2 b1))
             clear b1 o1 l1)
          | (go_at_call 9
             refine (HD.out _ (HE.out.2)).mono ?_
             rintro e w1 ⟨x, rfl, b1, o1⟩
             obtain ⟨ay, cy, rfl, l1, _⟩ := own_form o1
             replace HL := Lib.hid (And.intro (LiesAt.below HL.out b1) l1)
             replace HE := Lib.hid (below_next HE.out.1 b1)
             clear b1 o1 l1)
          | (go_at_call 10
             refine (SameInts_is _ _ _ _ _ _ _ HL.out.1 HL.out.2 HZ.out HZ.out true ⟨fun _ => rfl, fun _ => rfl⟩).mono ?_
             rintro e w1 ⟨rfl, m1, rfl⟩))
        all_goals
          go_ret
          exact ⟨rfl, bel_drewN HE.out _⟩
      | false =>
        clear HF HT
        generalize pgIs T = pb at *
        generalize getC T = gc at *
        generalize getV T = gv at *
        generalize getN T = gn at *
        cases pb with
        | true =>
          go_wp2_with (first
            | (go_at_call 8
               refine (HG.out _ (HE.out.2)).mono ?_
               rintro e w1 ⟨x, rfl, b1, o1⟩
               obtain ⟨ax, cx, rfl, l1, _⟩ := own_form o1
               have HL := Lib.hid l1
               replace HE := Lib.hid (And.intro (below_next HE.out.1 b1) (show RowAt _ gt 0 T from LiesAt.below HE.out.2 b1))
               clear b1 o1 l1)
            | (go_at_call 9
               refine (HD.out _ (HE.out.2)).mono ?_
               rintro e w1 ⟨x, rfl, b1, o1⟩
               obtain ⟨ay, cy, rfl, l1, _⟩ := own_form o1
               replace HL := Lib.hid (And.intro (LiesAt.below HL.out b1) l1)
               replace HE := Lib.hid (below_next HE.out.1 b1)
               clear b1 o1 l1)
            | (go_at_call 10
               refine (SameInts_is _ _ _ _ _ _ _ HL.out.1 HL.out.2 HZ.out HZ.out true ⟨fun _ => rfl, fun _ => rfl⟩).mono ?_
               rintro e w1 ⟨rfl, m1, rfl⟩))
          all_goals
            go_ret
            exact ⟨rfl, bel_drewN HE.out _⟩
        | false =>
          go_wp2_with (first
            | (go_at_call 8
               refine (HG.out _ (HE.out.2)).mono ?_
               rintro e w1 ⟨x, rfl, b1, o1⟩
               obtain ⟨ax, cx, rfl, l1, _⟩ := own_form o1
               have HL := Lib.hid l1
               replace HE := Lib.hid (And.intro (below_next HE.out.1 b1) (show RowAt _ gt 0 T from LiesAt.below HE.out.2 b1))
               clear b1 o1 l1)
            | (go_at_call 9
               refine (HD.out _ (HE.out.2)).mono ?_
               rintro e w1 ⟨x, rfl, b1, o1⟩
               obtain ⟨ay, cy, rfl, l1, _⟩ := own_form o1
               replace HL := Lib.hid (And.intro (LiesAt.below HL.out b1) l1)
               replace HE := Lib.hid (below_next HE.out.1 b1)
               clear b1 o1 l1)
            | (go_at_call 10
               refine (SameInts_is _ _ _ _ _ _ _ HL.out.1 HL.out.2 HZ.out HZ.out true ⟨fun _ => rfl, fun _ => rfl⟩).mono ?_
               rintro e w1 ⟨rfl, m1, rfl⟩))
          all_goals
            go_ret
            exact ⟨rfl, bel_drewN HE.out _⟩

set_option maxRecDepth 100000 in
set_option maxHeartbeats 2000000 in
theorem Torn_bad1 (no v u : Int) (a b : Option Addr) (la lb : List Int) (c1 c2 : Nat) (mix : Int) (w : World) (ha : LiesAt w a (vals la)) (hb : LiesAt w b (vals lb)) (ok1 : pgOk no v (padL la) = false) :
    Calls Try.prog 3 #[.int .i64 no, .int .i64 v, .int .i64 u, .slice a la.length c1, .slice b lb.length c2, .int .i64 mix] w fun e w' => e = .returned (.bool true) ∧ Below w.heap.size w w' := by
  have hB : Hid (Below w.heap.size w w) := Lib.hid (Below.refl _ _)
  have HA := Lib.hid (fun z => alive_is z)
  have HSA := Lib.hid (fun z (q : Below w.heap.size w z) => sixteen_is a la c1 z (ha.below q))
  have HSB := Lib.hid (fun z (q : Below w.heap.size w z) => sixteen_is b lb c2 z (hb.below q))
  have L1 := Lib.hid (padL_len la)
  have L2 := Lib.hid (padL_len lb)
  have HP1 := Lib.hid (fun (g c : Nat) z (q : LiesAt z (some ⟨g, 0, none⟩) (vals (padL la))) => pput_is no v _ (padL la) c z q (by rw [L1.out]; unfold maxLen; omega))
  have HP2 := Lib.hid (fun (g c : Nat) z (q : LiesAt z (some ⟨g, 0, none⟩) (vals (padL lb))) => pput_is no u _ (padL lb) c z q (by rw [L2.out]; unfold maxLen; omega))
  rw [L1.out] at HP1
  rw [L2.out] at HP2
  rw [ok1] at HP1
  generalize pgOk no u (padL lb) = o2 at *
  clear ha hb
  try clear ok1
  try clear ok2
  generalize pgL no v (padL la) = pl at *
  generalize pgL no u (padL lb) = ql at *
  generalize padL la = ca at *
  generalize padL lb = cb at *
  go_enter Try.func3, Try.ntmps3
  go_wp2_with (first
    | (go_at_call 5
       with_reducible refine (HSA.out _ hB.out).mono ?_
       rintro e w1 ⟨x, rfl, b1, o1⟩
       obtain ⟨g1, d1, rfl, l1⟩ := own_some o1 (show 0 < 16 by omega)
       have HRA := Lib.hid l1
       replace hB := Lib.hid (below_next hB.out b1)
       clear b1 o1 l1)
    | (go_at_call 5
       with_reducible refine (HSB.out _ hB.out).mono ?_
       rintro e w1 ⟨x, rfl, b1, o1⟩
       obtain ⟨g2, d2, rfl, l1⟩ := own_some o1 (show 0 < 16 by omega)
       have HRB := Lib.hid l1
       replace HRA := Lib.hid (LiesAt.below HRA.out b1)
       replace hB := Lib.hid (below_next hB.out b1)
       clear b1 o1 l1)
    | (go_at_call 7
       with_reducible refine (HP1.out _ _ _ HRA.out).mono ?_
       rintro e w1 ⟨x, rfl, b1, o1⟩
       replace HRB := Lib.hid (LiesAt.below HRB.out b1)
       replace hB := Lib.hid (below_next hB.out b1)
       clear b1 o1)
    | (go_at_call 7
       with_reducible refine (HP2.out _ _ _ HRB.out).mono ?_
       rintro e w1 ⟨x, rfl, b1, o1⟩
       replace hB := Lib.hid (below_next hB.out b1)
       clear b1 o1)
    | (go_at_call 6
       refine (HA.out _).mono ?_
       rintro e w1 ⟨rfl, b1⟩
       replace HRA := Lib.hid (LiesAt.below HRA.out b1)
       replace HRB := Lib.hid (LiesAt.below HRB.out b1)
       replace hB := Lib.hid (below_next hB.out b1)
       clear b1))
  all_goals
    go_ret
    exact ⟨rfl, hB.out⟩
set_option maxRecDepth 100000 in
set_option maxHeartbeats 2000000 in
theorem Torn_bad2 (no v u : Int) (a b : Option Addr) (la lb : List Int) (c1 c2 : Nat) (mix : Int) (w : World) (ha : LiesAt w a (vals la)) (hb : LiesAt w b (vals lb)) (ok1 : pgOk no v (padL la) = true) (ok2 : pgOk no u (padL lb) = false) :
    Calls Try.prog 3 #[.int .i64 no, .int .i64 v, .int .i64 u, .slice a la.length c1, .slice b lb.length c2, .int .i64 mix] w fun e w' => e = .returned (.bool true) ∧ Below w.heap.size w w' := by
  have hB : Hid (Below w.heap.size w w) := Lib.hid (Below.refl _ _)
  have HA := Lib.hid (fun z => alive_is z)
  have HSA := Lib.hid (fun z (q : Below w.heap.size w z) => sixteen_is a la c1 z (ha.below q))
  have HSB := Lib.hid (fun z (q : Below w.heap.size w z) => sixteen_is b lb c2 z (hb.below q))
  have L1 := Lib.hid (padL_len la)
  have L2 := Lib.hid (padL_len lb)
  have HP1 := Lib.hid (fun (g c : Nat) z (q : LiesAt z (some ⟨g, 0, none⟩) (vals (padL la))) => pput_is no v _ (padL la) c z q (by rw [L1.out]; unfold maxLen; omega))
  have HP2 := Lib.hid (fun (g c : Nat) z (q : LiesAt z (some ⟨g, 0, none⟩) (vals (padL lb))) => pput_is no u _ (padL lb) c z q (by rw [L2.out]; unfold maxLen; omega))
  rw [L1.out] at HP1
  rw [L2.out] at HP2
  rw [ok1] at HP1
  rw [ok2] at HP2
  clear ha hb
  try clear ok1
  try clear ok2
  generalize pgL no v (padL la) = pl at *
  generalize pgL no u (padL lb) = ql at *
  generalize padL la = ca at *
  generalize padL lb = cb at *
  go_enter Try.func3, Try.ntmps3
  go_wp2_with (first
    | (go_at_call 5
       with_reducible refine (HSA.out _ hB.out).mono ?_
       rintro e w1 ⟨x, rfl, b1, o1⟩
       obtain ⟨g1, d1, rfl, l1⟩ := own_some o1 (show 0 < 16 by omega)
       have HRA := Lib.hid l1
       replace hB := Lib.hid (below_next hB.out b1)
       clear b1 o1 l1)
    | (go_at_call 5
       with_reducible refine (HSB.out _ hB.out).mono ?_
       rintro e w1 ⟨x, rfl, b1, o1⟩
       obtain ⟨g2, d2, rfl, l1⟩ := own_some o1 (show 0 < 16 by omega)
       have HRB := Lib.hid l1
       replace HRA := Lib.hid (LiesAt.below HRA.out b1)
       replace hB := Lib.hid (below_next hB.out b1)
       clear b1 o1 l1)
    | (go_at_call 7
       with_reducible refine (HP1.out _ _ _ HRA.out).mono ?_
       rintro e w1 ⟨x, rfl, b1, o1⟩
       replace HRB := Lib.hid (LiesAt.below HRB.out b1)
       replace hB := Lib.hid (below_next hB.out b1)
       clear b1 o1)
    | (go_at_call 7
       with_reducible refine (HP2.out _ _ _ HRB.out).mono ?_
       rintro e w1 ⟨x, rfl, b1, o1⟩
       replace hB := Lib.hid (below_next hB.out b1)
       clear b1 o1)
    | (go_at_call 6
       refine (HA.out _).mono ?_
       rintro e w1 ⟨rfl, b1⟩
       replace HRA := Lib.hid (LiesAt.below HRA.out b1)
       replace HRB := Lib.hid (LiesAt.below HRB.out b1)
       replace hB := Lib.hid (below_next hB.out b1)
       clear b1))
  all_goals
    go_ret
    exact ⟨rfl, hB.out⟩

theorem Torn_walk (no v u : Int) (a b : Option Addr) (la lb : List Int) (c1 c2 : Nat) (mix : Int) (w : World) (ha : LiesAt w a (vals la)) (hb : LiesAt w b (vals lb)) :
    Calls Try.prog 3 #[.int .i64 no, .int .i64 v, .int .i64 u, .slice a la.length c1, .slice b lb.length c2, .int .i64 mix] w fun e w' => e = .returned (.bool true) ∧ Below w.heap.size w w' := by
  cases ok1 : pgOk no v (padL la) with
  | false => exact Torn_bad1 no v u a b la lb c1 c2 mix w ha hb ok1
  | true =>
    cases ok2 : pgOk no u (padL lb) with
    | false => exact Torn_bad2 no v u a b la lb c1 c2 mix w ha hb ok1 ok2
    | true => exact Torn_ok no v u a b la lb c1 c2 mix w ha hb ok1 ok2
end Go.Proofs.Ytkffcnnbglficaa
