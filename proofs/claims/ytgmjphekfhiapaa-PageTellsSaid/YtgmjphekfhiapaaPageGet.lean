/- Package page: Get and At. -/
import Derived.Test.YtgmjphekfhiapaaPageMath
namespace Go.Proofs.Ytgmjphekfhiapaa
open Go.RowKit
open Go.Proofs.Ytgmjphekfhiapaa.Bk

theorem join_bytes (l : List ByteArray) : (⟨(Lib.join (l.map (·.data.toList)) (ByteArray.mk #[]).data.toList).toArray⟩ : ByteArray) = joinB l := ba_ext (by
  rw [joinB_list]
  cases l with
  | nil => rfl
  | cons x l =>
    rw [List.map_cons, Lib.join_cons]
    simp [Lib.joinTail]
    rfl)
/-- Texts in cells of a row. -/
def RowAt (w : World) (g o : Nat) (l : List ByteArray) : Prop := LiesAt w (some ⟨g, o, none⟩) (txts l)
theorem RowAt.cell {w : World} {g o : Nat} {l : List ByteArray} (h : RowAt w g o l) (j : Nat) (x : ByteArray) (hj : l[j]? = some x) : w.cell? ⟨g, o + j, none⟩ = some (.string x) := by
  obtain ⟨b, h1, h2, h3⟩ := h j (.string x) (by simp [txts, hj])
  obtain rfl : (⟨g, o, none⟩ : Addr) = b := by simpa using h1
  rwa [Addr.add_mid] at h3
theorem RowAt.block {w : World} {g o : Nat} {l : List ByteArray} (h : RowAt w g o l) (hl : 0 < l.length) : g < w.heap.size := by
  obtain ⟨b, h1, h2, h3⟩ := h 0 (.string l[0]) (by simp [txts, hl])
  obtain rfl : (⟨g, o, none⟩ : Addr) = b := by simpa using h1
  exact h2
theorem RowAt.getD {w : World} {g o : Nat} {l : List ByteArray} (h : RowAt w g o l) (j : Nat) (hj : j < l.length) : w.cell? ⟨g, o + j, none⟩ = some (.string (l.getD j ByteArray.empty)) :=
  h.cell j _ (by simp [hj])
theorem own_some {w : World} {base : Nat} {e : TypeId} {v : Value} {n : Nat} {xs : List Value} (h : w.ownsRow base e 1 v n xs) (hn : 0 < n) : ∃ (g c : Nat), v = .slice (some ⟨g, 0, none⟩) n c ∧ LiesAt w (some ⟨g, 0, none⟩) xs := by
  obtain ⟨a, c, rfl, hl, h' | ⟨g, rfl, _⟩⟩ := own_form h
  · have hx : 0 < xs.length := by rw [h.1]; omega
    obtain ⟨b, hb, _⟩ := hl 0 xs[0] (List.getElem?_eq_getElem hx)
    rw [h'] at hb
    cases hb
  · exact ⟨g, c, rfl, hl⟩
theorem Equal_is (g1 o1 c1 g2 o2 c2 : Nat) (l1 l2 : List ByteArray) (w : World) (h1 : RowAt w g1 o1 l1) (h2 : RowAt w g2 o2 l2) (m1 : l1.length = 3) (m2 : l2.length = 3) (t : Bool) (ht : t = true ↔ l1 = l2) :
    Calls Try.prog 33 #[.slice (some ⟨g1, o1, none⟩) 3 c1, .slice (some ⟨g2, o2, none⟩) 3 c2] w fun e w' => e = .returned (.bool t) ∧ Below w.heap.size w w' := by
  refine (Try.slices_Equal_string g1 o1 3 c1 g2 o2 3 c2 l1 l2 w (by omega) (by omega) (by omega) (by omega) (fun j hj => h1.getD j hj) (fun j hj => h2.getD j hj)).mono ?_
  rintro e w' ⟨rfl, q, rfl⟩
  refine ⟨ret_bool ?_, bel_draws _ _ _⟩
  rw [List.take_of_length_le (by omega), List.take_of_length_le (by omega)]
  cases t
  · exact decide_eq_false (fun q => by have := ht.2 q; cases this)
  · exact decide_eq_true (ht.1 rfl)
theorem Join_is (g o c : Nat) (l : List ByteArray) (w : World) (h : RowAt w g o l) (h3 : l.length = 3) (hs : (joinB l).size = 96) (hc : 3 ≤ c) :
    Calls Try.prog 32 #[.slice (some ⟨g, o, none⟩) 3 c, .string ⟨#[]⟩] w fun e w' => e = .returned (.string (joinB l)) ∧ Below w.heap.size w w' := by
  have := Try.strings_Join g o c l ⟨#[]⟩ w (fun j x hx => h.cell j x hx) (h.block (by omega)) (by omega) (by omega) (by
    have e := congrArg ByteArray.size (join_bytes l)
    rw [← ba_len] at e
    simp only at e
    rw [e, hs]; omega)
  rw [h3, join_bytes l] at this
  exact this
theorem pg_neq {l : List ByteArray} (h3 : l.length = 3) (ha : l.any outT = false) (hok : pgOk (numAt (joinB l) 0) (numAt (joinB l) 1) (nums (joinB l)) = true) : (pgIs l = true ↔ parts (pgB (numAt (joinB l) 0) (numAt (joinB l) 1) (nums (joinB l))) = l) := by
  have hs : (joinB l).size = 96 := by rw [joinB_size l ha, h3]
  have hb := pgB_size (numAt (joinB l) 0) (numAt (joinB l) 1) (nums (joinB l)) (nums_len _)
  constructor
  · intro h
    obtain ⟨_, _, _, h4⟩ := of_decide_eq_true h
    rw [h4]
    exact parts_join l h3 ha
  · intro h
    refine decide_eq_true ⟨h3, ha, hok, ?_⟩
    have := join_parts _ hb
    rw [h] at this
    exact this.symm

theorem results_tmp4 {fn : Func} {t u v x : Tmp} (h : fn.results = #[.tmp t, .tmp u, .tmp v, .tmp x]) (tmps : Array Value) (P : Program) (w : World) :
    (results fn tmps).run P w = .ok (.tuple #[tmps.getD t undef, tmps.getD u undef, tmps.getD v undef, tmps.getD x undef]) w := by
  simp [results, h]
theorem pg_bad {l : List ByteArray} (h : ¬ (l.length = 3 ∧ l.any outT = false ∧ pgOk (numAt (joinB l) 0) (numAt (joinB l) 1) (nums (joinB l)) = true)) : pgIs l = false := decide_eq_false (fun q => h ⟨q.1, q.2.1, q.2.2.1⟩)

set_option maxRecDepth 100000 in
set_option maxHeartbeats 2000000 in
theorem pget_is (a : Option Addr) (l : List ByteArray) (c : Nat) (w : World) (h : LiesAt w a (txts l)) (hl : l.length ≤ maxLen) (hf : l.length = 3 → 3 ≤ c ∧ ∃ g o, a = some ⟨g, o, none⟩) :
    Calls Try.prog 12 #[.slice a l.length c] w fun e w' => ∃ x, e = .returned (.tuple #[.int .i64 (getN l), .int .i64 (getV l), x, .bool (pgIs l)]) ∧ Below w.heap.size w w' ∧ w'.ownsRow w.heap.size 3 1 x (getC l).length (vals (getC l)) := by
  have hB : Hid (Below w.heap.size w w) := Lib.hid (Below.refl _ _)
  have HC := Lib.hid (fun u (q : LiesAt u a (txts l)) => containsFT a l c u q hl)
  by_cases h3 : l.length = 3
  · by_cases ha : l.any outT = false
    · obtain ⟨hc3, g, o, rfl⟩ := hf h3
      have hs : (joinB l).size = 96 := by rw [joinB_size l ha, h3]
      rw [ha, h3] at HC
      have HJ := Lib.hid (fun u (q : RowAt u g o l) => Join_is g o c l u q h3 hs hc3)
      have HN := Lib.hid (fun u => numbersOf_is (joinB l) hs u)
      have hnl := nums_len (joinB l)
      have H := Lib.hid (show RowAt w g o l from h)
      have H3 := Lib.hid h3
      by_cases hok : pgOk (numAt (joinB l) 0) (numAt (joinB l) 1) (nums (joinB l)) = true
      · have HQ := Lib.hid (pg_neq h3 ha hok)
        have HP := Lib.hid (fun (a1 : Option Addr) (c1 : Nat) u (q : LiesAt u a1 (vals (nums (joinB l)))) => pput_is (numAt (joinB l) 0) (numAt (joinB l) 1) a1 (nums (joinB l)) c1 u q (by rw [hnl]; unfold maxLen; omega))
        rw [hok, hnl, pgL_yes hok] at HP
        have HE := Lib.hid (fun (g1 c1 : Nat) (l1 : List ByteArray) u (q1 : RowAt u g1 0 l1) (m1 : l1.length = 3) (q2 : RowAt u g o l) (t : Bool) (ht : t = true ↔ l1 = l) => Equal_is g1 0 c1 g o c l1 l u q1 q2 m1 h3 t ht)
        have hl3 : (l.length : Int) = 3 := by omega
        have HV := Lib.hid (And.intro (get_yes (l := l)) (get_no (l := l)))
        generalize numAt (joinB l) 0 = n0 at *
        generalize numAt (joinB l) 1 = n1 at *
        generalize nums (joinB l) = ns at *
        generalize joinB l = s at *
        rw [h3]
        clear hok hs hc3 h hl hf ha h3
        generalize hpl : parts (pgB n0 n1 ns) = pl at *
        have hpl3 : pl.length = 3 := by rw [← hpl]; rfl
        rw [hpl3] at HP
        have HPL := Lib.hid hpl3
        have HNS := Lib.hid hnl
        clear hpl hpl3 hnl hl3
        by_cases hi : pgIs l = true
        · obtain ⟨e1, e2, e3⟩ := HV.out.1 hi
          rw [e1, e2, e3, hi, HNS.out]
          have HQT := Lib.hid (HQ.out.1 hi)
          clear e1 e2 e3 HQ HV hi HNS
          go_enter Try.func12, Try.ntmps12
          go_wp2_with (first
            | (go_at_call 29; refine (HC.out _ (H.out.below hB.out)).mono ?_; rintro e w1 ⟨rfl, rfl⟩)
            | (go_at_call 32; refine (HJ.out _ (H.out.below hB.out)).mono ?_; rintro e w1 ⟨rfl, b1⟩; replace hB := Lib.hid (below_next hB.out b1); clear b1)
            | (go_at_call 31
               refine (HN.out _).mono ?_
               rintro e w1 ⟨v, rfl, b1, o1⟩
               obtain ⟨a1, c1, rfl, l1, _⟩ := own_form o1
               have HO := Lib.hid (And.intro (owns_mono hB.out.size o1) l1)
               replace hB := Lib.hid (below_next hB.out b1)
               clear b1 o1 l1)
            | (go_at_call 7
               refine (HP.out _ _ _ HO.out.2).mono ?_
               rintro e w1 ⟨v, rfl, b1, o1⟩
               obtain ⟨g1, c2, rfl, l2⟩ := own_some o1 (by omega)
               replace HO := Lib.hid (And.intro (owns_below HO.out.1 b1) l2)
               replace hB := Lib.hid (below_next hB.out b1)
               clear b1 o1 l2)
            | (go_at_call 33
               refine (HE.out _ _ pl _ HO.out.2 HPL.out (H.out.below hB.out) true ⟨fun _ => HQT.out, fun _ => rfl⟩).mono ?_
               rintro e w1 ⟨rfl, b1⟩
               replace HO := Lib.hid (owns_below HO.out.1 b1)
               replace hB := Lib.hid (below_next hB.out b1)
               clear b1))
          (try simp only [Exit.inBlock, Exit.then])
          refine bodyPost_ret (results_tmp4 rfl _ _ _) rfl ?_
          exact ⟨_, rfl, hB.out, HO.out⟩
        · have hi : pgIs l = false := by simpa using hi
          obtain ⟨e1, e2, e3⟩ := HV.out.2 hi
          rw [e1, e2, e3, hi]
          have HQT : Hid (¬ pl = l) := Lib.hid (fun q => by have := HQ.out.2 q; rw [hi] at this; cases this)
          clear e1 e2 e3 HQ HV hi HNS
          go_enter Try.func12, Try.ntmps12
          go_wp2_with (first
            | (go_at_call 29; refine (HC.out _ (H.out.below hB.out)).mono ?_; rintro e w1 ⟨rfl, rfl⟩)
            | (go_at_call 32; refine (HJ.out _ (H.out.below hB.out)).mono ?_; rintro e w1 ⟨rfl, b1⟩; replace hB := Lib.hid (below_next hB.out b1); clear b1)
            | (go_at_call 31
               refine (HN.out _).mono ?_
               rintro e w1 ⟨v, rfl, b1, o1⟩
               obtain ⟨a1, c1, rfl, l1, _⟩ := own_form o1
               have HO := Lib.hid (And.intro (owns_mono hB.out.size o1) l1)
               replace hB := Lib.hid (below_next hB.out b1)
               clear b1 o1 l1)
            | (go_at_call 7
               refine (HP.out _ _ _ HO.out.2).mono ?_
               rintro e w1 ⟨v, rfl, b1, o1⟩
               obtain ⟨g1, c2, rfl, l2⟩ := own_some o1 (by omega)
               replace HO := Lib.hid (And.intro (owns_below HO.out.1 b1) l2)
               replace hB := Lib.hid (below_next hB.out b1)
               clear b1 o1 l2)
            | (go_at_call 33
               refine (HE.out _ _ pl _ HO.out.2 HPL.out (H.out.below hB.out) false ⟨fun q => (by cases q), fun q => absurd q HQT.out⟩).mono ?_
               rintro e w1 ⟨rfl, b1⟩
               replace HO := Lib.hid (owns_below HO.out.1 b1)
               replace hB := Lib.hid (below_next hB.out b1)
               clear b1))
          all_goals
            (try simp only [Exit.inBlock, Exit.then])
            refine bodyPost_ret (results_tmp4 rfl _ _ _) rfl ?_
            exact ⟨_, rfl, hB.out, World.ownsRow_nil _ _ _ _⟩
      · obtain ⟨e1, e2, e3⟩ := get_no (pg_bad (l := l) (fun q => hok q.2.2))
        have hi := pg_bad (l := l) (fun q => hok q.2.2)
        have hok : pgOk (numAt (joinB l) 0) (numAt (joinB l) 1) (nums (joinB l)) = false := by simpa using hok
        have HP := Lib.hid (fun (a1 : Option Addr) (c1 : Nat) u (q : LiesAt u a1 (vals (nums (joinB l)))) => pput_is (numAt (joinB l) 0) (numAt (joinB l) 1) a1 (nums (joinB l)) c1 u q (by rw [hnl]; unfold maxLen; omega))
        rw [hok, hnl, pgL_no hok] at HP
        rw [e1, e2, e3, hi]
        have hl3 : (l.length : Int) = 3 := by omega
        generalize numAt (joinB l) 0 = n0 at *
        generalize numAt (joinB l) 1 = n1 at *
        generalize nums (joinB l) = ns at *
        generalize joinB l = s at *
        rw [h3]
        clear hok hs hc3 h hl hf ha h3 e1 e2 e3 hi hnl hl3
        go_enter Try.func12, Try.ntmps12
        go_wp2_with (first
          | (go_at_call 29; refine (HC.out _ (H.out.below hB.out)).mono ?_; rintro e w1 ⟨rfl, rfl⟩)
          | (go_at_call 32; refine (HJ.out _ (H.out.below hB.out)).mono ?_; rintro e w1 ⟨rfl, b1⟩; replace hB := Lib.hid (below_next hB.out b1); clear b1)
          | (go_at_call 31
             refine (HN.out _).mono ?_
             rintro e w1 ⟨v, rfl, b1, o1⟩
             obtain ⟨a1, c1, rfl, l1, _⟩ := own_form o1
             have HO := Lib.hid l1
             replace hB := Lib.hid (below_next hB.out b1)
             clear b1 o1 l1)
          | (go_at_call 7
             refine (HP.out _ _ _ HO.out).mono ?_
             rintro e w1 ⟨v, rfl, b1, o1⟩
             replace hB := Lib.hid (below_next hB.out b1)
             clear b1 o1))
        all_goals
          (try simp only [Exit.inBlock, Exit.then])
          refine bodyPost_ret (results_tmp4 rfl _ _ _) rfl ?_
          exact ⟨_, rfl, hB.out, World.ownsRow_nil _ _ _ _⟩
    · obtain ⟨e1, e2, e3⟩ := get_no (pg_bad (l := l) (fun q => ha q.2.1))
      have hi := pg_bad (l := l) (fun q => ha q.2.1)
      have ha : l.any outT = true := by simpa using ha
      rw [ha] at HC
      rw [e1, e2, e3, hi]
      have H := Lib.hid h
      have hl3 : (l.length : Int) = 3 := by omega
      clear h hl hf ha h3 e1 e2 e3 hi
      go_enter Try.func12, Try.ntmps12
      go_wp2_with (go_at_call 29; refine (HC.out _ (H.out.below hB.out)).mono ?_; rintro e w1 ⟨rfl, rfl⟩)
      all_goals
        (try simp only [Exit.inBlock, Exit.then])
        refine bodyPost_ret (results_tmp4 rfl _ _ _) rfl ?_
        exact ⟨_, rfl, hB.out, World.ownsRow_nil _ _ _ _⟩
  · obtain ⟨e1, e2, e3⟩ := get_no (pg_bad (l := l) (fun q => h3 q.1))
    have hi := pg_bad (l := l) (fun q => h3 q.1)
    rw [e1, e2, e3, hi]
    have hl3 : ((l.length : Int) == 3) = false := by simp; omega
    have hl4 : ((l.length : Int) != 3) = true := by simp; omega
    clear h hl hf h3 e1 e2 e3 hi
    go_enter Try.func12, Try.ntmps12
    go_wp2
    all_goals
      (try simp only [Exit.inBlock, Exit.then])
      refine bodyPost_ret (results_tmp4 rfl _ _ _) rfl ?_
      exact ⟨_, rfl, hB.out, World.ownsRow_nil _ _ _ _⟩
end Go.Proofs.Ytgmjphekfhiapaa
