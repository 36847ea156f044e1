import Derived.Test.YtbghglkplbnnkaaGreatDoorYHeapB
import Derived.Test.YtbghglkplbnnkaaGreatDoorYBook
set_option linter.unusedVariables false
set_option linter.unusedSimpArgs false
-- HeapFollow
namespace Go.Proofs.YtbghglkplbnnkaaGreatDoor
open Go.RowKit Sec
open Go.Proofs.YtbghglkplbnnkaaGreatDoor.Bk

def cpfill (W : List Int) (a f : Nat) : Nat → List Int
  | 0 => W
  | n + 1 => (cpfill W a f n).set (f + n) ((cpfill W a f n).getD (a + n) 0)
theorem cpfill_len (W : List Int) (a f : Nat) : ∀ n, (cpfill W a f n).length = W.length
  | 0 => rfl
  | n + 1 => by rw [cpfill, List.length_set, cpfill_len W a f n]
def folM (h l : Int) (W : List Int) (a : Int) : Bool := hOk h l W && ((lk h l W a).2 && (decide (a ≠ 0) && (!inB h (hSp W) a && decide ((lk h l W a).1 = a))))
def folZ (W : List Int) (a : Int) : Int := 1 + prS (W.getD a.toNat 0) + prW (W.getD a.toNat 0)
def folE (h l : Int) (W : List Int) (a : Int) : Int :=
  if hOk h l W = false then 1 else if (lk h l W a).2 = false then 4 else if folM h l W a = true ∧ 16 + hSp W * h + h - hFr W < folZ W a then 6 else 0
def folV (h l : Int) (W : List Int) (a : Int) : Int := if folE h l W a = 0 then (if folM h l W a = true then hFr W else (lk h l W a).1) else 0
def folW (h l : Int) (W : List Int) (a : Int) : List Int :=
  if folE h l W a = 0 ∧ folM h l W a = true then ((cpfill W a.toNat (hFr W).toNat (folZ W a).toNat).set 1 (hFr W + folZ W a)).set a.toNat (33554432 + hFr W) else W
theorem folM_yes {h l : Int} {W : List Int} {a : Int} (q : folM h l W a = true) : hOk h l W = true ∧ (lk h l W a).2 = true ∧ a ≠ 0 ∧ inB h (hSp W) a = false ∧ (lk h l W a).1 = a := by
  simp only [folM, Bool.and_eq_true, Bool.not_eq_true'] at q
  exact ⟨q.1, q.2.1, of_decide_eq_true q.2.2.1, q.2.2.2.1, of_decide_eq_true q.2.2.2.2⟩
theorem folM_at {h l : Int} {W : List Int} {a : Int} (q : folM h l W a = true) : ∃ n : Nat, a = (n : Int) ∧ 16 + (1 - hSp W) * h ≤ (n : Int) ∧ hGc W ≠ 0 ∧ hdOk (W.getD n 0) = true ∧ fwOk (W.getD n 0) = false ∧ (n : Int) + folZ W (n : Int) ≤ 16 + (1 - hSp W) * h + h := by
  obtain ⟨q1, q2, q3, q4, q5⟩ := folM_yes q
  obtain ⟨f1, f2, _⟩ := fine_yes q1
  have hq := geOk_yes f1
  have hm2 : 0 ≤ (1 - hSp W) * h := by rcases f2 with e | e <;> rw [e] <;> omega
  rw [lk, if_neg (by rw [q1]; decide), if_neg (by rw [q4]; simp [q3])] at q2 q5
  by_cases c1 : hGc W = 0 ∨ inB h (1 - hSp W) a = false
  · rw [if_pos c1] at q2
    exact absurd q2 (by decide)
  rw [if_neg c1] at q2 q5
  have c2 : hGc W ≠ 0 := fun e => c1 (.inl e)
  have c3 : inB h (1 - hSp W) a = true := by
    cases e : inB h (1 - hSp W) a
    · exact absurd (.inr e) c1
    · rfl
  have c4 := of_decide_eq_true c3
  obtain ⟨n, rfl⟩ := Int.eq_ofNat_of_zero_le (show 0 ≤ a by omega)
  rw [Int.toNat_natCast] at q2 q5
  by_cases c5 : fwOk (W.getD n 0) = true
  · rw [if_pos c5] at q2 q5
    by_cases c6 : inB h (hSp W) (fwA (W.getD n 0)) = true
    · rw [if_pos c6] at q5
      have q6 : fwA (W.getD n 0) = (n : Int) := q5
      rw [q6, q4] at c6
      exact absurd c6 (by decide)
    · rw [if_neg c6] at q2
      exact absurd q2 (by decide)
  rw [if_neg c5] at q2 q5
  by_cases c7 : hdOk (W.getD n 0) = true ∧ (n : Int) + 1 + prS (W.getD n 0) + prW (W.getD n 0) ≤ 16 + (1 - hSp W) * h + h
  · refine ⟨n, rfl, c4.1, c2, c7.1, by simpa using c5, ?_⟩
    rw [folZ, Int.toNat_natCast]
    have := c7.2
    omega
  · rw [if_neg c7] at q2
    exact absurd q2 (by decide)
section
variable {B : Nat} {w w' : World} {b g c : Nat} {h l : Int} {W : List Int}
end
end Go.Proofs.YtbghglkplbnnkaaGreatDoor
-- HeapCell
namespace Go.Proofs.YtbghglkplbnnkaaGreatDoor
open Go.RowKit Sec
open Go.Proofs.YtbghglkplbnnkaaGreatDoor.Bk

def celE (h l : Int) (W : List Int) (k : Nat) : Int := folE h l W (W.getD k 0)
def celV (h l : Int) (W : List Int) (k : Nat) : Int := folV h l W (W.getD k 0)
def celW (h l : Int) (W : List Int) (k : Nat) : List Int := if celE h l W k = 0 then (folW h l W (W.getD k 0)).set k (celV h l W k) else W
theorem folW_len (h l : Int) (W : List Int) (a : Int) : (folW h l W a).length = W.length := by
  unfold folW
  split
  · rw [List.length_set, List.length_set, cpfill_len]
  · rfl
theorem celW_len (h l : Int) (W : List Int) (k : Nat) : (celW h l W k).length = W.length := by
  unfold celW
  split
  · rw [List.length_set, folW_len]
  · rfl
theorem folW_no {h l : Int} {W : List Int} {a : Int} (q : folE h l W a ≠ 0) : folW h l W a = W := if_neg (fun z => q z.1)
theorem folV_no {h l : Int} {W : List Int} {a : Int} (q : folE h l W a ≠ 0) : folV h l W a = 0 := if_neg q
def loadE (h l : Int) (W : List Int) (a i : Int) : Int := if shpE h l W a = 0 then (if i < 0 ∨ shpS h l W a ≤ i then 8 else celE h l W (a + 1 + i).toNat) else shpE h l W a
section
variable {B : Nat} {w w' : World} {b g c : Nat} {h l : Int} {W : List Int}
end
end Go.Proofs.YtbghglkplbnnkaaGreatDoor
-- HeapObjs
namespace Go.Proofs.YtbghglkplbnnkaaGreatDoor
open Go.RowKit Sec
open Go.Proofs.YtbghglkplbnnkaaGreatDoor.Bk

def objGo (W : List Int) (fr : Int) : Nat → Int → List Int × Bool
  | 0, _ => ([], true)
  | n + 1, a =>
    if fr ≤ a then ([], true)
    else if hdOk (W.getD a.toNat 0) = false ∨ fr < a + 1 + prS (W.getD a.toNat 0) + prW (W.getD a.toNat 0) then ([], false)
    else (a :: (objGo W fr n (a + 1 + prS (W.getD a.toNat 0) + prW (W.getD a.toNat 0))).1, (objGo W fr n (a + 1 + prS (W.getD a.toNat 0) + prW (W.getD a.toNat 0))).2)
def objs (h l : Int) (W : List Int) : List Int × Bool := if hOk h l W = true then objGo W (hFr W) 1000 (16 + hSp W * h) else ([], false)
theorem objGo_end {W : List Int} {fr a : Int} (q : fr ≤ a) : ∀ n, objGo W fr n a = ([], true)
  | 0 => rfl
  | n + 1 => if_pos q
theorem objGo_no {W : List Int} {fr a : Int} (n : Nat) (q : ¬ fr ≤ a) (r : hdOk (W.getD a.toNat 0) = false ∨ fr < a + 1 + prS (W.getD a.toNat 0) + prW (W.getD a.toNat 0)) : objGo W fr (n + 1) a = ([], false) := by
  rw [objGo, if_neg q, if_pos r]
theorem objGo_yes {W : List Int} {fr a : Int} (n : Nat) (q : ¬ fr ≤ a) (r : ¬ (hdOk (W.getD a.toNat 0) = false ∨ fr < a + 1 + prS (W.getD a.toNat 0) + prW (W.getD a.toNat 0))) :
    objGo W fr (n + 1) a = (a :: (objGo W fr n (a + 1 + prS (W.getD a.toNat 0) + prW (W.getD a.toNat 0))).1, (objGo W fr n (a + 1 + prS (W.getD a.toNat 0) + prW (W.getD a.toNat 0))).2) := by
  rw [objGo, if_neg q, if_neg r]
theorem objGo_len {W : List Int} {fr : Int} : ∀ (n : Nat) (a : Int), a ≤ fr → ((objGo W fr n a).1.length : Int) ≤ fr - a
  | 0, a, h => by
    show ((([] : List Int).length : Nat) : Int) ≤ fr - a
    rw [List.length_nil]
    omega
  | n + 1, a, h => by
    by_cases q : fr ≤ a
    · rw [objGo_end q]
      show ((([] : List Int).length : Nat) : Int) ≤ fr - a
      rw [List.length_nil]
      omega
    · by_cases r : hdOk (W.getD a.toNat 0) = false ∨ fr < a + 1 + prS (W.getD a.toNat 0) + prW (W.getD a.toNat 0)
      · rw [objGo_no n q r]
        show ((([] : List Int).length : Nat) : Int) ≤ fr - a
        rw [List.length_nil]
        omega
      · rw [objGo_yes n q r]
        have hp := shOk_yes (pr_range (W.getD a.toNat 0))
        have hr : ¬ fr < a + 1 + prS (W.getD a.toNat 0) + prW (W.getD a.toNat 0) := fun e => r (.inr e)
        have := objGo_len (W := W) (fr := fr) n (a + 1 + prS (W.getD a.toNat 0) + prW (W.getD a.toNat 0)) (by omega)
        rw [List.length_cons]
        omega
theorem objs_len (h l : Int) (W : List Int) : (objs h l W).1.length ≤ 400 := by
  rw [objs]
  by_cases q : hOk h l W = true
  · rw [if_pos q]
    obtain ⟨f1, f2, _, f4, _⟩ := fine_yes q
    have hq := geOk_yes f1
    have := objGo_len (W := W) (fr := hFr W) 1000 (16 + hSp W * h) f4.1
    omega
  · rw [if_neg q]
    exact Nat.zero_le _
section
variable {B : Nat} {w w' : World} {b g c : Nat} {h l : Int} {W : List Int}
set_option maxRecDepth 100000 in
set_option maxHeartbeats 8000000 in
theorem robjects_is (k : HIs B w b h l W g c) (hWl : (W.length : Int) = 16 + 2 * h) : Calls Tryz.prog 45 #[.pointer (some ⟨b, 0, none⟩)] w fun e w' => ∃ v, e = .returned (.tuple #[v, .bool (objs h l W).2]) ∧ Below w.heap.size w w' ∧ w'.ownsRow w.heap.size 3 1 v (objs h l W).1.length (vals (objs h l W).1) := by
  obtain ⟨i0, hi, hz0, hz1, hz2⟩ := info_parts (show (Tryz.prog.info? 3).map (fun i => (i.zero, i.size, i.bytes)) = some (some (.int .i64 0), 1, 8) by kernel_rfl)
  have HI := Lib.hid (And.intro hi (And.intro hz0 (And.intro hz1 hz2)))
  clear hi hz0 hz1 hz2
  have HR := Lib.hid (rright_is k)
  have HC := Lib.hid (fun u (y : Below w.heap.size w u) => rcontrol_is (k.below y))
  have HK := Lib.hid k
  cases q1 : hOk h l W with
  | false =>
    rw [show objs h l W = ([], false) from if_neg (by rw [q1]; decide)]
    rw [q1] at HR
    clear k q1 hWl HC
    go_enter Tryz.func45, Tryz.ntmps45
    go_wp2_with (go_at_call 79; refine HR.out.mono ?_; rintro e w1 ⟨rfl, b1⟩; have H1 := Lib.hid b1; clear b1)
    all_goals go_ret2
    all_goals exact ⟨_, rfl, H1.out, World.ownsRow_nil _ _ _ _⟩
  | true =>
    rw [show objs h l W = objGo W (hFr W) 1000 (16 + hSp W * h) from if_pos q1]
    rw [q1] at HR
    obtain ⟨f1, f2, _, ⟨f4, f5⟩, _⟩ := fine_yes q1
    obtain ⟨hq1, hq2, _, _⟩ := geOk_yes f1
    have HB := Lib.hid (fun u => rbase_is h l (hSp W) f1 f2 u)
    rw [ge_base f1 f2] at HB
    have hb : 0 ≤ hSp W * h ∧ hSp W * h ≤ h := by rcases f2 with e | e <;> rw [e] <;> omega
    obtain ⟨bs, hbs⟩ := Int.eq_ofNat_of_zero_le (show 0 ≤ 16 + hSp W * h by omega)
    rw [hbs] at HB f4 f5 ⊢
    have hbs1 : (bs : Int) ≤ 416 := by omega
    have hfl : hFr W ≤ (W.length : Int) := by omega
    have hle := k.le
    have HD := Lib.hid (fun u (y : Below w.heap.size w u) => (show u.cell? ⟨b, 0, none⟩ = some (.int .i64 h) ∧ u.cell? ⟨b, 1, none⟩ = some (.int .i64 l) ∧ u.cell? ⟨b, 2, none⟩ = some (.slice (some ⟨g, 0, none⟩) W.length c) from ⟨(k.below y).cs.1, (k.below y).cs.2.1, (k.below y).cs.2.2⟩))
    have HE := Lib.hid (fun u (y : Below w.heap.size w u) (n : Nat) (hn : n < W.length) => ((k.below y).at hn).1)
    have HP := Lib.hid (fun (v : Int) u => rparse_is v u)
    have HG : Hid (objGo W (hFr W) 1000 (bs : Int) = objGo W (hFr W) 1000 (bs : Int)) := Lib.hid rfl
    obtain ⟨fr, hfr⟩ : ∃ fr, fr = hFr W := ⟨_, rfl⟩
    rw [← hfr] at f4 f5 hfl HC HG ⊢
    clear k q1 f1 f2 hb hbs hWl hfr
    obtain ⟨Z, hZ⟩ : ∃ Z, Z = objGo W fr 1000 (bs : Int) := ⟨_, rfl⟩
    rw [← hZ]
    have HZ := Lib.hid hZ
    clear hZ HG
    generalize hSp W = x0 at *
    generalize hGc W = x2 at *
    generalize hSc W = x3 at *
    go_enter Tryz.func45, Tryz.ntmps45
    go_wp2_with (first
      | (go_at_call 79; refine HR.out.mono ?_; rintro e w1 ⟨rfl, b1⟩; have H1 := Lib.hid b1; clear b1)
      | (go_at_call 39; refine (HC.out _ H1.out).mono ?_; rintro e w2 ⟨rfl, b2⟩; have b02 := geo_next H1.out b2; have H2 := Lib.hid b02; obtain ⟨c0, c1, c2⟩ := HD.out _ b02; clear b2 b02)
      | (go_at_call 76; refine (HB.out _).mono ?_; rintro e w3 ⟨rfl, b3⟩; have H3 := Lib.hid (geo_next H2.out b3); clear b3 c0 c1 c2))
    go_loopw [4, 9] (fun v i wr => ∃ (T : List Int) (n a : Nat), i = .int .i64 (a : Int) ∧ Hid (Z = (T ++ (objGo W fr n (a : Int)).1, (objGo W fr n (a : Int)).2)) ∧ Hid (n + T.length = 1000) ∧ (T.length : Int) + (bs : Int) ≤ (a : Int) ∧ (a : Int) ≤ fr ∧ Hid (Below w.heap.size w wr ∧ wr.ownsRow w.heap.size 3 1 v T.length (vals T))) (fun _ i _ => (fr - intOf i).toNat)
    case atStart => exact ⟨[], 1000, bs, rfl, Lib.hid (by rw [List.nil_append]; exact HZ.out), Lib.hid rfl, by simp, f4, Lib.hid ⟨H3.out, World.ownsRow_nil _ _ _ _⟩⟩
    case round =>
      clear H3 HR HC HB HZ
      obtain ⟨T, n, a, rfl, HT, HN, ht1, ht2, HW⟩ := hrel
      have hTl : T.length ≤ 400 := by omega
      by_cases hlt : (a : Int) < fr
      · have han : a < W.length := by omega
        have hani : (a : Int) < (W.length : Int) := by omega
        obtain ⟨c0, c1, c2⟩ := HD.out _ HW.out.1
        have d1 := HE.out _ HW.out.1 a han
        have hp := shOk_yes (pr_range (W.getD a 0))
        obtain ⟨n, rfl⟩ : ∃ m, n = m + 1 := ⟨n - 1, by have := HN.out; omega⟩
        have HPa := Lib.hid (HP.out (W.getD a 0))
        have hnf : ¬ fr ≤ (a : Int) := by omega
        have hw1 : wrap64 ((a : Int) + 1) = (a : Int) + 1 := by unfold wrap64; omega
        have hw2 : wrap64 ((a : Int) + 1 + prS (W.getD a 0)) = (a : Int) + 1 + prS (W.getD a 0) := by unfold wrap64; omega
        have hw3 : wrap64 ((a : Int) + 1 + prS (W.getD a 0) + prW (W.getD a 0)) = (a : Int) + 1 + prS (W.getD a 0) + prW (W.getD a 0) := by unfold wrap64; omega
        by_cases r : hdOk (W.getD a 0) = false ∨ fr < (a : Int) + 1 + prS (W.getD a 0) + prW (W.getD a 0)
        · have HX : Hid (Z = (T, false)) := Lib.hid (by
            have := HT.out
            rw [objGo_no n hnf (by rw [Int.toNat_natCast]; exact r), List.append_nil] at this
            exact this)
          rcases r with r | r
          · rw [r] at HPa
            clear HT r
            generalize prS (W.getD a 0) = ps at *
            generalize prW (W.getD a 0) = pw at *
            generalize W.getD a 0 = v at *
            go_wp2_with (go_at_call 41; refine (HPa.out _).mono ?_; rintro e w' ⟨rfl, hw⟩; obtain rfl : wr = w' := hw.symm)
            all_goals go_ret2
            all_goals exact ⟨u4, by rw [HX.out]; rfl, HW.out.1, by rw [HX.out]; exact HW.out.2⟩
          · clear HT
            generalize prS (W.getD a 0) = ps at *
            generalize prW (W.getD a 0) = pw at *
            generalize hdOk (W.getD a 0) = ok at *
            generalize W.getD a 0 = v at *
            cases ok
            all_goals
              go_wp2_with (go_at_call 41; refine (HPa.out _).mono ?_; rintro e w' ⟨rfl, hw⟩; obtain rfl : wr = w' := hw.symm)
              go_ret2
              exact ⟨u4, by rw [HX.out]; rfl, HW.out.1, by rw [HX.out]; exact HW.out.2⟩
        · have r1 : hdOk (W.getD a 0) = true := by
            cases e : hdOk (W.getD a 0)
            · exact absurd (.inl e) r
            · rfl
          have r2 : ¬ fr < (a : Int) + 1 + prS (W.getD a 0) + prW (W.getD a 0) := fun e => r (.inr e)
          rw [r1] at HPa
          obtain ⟨z, hz⟩ := Int.eq_ofNat_of_zero_le (show 0 ≤ (a : Int) + 1 + prS (W.getD a 0) + prW (W.getD a 0) by omega)
          have HX : Hid (Z = ((T ++ [(a : Int)]) ++ (objGo W fr n (z : Int)).1, (objGo W fr n (z : Int)).2)) := Lib.hid (by
            have := HT.out
            rw [objGo_yes n hnf (by rw [Int.toNat_natCast]; exact r), Int.toNat_natCast, hz] at this
            rw [List.append_assoc]
            exact this)
          have hsz := HW.out.1.size
          have hz2 : (a : Int) + 1 ≤ (z : Int) := by omega
          have hz3 : (z : Int) ≤ fr := by omega
          clear HT r r1
          obtain ⟨p0, p1, p2, p3⟩ := hp
          generalize prS (W.getD a 0) = ps at *
          generalize prW (W.getD a 0) = pw at *
          generalize W.getD a 0 = v at *
          go_wp2_with (first
            | (go_at_call 41; refine (HPa.out _).mono ?_; rintro e w' ⟨rfl, hw⟩; obtain rfl : wr = w' := hw.symm)
            | (refine wpList_append_lies _ rfl (.tmp 57) (.tmp 59) 24 rfl w.heap.size 3 i0 _ 1 8 Tryz.underlying24 HI.out.1 HI.out.2.1 HI.out.2.2.1 HI.out.2.2.2 rfl (by omega) u4 T.length (vals T) rfl (HW.out.2.alloc _) _ 1 1 [.int .i64 (a : Int)] rfl rfl (by exact World.news_of_block (heap_alloc_last _ _)) (by intro u hu; simp at hu; rw [hu]; rfl) (by omega) (by unfold maxLen; omega) (by omega) (by simp; omega) _ rfl ?_
               intro g4 cap w4 hown4 hgr4 hat4 hlt4
               have HY := Lib.hid (And.intro hown4 hgr4)
               clear hown4 hgr4 hat4 hlt4))
          refine ⟨⟨T ++ [(a : Int)], n, z, ?_, HX, Lib.hid ?_, ?_, hz3, Lib.hid ⟨(HW.out.1.alloc hsz _).grown HY.out.2 (by simp; omega) (fun b hb => (HW.out.2.lt b hb).1), ?_⟩⟩, ?_⟩
          · rfl
          · rw [List.length_append, List.length_singleton]
            have := HN.out
            omega
          · rw [List.length_append, List.length_singleton]
            omega
          · rw [List.length_append, List.length_singleton]
            simpa [vals] using HY.out.1
          · simp [intOf]
            omega
      · have HX : Hid (Z = (T, true)) := Lib.hid (by
          have := HT.out
          rw [objGo_end (by omega), List.append_nil] at this
          exact this)
        clear HT
        go_wp2
        go_ret2
        exact ⟨u4, by rw [HX.out]; rfl, HW.out.1, by rw [HX.out]; exact HW.out.2⟩
set_option maxRecDepth 100000 in
set_option maxHeartbeats 2000000 in
theorem ris_is (k : HIs B w b h l W g c) (hWl : (W.length : Int) = 16 + 2 * h) (a : Int) : Calls Tryz.prog 46 #[.pointer (some ⟨b, 0, none⟩), .int .i64 a] w fun e w' => e = .returned (.bool (decide (a ∈ (objs h l W).1))) ∧ Below w.heap.size w w' := by
  have HO := Lib.hid (robjects_is k hWl)
  have hlen := objs_len h l W
  clear k
  obtain ⟨t, ht⟩ : ∃ t, t = decide (a ∈ (objs h l W).1) := ⟨_, rfl⟩
  rw [← ht]
  have HT := Lib.hid ht
  clear ht
  generalize (objs h l W).2 = t2 at *
  generalize (objs h l W).1 = L at *
  go_enter Tryz.func46, Tryz.ntmps46
  go_wp2_with (go_at_call 45
               refine HO.out.mono ?_
               rintro e w1 ⟨v, rfl, b1, o1⟩
               obtain ⟨a1, c1, rfl, hl1, _⟩ := own_form o1
               have H1 := Lib.hid (And.intro b1 hl1)
               clear b1 hl1 o1)
  go_loopw [7] (fun i wr => ∃ j : Nat, j ≤ L.length ∧ i = .int .i64 (j : Int) ∧ wr = w1 ∧ Hid (a ∉ L.take j)) (fun i _ => L.length - (intOf i).toNat)
  case atStart => exact ⟨0, Nat.zero_le _, rfl, rfl, Lib.hid (by simp)⟩
  case round =>
    obtain ⟨j, hj, rfl, hw, HA⟩ := hrel
    obtain rfl : w1 = wr := hw.symm
    by_cases hlt : j < L.length
    · obtain ⟨b1, rfl, _, hc⟩ := H1.out.2 j (.int .i64 L[j]) (by rw [vals, List.getElem?_map, List.getElem?_eq_getElem hlt]; rfl)
      have hi1 : (j : Int) < (L.length : Int) := by omega
      by_cases he : L[j] = a
      · obtain rfl : t = true := by
          rw [HT.out]
          exact decide_eq_true (he ▸ List.getElem_mem hlt)
        rw [he] at hc
        clear he
        go_wp2_with fail
        go_ret
        exact ⟨rfl, H1.out.1⟩
      · have HA2 : Hid (a ∉ L.take (j + 1)) := Lib.hid (by
          rw [List.take_succ_eq_append_getElem hlt, List.mem_append]
          rintro (e | e)
          · exact HA.out e
          · simp at e
            exact he e.symm)
        have hne : (L[j] == a) = false := beq_eq_false_iff_ne.2 he
        generalize L[j] = x at *
        go_wp2_with fail
        exact ⟨⟨j + 1, by omega, by go_num, by trivial, HA2⟩, by simp [intOf]; omega⟩
    · obtain rfl : j = L.length := by omega
      obtain rfl : t = false := by
        rw [HT.out]
        exact decide_eq_false (by have := HA.out; rwa [List.take_length] at this)
      go_wp2
      go_ret
      exact ⟨rfl, H1.out.1⟩
end
end Go.Proofs.YtbghglkplbnnkaaGreatDoor
