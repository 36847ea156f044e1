import Derived.Deep.QuietTactic
import Derived.BigQuiet
import Derived.Test.YtbghglkplbnnkaaGreatDoorYHeap
set_option linter.unusedVariables false
set_option linter.unusedSimpArgs false
-- HeapName
namespace Go.Proofs.YtbghglkplbnnkaaGreatDoor
open Go.RowKit Sec
open Go.Proofs.YtbghglkplbnnkaaGreatDoor.Bk

def objB (h l : Int) (W : List Int) (a : Int) : Bool := hOk h l W && (inB h (hSp W) a && (decide (a < hFr W) && (hdOk (W.getD a.toNat 0) && decide (a + 1 + prS (W.getD a.toNat 0) + prW (W.getD a.toNat 0) ≤ hFr W))))
theorem objB_yes {h l : Int} {W : List Int} {a : Int} (q : objB h l W a = true) : hOk h l W = true ∧ inB h (hSp W) a = true ∧ a < hFr W ∧ hdOk (W.getD a.toNat 0) = true ∧ a + 1 + prS (W.getD a.toNat 0) + prW (W.getD a.toNat 0) ≤ hFr W := by
  simp only [objB, Bool.and_eq_true, decide_eq_true_eq] at q
  exact q
section
variable {B : Nat} {w w' : World} {b g c : Nat} {h l : Int} {W : List Int}
theorem objB_at (hWl : (W.length : Int) = 16 + 2 * h) {a : Int} (q : objB h l W a = true) : ∃ n : Nat, a = (n : Int) ∧ 16 ≤ n ∧ n < W.length ∧ 0 ≤ prS (W.getD n 0) ∧ 0 ≤ prW (W.getD n 0) ∧ (n : Int) + 1 + prS (W.getD n 0) + prW (W.getD n 0) ≤ (W.length : Int) := by
  obtain ⟨q1, q2, q3, q4, q5⟩ := objB_yes q
  obtain ⟨f1, f2, _, f4, _⟩ := fine_yes q1
  have hq := geOk_yes f1
  have hi : 16 + hSp W * h ≤ a ∧ a < 16 + hSp W * h + h := of_decide_eq_true q2
  have hm : 0 ≤ hSp W * h ∧ hSp W * h ≤ h := by rcases f2 with e | e <;> rw [e] <;> omega
  obtain ⟨n, rfl⟩ := Int.eq_ofNat_of_zero_le (show 0 ≤ a by omega)
  rw [Int.toNat_natCast] at q4 q5
  have hp := shOk_yes (pr_range (W.getD n 0))
  exact ⟨n, rfl, by omega, by omega, by omega, by omega, by omega⟩
end
end Go.Proofs.YtbghglkplbnnkaaGreatDoor
-- HeapShape
namespace Go.Proofs.YtbghglkplbnnkaaGreatDoor
open Go.RowKit Sec
open Go.Proofs.YtbghglkplbnnkaaGreatDoor.Bk

def shpE (h l : Int) (W : List Int) (a : Int) : Int := if a = 0 then 7 else if objB h l W a = true then 0 else 1
def shpS (h l : Int) (W : List Int) (a : Int) : Int := if shpE h l W a = 0 then prS (W.getD a.toNat 0) else 0
def shpW (h l : Int) (W : List Int) (a : Int) : Int := if shpE h l W a = 0 then prW (W.getD a.toNat 0) else 0
theorem shpE_obj {h l : Int} {W : List Int} {a : Int} (q : shpE h l W a = 0) : objB h l W a = true := by
  by_cases e : a = 0
  · rw [shpE, if_pos e] at q; omega
  · cases p : objB h l W a with
    | true => rfl
    | false => rw [shpE, if_neg e, p, if_neg (by decide)] at q; omega
section
variable {B : Nat} {w w' : World} {b g c : Nat} {h l : Int} {W : List Int}
end
end Go.Proofs.YtbghglkplbnnkaaGreatDoor
-- HeapCells
namespace Go.Proofs.YtbghglkplbnnkaaGreatDoor
open Go.RowKit Sec
open Go.Proofs.YtbghglkplbnnkaaGreatDoor.Bk

def srE (h l : Int) (W : List Int) (i a : Int) : Int := if i < 0 ∨ 8 ≤ i then 8 else if a = 0 ∨ objB h l W a = true then 0 else 1
def srW (h l : Int) (W : List Int) (i a : Int) : List Int := if srE h l W i a = 0 then W.set (8 + i).toNat a else W
theorem shp_at {h l : Int} {W : List Int} {a : Int} (hWl : (W.length : Int) = 16 + 2 * h) (q : shpE h l W a = 0) : ∃ n : Nat, a = (n : Int) ∧ 16 ≤ n ∧ 0 ≤ shpS h l W a ∧ shpS h l W a ≤ 15 ∧ 0 ≤ shpW h l W a ∧ shpW h l W a ≤ 30 ∧ (n : Int) + 1 + shpS h l W a + shpW h l W a ≤ (W.length : Int) := by
  obtain ⟨n, rfl, h1, h2, h3, h4, h5⟩ := objB_at hWl (shpE_obj q)
  have hp := shOk_yes (pr_range (W.getD n 0))
  refine ⟨n, rfl, h1, ?_⟩
  rw [shpS, shpW, if_pos q, if_pos q, Int.toNat_natCast]
  omega
section
variable {B : Nat} {w w' : World} {b g c : Nat} {h l : Int} {W : List Int}
end
end Go.Proofs.YtbghglkplbnnkaaGreatDoor
-- HeapSets
namespace Go.Proofs.YtbghglkplbnnkaaGreatDoor
open Go.RowKit Sec
open Go.Proofs.YtbghglkplbnnkaaGreatDoor.Bk

def swE (h l : Int) (W : List Int) (a i v : Int) : Int := if shpE h l W a = 0 then (if hbNum v = true then (if i < 0 ∨ shpW h l W a ≤ i then 8 else 0) else 1) else shpE h l W a
def swW (h l : Int) (W : List Int) (a i v : Int) : List Int := if swE h l W a i v = 0 then W.set (a + 1 + shpS h l W a + i).toNat v else W
def ptE (h l : Int) (W : List Int) (a i v : Int) : Int := if shpE h l W a = 0 then (if v = 0 ∨ objB h l W v = true then (if i < 0 ∨ shpS h l W a ≤ i then 8 else 0) else 1) else shpE h l W a
def ptW (h l : Int) (W : List Int) (a i v : Int) : List Int := if ptE h l W a i v = 0 then W.set (a + 1 + i).toNat v else W
section
variable {B : Nat} {w w' : World} {b g c : Nat} {h l : Int} {W : List Int}
end
end Go.Proofs.YtbghglkplbnnkaaGreatDoor
-- HeapLook
namespace Go.Proofs.YtbghglkplbnnkaaGreatDoor
open Go.RowKit Sec
open Go.Proofs.YtbghglkplbnnkaaGreatDoor.Bk

def lk (h l : Int) (W : List Int) (a : Int) : Int × Bool :=
  if hOk h l W = false then (0, false)
  else if a = 0 ∨ inB h (hSp W) a = true then (a, true)
  else if hGc W = 0 ∨ inB h (1 - hSp W) a = false then (0, false)
  else if fwOk (W.getD a.toNat 0) = true then (if inB h (hSp W) (fwA (W.getD a.toNat 0)) = true then (fwA (W.getD a.toNat 0), true) else (0, false))
  else if hdOk (W.getD a.toNat 0) = true ∧ a + 1 + prS (W.getD a.toNat 0) + prW (W.getD a.toNat 0) ≤ 16 + (1 - hSp W) * h + h then (a, true)
  else (0, false)
def Ints64 (W : List Int) : Prop := ∀ i : Nat, -9223372036854775808 ≤ W.getD i 0 ∧ W.getD i 0 ≤ 9223372036854775807
section
variable {B : Nat} {w w' : World} {b g c : Nat} {h l : Int} {W : List Int}
set_option maxRecDepth 100000 in
set_option maxHeartbeats 8000000 in
theorem rlook_is (k : HIs B w b h l W g c) (hWl : (W.length : Int) = 16 + 2 * h) (hr : Ints64 W) (a : Int) : Calls Tryz.prog 47 #[.pointer (some ⟨b, 0, none⟩), .int .i64 a] w fun e w' => e = .returned (.tuple #[.int .i64 (lk h l W a).1, .bool (lk h l W a).2]) ∧ Below w.heap.size w w' := by
  have HR := Lib.hid (rright_is k)
  have HC := Lib.hid (fun u (y : Below w.heap.size w u) => rcontrol_is (k.below y))
  cases q1 : hOk h l W with
  | false =>
    rw [show lk h l W a = (0, false) from if_pos q1]
    rw [q1] at HR
    clear k q1 hWl hr HC
    go_enter Tryz.func47, Tryz.ntmps47
    go_wp2_with (first
      | (go_at_call 79; refine HR.out.mono ?_; rintro e w1 ⟨rfl, b1⟩; have H1 := Lib.hid b1; clear b1))
    all_goals go_ret2
    all_goals exact ⟨rfl, H1.out⟩
  | true =>
    rw [q1] at HR
    have n1 : ¬ hOk h l W = false := by rw [q1]; decide
    obtain ⟨f1, f2, _, f4, _⟩ := fine_yes q1
    have hq := geOk_yes f1
    have f3 : (1 - hSp W) = 0 ∨ (1 - hSp W) = 1 := by omega
    have hm : 0 ≤ hSp W * h ∧ hSp W * h ≤ h := by rcases f2 with e | e <;> rw [e] <;> omega
    have hm2 : 0 ≤ (1 - hSp W) * h ∧ (1 - hSp W) * h ≤ h := by rcases f3 with e | e <;> rw [e] <;> omega
    have z0 : 0 ≤ hSp W := by omega
    have z1 : hSp W ≤ 1 := by omega
    have HI := Lib.hid (fun u (y : Below w.heap.size w u) => rin_is (k.below y) f1 (hSp W) f2 a)
    have HJ := Lib.hid (fun u (y : Below w.heap.size w u) => rin_is (k.below y) f1 (1 - hSp W) f3 a)
    by_cases a0 : a = 0
    · rw [show lk h l W a = (a, true) from by rw [lk, if_neg n1, if_pos (.inl a0)]]
      subst a0
      clear k q1 hWl hr n1 f1 f2 f3 f4 hq hm hm2 HI HJ
      generalize hSp W = x0 at *
      generalize hFr W = x1 at *
      generalize hGc W = x2 at *
      generalize hSc W = x3 at *
      go_enter Tryz.func47, Tryz.ntmps47
      go_wp2_with (first
        | (go_at_call 79; refine HR.out.mono ?_; rintro e w1 ⟨rfl, b1⟩; have H1 := Lib.hid b1; clear b1)
        | (go_at_call 39; refine (HC.out _ H1.out).mono ?_; rintro e w2 ⟨rfl, b2⟩; have H2 := Lib.hid (geo_next H1.out b2); clear b2; have M2 := Lib.hid trivial))
      all_goals go_ret2
      all_goals exact ⟨rfl, H2.out⟩
    cases q2 : inB h (hSp W) a with
    | true =>
      rw [show lk h l W a = (a, true) from by rw [lk, if_neg n1, if_pos (.inr q2)]]
      rw [q2] at HI
      clear k q1 q2 hWl hr n1 f1 f2 f3 f4 hq hm hm2 HJ
      generalize hSp W = x0 at *
      generalize hFr W = x1 at *
      generalize hGc W = x2 at *
      generalize hSc W = x3 at *
      go_enter Tryz.func47, Tryz.ntmps47
      go_wp2_with (first
        | (go_at_call 79; refine HR.out.mono ?_; rintro e w1 ⟨rfl, b1⟩; have H1 := Lib.hid b1; clear b1)
        | (go_at_call 39; refine (HC.out _ H1.out).mono ?_; rintro e w2 ⟨rfl, b2⟩; have H2 := Lib.hid (geo_next H1.out b2); clear b2; have M2 := Lib.hid trivial)
        | (go_at_call 48; clear M2; refine (HI.out _ H2.out).mono ?_; rintro e w3 ⟨rfl, b3⟩; have H3 := Lib.hid (geo_next H2.out b3); clear b3; have M3 := Lib.hid trivial))
      all_goals go_ret2
      all_goals exact ⟨rfl, H3.out⟩
    | false =>
      rw [q2] at HI
      have n2 : ¬ (a = 0 ∨ inB h (hSp W) a = true) := by rw [q2]; simp [a0]
      by_cases g0 : hGc W = 0
      · rw [show lk h l W a = (0, false) from by rw [lk, if_neg n1, if_neg n2, if_pos (.inl g0)]]
        rw [g0] at HC
        clear k q1 q2 hWl hr n1 n2 f1 f2 f3 f4 hq hm hm2 HJ g0
        generalize hSp W = x0 at *
        generalize hFr W = x1 at *
        generalize hSc W = x3 at *
        go_enter Tryz.func47, Tryz.ntmps47
        go_wp2_with (first
          | (go_at_call 79; refine HR.out.mono ?_; rintro e w1 ⟨rfl, b1⟩; have H1 := Lib.hid b1; clear b1)
          | (go_at_call 39; refine (HC.out _ H1.out).mono ?_; rintro e w2 ⟨rfl, b2⟩; have H2 := Lib.hid (geo_next H1.out b2); clear b2; have M2 := Lib.hid trivial)
          | (go_at_call 48; clear M2; refine (HI.out _ H2.out).mono ?_; rintro e w3 ⟨rfl, b3⟩; have H3 := Lib.hid (geo_next H2.out b3); clear b3; have M3 := Lib.hid trivial))
        all_goals go_ret2
        all_goals exact ⟨rfl, H3.out⟩
      cases q3 : inB h (1 - hSp W) a with
      | false =>
        rw [show lk h l W a = (0, false) from by rw [lk, if_neg n1, if_neg n2, if_pos (.inr q3)]]
        rw [q3] at HJ
        have HD := Lib.hid (fun (u : World) (_ : Below w.heap.size w u) => And.intro trivial trivial)
        clear k q1 q2 q3 hWl hr n1 n2 f1 f2 f3 f4 hq hm hm2
        generalize hSp W = x0 at *
        generalize hFr W = x1 at *
        generalize hGc W = x2 at *
        generalize hSc W = x3 at *
        go_enter Tryz.func47, Tryz.ntmps47
        go_wp2_with (first
          | (go_at_call 79; refine HR.out.mono ?_; rintro e w1 ⟨rfl, b1⟩; have H1 := Lib.hid b1; clear b1)
          | (go_at_call 39; refine (HC.out _ H1.out).mono ?_; rintro e w2 ⟨rfl, b2⟩; have H2 := Lib.hid (geo_next H1.out b2); clear b2; have M2 := Lib.hid trivial)
          | (go_at_call 48; clear M2; refine (HI.out _ H2.out).mono ?_; rintro e w3 ⟨rfl, b3⟩; have H3 := Lib.hid (geo_next H2.out b3); clear b3; have M3 := Lib.hid trivial)
          | (go_at_call 48; clear M3; refine (HJ.out _ H3.out).mono ?_; rintro e w4 ⟨rfl, b4⟩; have H4 := Lib.hid (geo_next H3.out b4); clear b4; have M4 := Lib.hid trivial; obtain ⟨d0, d1⟩ := HD.out _ H4.out))
        all_goals go_ret2
        all_goals exact ⟨rfl, H4.out⟩
      | true =>
        rw [q3] at HJ
        have n3 : ¬ (hGc W = 0 ∨ inB h (1 - hSp W) a = false) := by rw [q3]; simp [g0]
        have hi : 16 + (1 - hSp W) * h ≤ a ∧ a < 16 + (1 - hSp W) * h + h := of_decide_eq_true q3
        obtain ⟨n, hn⟩ := Int.eq_ofNat_of_zero_le (show 0 ≤ a by omega)
        subst hn
        have hnl : (n : Int) < (W.length : Int) := by omega
        have hnn : n < W.length := by omega
        have hle := k.le
        have hn40 : n ≤ 1000 := by omega
        have HD := Lib.hid (fun u (y : Below w.heap.size w u) => (show u.cell? ⟨b, 2, none⟩ = some (.slice (some ⟨g, 0, none⟩) W.length c) ∧ u.cell? ⟨g, n, none⟩ = some (.int .i64 (W.getD n 0)) from ⟨(k.below y).cs.2.2, ((k.below y).at hnn).1⟩))
        have HG := Lib.hid (fun u (y : Below w.heap.size w u) => (show u.cell? ⟨b, 0, none⟩ = some (.int .i64 h) ∧ u.cell? ⟨b, 1, none⟩ = some (.int .i64 l) from ⟨(k.below y).cs.1, (k.below y).cs.2.1⟩))
        have HF := Lib.hid (fun u => rforwarded_is (W.getD n 0) (hr n).1 (hr n).2 u)
        have HP := Lib.hid (fun u => rparse_is (W.getD n 0) u)
        have HB := Lib.hid (fun u => rbase_is h l (1 - hSp W) f1 f3 u)
        rw [ge_base f1 f3] at HB
        have HK3 := Lib.hid (fun u (y : Below w.heap.size w u) => rin_is (k.below y) f1 (hSp W) f2 (fwA (W.getD n 0)))
        have hp := shOk_yes (pr_range (W.getD n 0))
        by_cases q4 : fwOk (W.getD n 0) = true
        · rw [q4] at HF
          cases q5 : inB h (hSp W) (fwA (W.getD n 0)) with
          | true =>
            rw [show lk h l W n = (fwA (W.getD n 0), true) from by rw [lk, if_neg n1, if_neg n2, if_neg n3, Int.toNat_natCast, if_pos q4, if_pos q5]]
            rw [q5] at HK3
            clear k q1 q2 q3 q4 q5 hWl hr n1 n2 n3 f1 f2 f3 f4 hq hm hm2 hi hp HG HP HB
            generalize fwA (W.getD n 0) = tt at *
            generalize W.getD n 0 = v at *
            generalize hSp W = x0 at *
            generalize hFr W = x1 at *
            generalize hGc W = x2 at *
            generalize hSc W = x3 at *
            go_enter Tryz.func47, Tryz.ntmps47
            go_wp2_with (first
              | (go_at_call 79; refine HR.out.mono ?_; rintro e w1 ⟨rfl, b1⟩; have H1 := Lib.hid b1; clear b1)
              | (go_at_call 39; refine (HC.out _ H1.out).mono ?_; rintro e w2 ⟨rfl, b2⟩; have H2 := Lib.hid (geo_next H1.out b2); clear b2; have M2 := Lib.hid trivial)
              | (go_at_call 48; clear M2; refine (HI.out _ H2.out).mono ?_; rintro e w3 ⟨rfl, b3⟩; have H3 := Lib.hid (geo_next H2.out b3); clear b3; have M3 := Lib.hid trivial)
              | (go_at_call 48; clear M3; refine (HJ.out _ H3.out).mono ?_; rintro e w4 ⟨rfl, b4⟩; have H4 := Lib.hid (geo_next H3.out b4); clear b4; have M4 := Lib.hid trivial; obtain ⟨d0, d1⟩ := HD.out _ H4.out)
              | (go_at_call 80; refine (HF.out _).mono ?_; rintro e w' ⟨rfl, hw⟩; obtain rfl : w4 = w' := hw.symm)
              | (go_at_call 48; clear M4; refine (HK3.out _ H4.out).mono ?_; rintro e w5 ⟨rfl, b5⟩; have H5 := Lib.hid (geo_next H4.out b5); clear b5))
            all_goals go_ret2
            all_goals exact ⟨rfl, H5.out⟩
          | false =>
            rw [show lk h l W n = (0, false) from by rw [lk, if_neg n1, if_neg n2, if_neg n3, Int.toNat_natCast, if_pos q4, if_neg (by rw [q5]; decide)]]
            rw [q5] at HK3
            clear k q1 q2 q3 q4 q5 hWl hr n1 n2 n3 f1 f2 f3 f4 hq hm hm2 hi hp HG HP HB
            generalize fwA (W.getD n 0) = tt at *
            generalize W.getD n 0 = v at *
            generalize hSp W = x0 at *
            generalize hFr W = x1 at *
            generalize hGc W = x2 at *
            generalize hSc W = x3 at *
            go_enter Tryz.func47, Tryz.ntmps47
            go_wp2_with (first
              | (go_at_call 79; refine HR.out.mono ?_; rintro e w1 ⟨rfl, b1⟩; have H1 := Lib.hid b1; clear b1)
              | (go_at_call 39; refine (HC.out _ H1.out).mono ?_; rintro e w2 ⟨rfl, b2⟩; have H2 := Lib.hid (geo_next H1.out b2); clear b2; have M2 := Lib.hid trivial)
              | (go_at_call 48; clear M2; refine (HI.out _ H2.out).mono ?_; rintro e w3 ⟨rfl, b3⟩; have H3 := Lib.hid (geo_next H2.out b3); clear b3; have M3 := Lib.hid trivial)
              | (go_at_call 48; clear M3; refine (HJ.out _ H3.out).mono ?_; rintro e w4 ⟨rfl, b4⟩; have H4 := Lib.hid (geo_next H3.out b4); clear b4; have M4 := Lib.hid trivial; obtain ⟨d0, d1⟩ := HD.out _ H4.out)
              | (go_at_call 80; refine (HF.out _).mono ?_; rintro e w' ⟨rfl, hw⟩; obtain rfl : w4 = w' := hw.symm)
              | (go_at_call 48; clear M4; refine (HK3.out _ H4.out).mono ?_; rintro e w5 ⟨rfl, b5⟩; have H5 := Lib.hid (geo_next H4.out b5); clear b5))
            all_goals go_ret2
            all_goals exact ⟨rfl, H5.out⟩
        · rw [Bool.eq_false_iff.mpr q4] at HF
          by_cases q6 : hdOk (W.getD n 0) = true
          · rw [q6] at HP
            obtain ⟨p0, p1, p2, p3⟩ := hp
            by_cases q7 : (n : Int) + 1 + prS (W.getD n 0) + prW (W.getD n 0) ≤ 16 + (1 - hSp W) * h + h
            · rw [show lk h l W n = ((n : Int), true) from by rw [lk, if_neg n1, if_neg n2, if_neg n3, Int.toNat_natCast, if_neg q4, if_pos ⟨q6, q7⟩]]
              have hb0 : 0 ≤ 16 + (1 - hSp W) * h := by omega
              have hb1 : 16 + (1 - hSp W) * h ≤ 1000 := by omega
              obtain ⟨hq1, hq2, _, _⟩ := hq
              clear k q1 q2 q3 q4 q6 hWl hr n1 n2 n3 f1 f2 f3 f4 hm hm2 hi HK3
              generalize fwA (W.getD n 0) = tt at *
              generalize prS (W.getD n 0) = ps at *
              generalize prW (W.getD n 0) = pw at *
              generalize W.getD n 0 = v at *
              generalize 16 + (1 - hSp W) * h = base at *
              generalize hSp W = x0 at *
              generalize hFr W = x1 at *
              generalize hGc W = x2 at *
              generalize hSc W = x3 at *
              have hwx : IntKind.i64.wrap (1 - x0) = 1 - x0 := by rw [IntKind.wrap_i64]; omega
              have hw1 : IntKind.i64.wrap (base + h) = base + h := by rw [IntKind.wrap_i64]; omega
              have hw2 : IntKind.i64.wrap ((n : Int) + 1) = (n : Int) + 1 := by rw [IntKind.wrap_i64]; omega
              have hw3 : IntKind.i64.wrap ((n : Int) + 1 + ps) = (n : Int) + 1 + ps := by rw [IntKind.wrap_i64]; omega
              have hw4 : IntKind.i64.wrap ((n : Int) + 1 + ps + pw) = (n : Int) + 1 + ps + pw := by rw [IntKind.wrap_i64]; omega
              go_enter Tryz.func47, Tryz.ntmps47
              go_wp2_with (first
                | (go_at_call 79; refine HR.out.mono ?_; rintro e w1 ⟨rfl, b1⟩; have H1 := Lib.hid b1; clear b1)
                | (go_at_call 39; refine (HC.out _ H1.out).mono ?_; rintro e w2 ⟨rfl, b2⟩; have H2 := Lib.hid (geo_next H1.out b2); clear b2; have M2 := Lib.hid trivial)
                | (go_at_call 48; clear M2; refine (HI.out _ H2.out).mono ?_; rintro e w3 ⟨rfl, b3⟩; have H3 := Lib.hid (geo_next H2.out b3); clear b3; have M3 := Lib.hid trivial)
                | (go_at_call 48; clear M3; refine (HJ.out _ H3.out).mono ?_; rintro e w4 ⟨rfl, b4⟩; have H4 := Lib.hid (geo_next H3.out b4); clear b4; have M4 := Lib.hid trivial; obtain ⟨d0, d1⟩ := HD.out _ H4.out)
                | (go_at_call 80; refine (HF.out _).mono ?_; rintro e w' ⟨rfl, hw⟩; obtain rfl : w4 = w' := hw.symm)
                | (go_at_call 41; refine (HP.out _).mono ?_; rintro e w' ⟨rfl, hw⟩; obtain rfl : w4 = w' := hw.symm))
              have HS := Lib.hid (fun u (x : Below w4.heap.size w4 u) => HG.out u (geo_next H4.out x))
              go_region_held3 (fun u => u.cell? ⟨b, 0, none⟩ = some (.int .i64 h) ∧ u.cell? ⟨b, 1, none⟩ = some (.int .i64 l)) (first
                  | assumption
                  | exact HS.out _ (Below.refl _ _)
                  | exact HS.out _ (Below.refl _ _).drew
                  | exact HS.out _ b6) (first
                | (go_at_call 76
                   refine (HB.out _).mono ?_
                   rintro e' w6 ⟨rfl, b6⟩
                   replace b6 : Below w4.heap.size w4 w6 := (by first | exact Below.refl _ _ | exact (Below.refl _ _).drew : Below w4.heap.size w4 _).trans (b6.mono (by first | exact Nat.le_refl _ | simp))
                   have H6 := Lib.hid (geo_next H4.out b6)))
              all_goals
                go_wp2
                go_ret2
                exact ⟨rfl, H6.out⟩
            · rw [show lk h l W n = (0, false) from by rw [lk, if_neg n1, if_neg n2, if_neg n3, Int.toNat_natCast, if_neg q4, if_neg (fun z => q7 z.2)]]
              have hb0 : 0 ≤ 16 + (1 - hSp W) * h := by omega
              have hb1 : 16 + (1 - hSp W) * h ≤ 1000 := by omega
              obtain ⟨hq1, hq2, _, _⟩ := hq
              clear k q1 q2 q3 q4 q6 hWl hr n1 n2 n3 f1 f2 f3 f4 hm hm2 hi HK3
              generalize fwA (W.getD n 0) = tt at *
              generalize prS (W.getD n 0) = ps at *
              generalize prW (W.getD n 0) = pw at *
              generalize W.getD n 0 = v at *
              generalize 16 + (1 - hSp W) * h = base at *
              generalize hSp W = x0 at *
              generalize hFr W = x1 at *
              generalize hGc W = x2 at *
              generalize hSc W = x3 at *
              have hwx : IntKind.i64.wrap (1 - x0) = 1 - x0 := by rw [IntKind.wrap_i64]; omega
              have hw1 : IntKind.i64.wrap (base + h) = base + h := by rw [IntKind.wrap_i64]; omega
              have hw2 : IntKind.i64.wrap ((n : Int) + 1) = (n : Int) + 1 := by rw [IntKind.wrap_i64]; omega
              have hw3 : IntKind.i64.wrap ((n : Int) + 1 + ps) = (n : Int) + 1 + ps := by rw [IntKind.wrap_i64]; omega
              have hw4 : IntKind.i64.wrap ((n : Int) + 1 + ps + pw) = (n : Int) + 1 + ps + pw := by rw [IntKind.wrap_i64]; omega
              go_enter Tryz.func47, Tryz.ntmps47
              go_wp2_with (first
                | (go_at_call 79; refine HR.out.mono ?_; rintro e w1 ⟨rfl, b1⟩; have H1 := Lib.hid b1; clear b1)
                | (go_at_call 39; refine (HC.out _ H1.out).mono ?_; rintro e w2 ⟨rfl, b2⟩; have H2 := Lib.hid (geo_next H1.out b2); clear b2; have M2 := Lib.hid trivial)
                | (go_at_call 48; clear M2; refine (HI.out _ H2.out).mono ?_; rintro e w3 ⟨rfl, b3⟩; have H3 := Lib.hid (geo_next H2.out b3); clear b3; have M3 := Lib.hid trivial)
                | (go_at_call 48; clear M3; refine (HJ.out _ H3.out).mono ?_; rintro e w4 ⟨rfl, b4⟩; have H4 := Lib.hid (geo_next H3.out b4); clear b4; have M4 := Lib.hid trivial; obtain ⟨d0, d1⟩ := HD.out _ H4.out)
                | (go_at_call 80; refine (HF.out _).mono ?_; rintro e w' ⟨rfl, hw⟩; obtain rfl : w4 = w' := hw.symm)
                | (go_at_call 41; refine (HP.out _).mono ?_; rintro e w' ⟨rfl, hw⟩; obtain rfl : w4 = w' := hw.symm))
              have HS := Lib.hid (fun u (x : Below w4.heap.size w4 u) => HG.out u (geo_next H4.out x))
              go_region_held3 (fun u => u.cell? ⟨b, 0, none⟩ = some (.int .i64 h) ∧ u.cell? ⟨b, 1, none⟩ = some (.int .i64 l)) (first
                  | assumption
                  | exact HS.out _ (Below.refl _ _)
                  | exact HS.out _ (Below.refl _ _).drew
                  | exact HS.out _ b6) (first
                | (go_at_call 76
                   refine (HB.out _).mono ?_
                   rintro e' w6 ⟨rfl, b6⟩
                   replace b6 : Below w4.heap.size w4 w6 := (by first | exact Below.refl _ _ | exact (Below.refl _ _).drew : Below w4.heap.size w4 _).trans (b6.mono (by first | exact Nat.le_refl _ | simp))
                   have H6 := Lib.hid (geo_next H4.out b6)))
              all_goals
                go_wp2
                go_ret2
                exact ⟨rfl, H6.out⟩
          · rw [show lk h l W n = (0, false) from by rw [lk, if_neg n1, if_neg n2, if_neg n3, Int.toNat_natCast, if_neg q4, if_neg (fun z => q6 z.1)]]
            rw [Bool.eq_false_iff.mpr q6] at HP
            clear k q1 q2 q3 q4 q6 hWl hr n1 n2 n3 f1 f2 f3 f4 hq hm hm2 hi hp HB HK3
            generalize fwA (W.getD n 0) = tt at *
            generalize prS (W.getD n 0) = ps at *
            generalize prW (W.getD n 0) = pw at *
            generalize W.getD n 0 = v at *
            generalize hSp W = x0 at *
            generalize hFr W = x1 at *
            generalize hGc W = x2 at *
            generalize hSc W = x3 at *
            go_enter Tryz.func47, Tryz.ntmps47
            go_wp2_with (first
              | (go_at_call 79; refine HR.out.mono ?_; rintro e w1 ⟨rfl, b1⟩; have H1 := Lib.hid b1; clear b1)
              | (go_at_call 39; refine (HC.out _ H1.out).mono ?_; rintro e w2 ⟨rfl, b2⟩; have H2 := Lib.hid (geo_next H1.out b2); clear b2; have M2 := Lib.hid trivial)
              | (go_at_call 48; clear M2; refine (HI.out _ H2.out).mono ?_; rintro e w3 ⟨rfl, b3⟩; have H3 := Lib.hid (geo_next H2.out b3); clear b3; have M3 := Lib.hid trivial)
              | (go_at_call 48; clear M3; refine (HJ.out _ H3.out).mono ?_; rintro e w4 ⟨rfl, b4⟩; have H4 := Lib.hid (geo_next H3.out b4); clear b4; have M4 := Lib.hid trivial; obtain ⟨d0, d1⟩ := HD.out _ H4.out)
              | (go_at_call 80; refine (HF.out _).mono ?_; rintro e w' ⟨rfl, hw⟩; obtain rfl : w4 = w' := hw.symm)
              | (go_at_call 41; refine (HP.out _).mono ?_; rintro e w' ⟨rfl, hw⟩; obtain rfl : w4 = w' := hw.symm))
            go_quiet (fail)
            go_wp2_with fail
            go_ret2
            exact ⟨rfl, bel_drewN H4.out _⟩
end
end Go.Proofs.YtbghglkplbnnkaaGreatDoor
