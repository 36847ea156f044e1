import Derived.Deep.RegionHeld3
import Derived.Test.YtbghglkplbnnkaaGreatDoorYBook
import Derived.Test.YtbghglkplbnnkaaGreatDoorYObj
import Derived.Test.YtbghglkplbnnkaaGreatDoorYGeo
set_option linter.unusedVariables false
set_option linter.unusedSimpArgs false
-- HeapBase
namespace Go.Proofs.YtbghglkplbnnkaaGreatDoor.Sec
end Go.Proofs.YtbghglkplbnnkaaGreatDoor.Sec
namespace Go.Proofs.YtbghglkplbnnkaaGreatDoor
open Go.RowKit
open Go.Proofs.YtbghglkplbnnkaaGreatDoor.Bk

theorem hb_same {w w' : World} {base : Nat} {e : TypeId} {k n : Nat} {v : Value} {xs : List Value} (h : w.ownsRow base e k v n xs) (hb : ∀ g, v.ownBlock = some g → w'.heap[g]? = w.heap[g]?) : w'.ownsRow base e k v n xs := by
  refine ⟨h.1, ?_⟩
  rcases h.2 with q | ⟨g, cap, cur, hv, hg, hh, r⟩
  · exact .inl q
  · exact .inr ⟨g, cap, cur, hv, hg, (hb g (by rw [hv]; rfl)).trans hh, r⟩
theorem hb_vals {l : List Int} {k : Nat} (h : k < l.length) : (vals l)[k]? = some (.int .i64 (l.getD k 0)) := by simp [vals, h]
theorem hb_results4 {fn : Func} {t u v x : Tmp} (h : fn.results = #[.tmp t, .tmp u, .tmp v, .tmp x]) (tmps : Array Value) (P : Program) (w : World) :
    (results fn tmps).run P w = .ok (.tuple #[tmps.getD t undef, tmps.getD u undef, tmps.getD v undef, tmps.getD x undef]) w := by
  simp [results, h]
def hbNum (x : Int) : Bool := decide (0 ≤ x ∧ x < 4294967296)
set_option maxRecDepth 100000 in
theorem hb_number (v : Int) (w : World) : Calls Tryz.prog 30 #[.int .i64 v] w fun e w' => e = .returned (.bool (decide (0 ≤ v ∧ v < 4294967296))) ∧ w' = w := by
  by_cases h : 0 ≤ v
  · by_cases h1 : v < 4294967296
    · rw [decide_eq_true (show 0 ≤ v ∧ v < 4294967296 from ⟨h, h1⟩)]
      go_enter Tryz.func30, Tryz.ntmps30
      go_wp2
      all_goals
        go_ret
        exact ⟨rfl, rfl⟩
    · rw [decide_eq_false (show ¬ (0 ≤ v ∧ v < 4294967296) by omega)]
      go_enter Tryz.func30, Tryz.ntmps30
      go_wp2
      all_goals
        go_ret
        exact ⟨rfl, rfl⟩
  · rw [decide_eq_false (show ¬ (0 ≤ v ∧ v < 4294967296) by omega)]
    go_enter Tryz.func30, Tryz.ntmps30
    go_wp2
    all_goals
      go_ret
      exact ⟨rfl, rfl⟩

end Go.Proofs.YtbghglkplbnnkaaGreatDoor
-- HeapRef
namespace Go.Proofs.YtbghglkplbnnkaaGreatDoor
open Go.RowKit Sec
open Go.Proofs.YtbghglkplbnnkaaGreatDoor.Bk

def fineB (h l sp fr gc sc : Int) : Bool :=
  geOk h l && (decide (0 ≤ sp ∧ sp ≤ 1 ∧ 0 ≤ gc ∧ gc ≤ 1) && (decide (16 + sp * h ≤ fr ∧ fr ≤ 16 + sp * h + h) && (decide (gc = 0 ∧ sc = 0) || decide (gc = 1 ∧ 16 + sp * h ≤ sc ∧ sc ≤ fr))))
def hSp (W : List Int) : Int := W.getD 0 0
def hFr (W : List Int) : Int := W.getD 1 0
def hGc (W : List Int) : Int := W.getD 2 0
def hSc (W : List Int) : Int := W.getD 3 0
def hOk (h l : Int) (W : List Int) : Bool := fineB h l (hSp W) (hFr W) (hGc W) (hSc W)
def inB (h sp a : Int) : Bool := decide (16 + sp * h ≤ a ∧ a < 16 + sp * h + h)
theorem fine_yes {h l sp fr gc sc : Int} (q : fineB h l sp fr gc sc = true) : geOk h l = true ∧ (sp = 0 ∨ sp = 1) ∧ (gc = 0 ∨ gc = 1) ∧ (16 + sp * h ≤ fr ∧ fr ≤ 16 + sp * h + h) ∧ ((gc = 0 ∧ sc = 0) ∨ (gc = 1 ∧ 16 + sp * h ≤ sc ∧ sc ≤ fr)) := by
  simp only [fineB, Bool.and_eq_true, Bool.or_eq_true] at q
  obtain ⟨q1, q2, q3, q4⟩ := q
  have q2 := of_decide_eq_true q2
  have q3 := of_decide_eq_true q3
  refine ⟨q1, by omega, by omega, q3, ?_⟩
  rcases q4 with q4 | q4
  · exact .inl (of_decide_eq_true q4)
  · exact .inr (of_decide_eq_true q4)

structure HIs (B : Nat) (w : World) (b : Nat) (h l : Int) (W : List Int) (g c : Nat) : Prop where
  hp : B ≤ b
  blk : w.heap[b]? = some (.cells #[.int .i64 h, .int .i64 l, .slice (some ⟨g, 0, none⟩) W.length c] 77 (0, 0))
  o : w.ownsRow B 3 1 (.slice (some ⟨g, 0, none⟩) W.length c) W.length (vals W)
  ge : 16 ≤ W.length
  le : W.length ≤ 1000
section
variable {B : Nat} {w w' : World} {b g c : Nat} {h l : Int} {W : List Int}
theorem HIs.lt (k : HIs B w b h l W g c) : b < w.heap.size := by
  have hb := k.blk
  rcases Nat.lt_or_ge b w.heap.size with q | q
  · exact q
  · simp [Array.getElem?_eq_none q] at hb
theorem HIs.cs (k : HIs B w b h l W g c) : w.cell? ⟨b, 0, none⟩ = some (.int .i64 h) ∧ w.cell? ⟨b, 1, none⟩ = some (.int .i64 l) ∧ w.cell? ⟨b, 2, none⟩ = some (.slice (some ⟨g, 0, none⟩) W.length c) := by
  have hb := k.blk
  refine ⟨?_, ?_, ?_⟩ <;> simp [World.cell?, hb]
theorem HIs.glt (k : HIs B w b h l W g c) : B ≤ g ∧ g < w.heap.size := k.o.lt g rfl
theorem HIs.of_blocks (k : HIs B w b h l W g c) (e : ∀ i, i = b ∨ i = g → w'.heap[i]? = w.heap[i]?) : HIs B w' b h l W g c :=
  ⟨k.hp, (e b (.inl rfl)).trans k.blk, hb_same k.o (fun i q => e i (.inr (by simp only [Value.ownBlock, Option.some.injEq] at q; exact q.symm))), k.ge, k.le⟩
theorem HIs.below (k : HIs B w b h l W g c) (x : Below w.heap.size w w') : HIs B w' b h l W g c := k.of_blocks fun i q => x.block i (by rcases q with rfl | rfl; exact k.lt; exact k.glt.2)
theorem HIs.at (k : HIs B w b h l W g c) {i : Nat} (hi : i < W.length) : w.cell? ⟨g, i, none⟩ = some (.int .i64 (W.getD i 0)) ∧ w.frozen? ⟨g, i, none⟩ = false := owns_cell k.o (hb_vals hi)
set_option maxRecDepth 100000 in
set_option maxHeartbeats 2000000 in
theorem rcontrol_is (k : HIs B w b h l W g c) : Calls Tryz.prog 39 #[.pointer (some ⟨b, 0, none⟩)] w fun e w' => e = .returned (.tuple #[.int .i64 (hSp W), .int .i64 (hFr W), .int .i64 (hGc W), .int .i64 (hSc W)]) ∧ Below w.heap.size w w' := by
  have hge := k.ge
  have hgei : (4 : Int) ≤ (W.length : Int) := by omega
  have y0 : (0 : Int) < (W.length : Int) := by omega
  have y0n : 0 < W.length := by omega
  have y1 : (1 : Int) < (W.length : Int) := by omega
  have y2 : (2 : Int) < (W.length : Int) := by omega
  have y3 : (3 : Int) < (W.length : Int) := by omega
  have c2 := k.cs.2.2
  have d0 : w.cell? ⟨g, 0, none⟩ = some (.int .i64 (hSp W)) := (k.at (i := 0) (by omega)).1
  have d1 : w.cell? ⟨g, 1, none⟩ = some (.int .i64 (hFr W)) := (k.at (i := 1) (by omega)).1
  have d2 : w.cell? ⟨g, 2, none⟩ = some (.int .i64 (hGc W)) := (k.at (i := 2) (by omega)).1
  have d3 : w.cell? ⟨g, 3, none⟩ = some (.int .i64 (hSc W)) := (k.at (i := 3) (by omega)).1
  have hB := Lib.hid (Below.refl w.heap.size w)
  clear k
  generalize hSp W = x0 at *
  generalize hFr W = x1 at *
  generalize hGc W = x2 at *
  generalize hSc W = x3 at *
  generalize W.length = n at *
  go_enter Tryz.func39, Tryz.ntmps39
  go_wp2
  go_region_held3 (fun u => u.cell? ⟨b, 2, none⟩ = some (.slice (some ⟨g, 0, none⟩) n c) ∧ u.cell? ⟨g, 0, none⟩ = some (.int .i64 x0) ∧ u.cell? ⟨g, 1, none⟩ = some (.int .i64 x1) ∧ u.cell? ⟨g, 2, none⟩ = some (.int .i64 x2) ∧ u.cell? ⟨g, 3, none⟩ = some (.int .i64 x3) ∧ Below w.heap.size w u) (first
      | assumption
      | exact ⟨c2, d0, d1, d2, d3, (Below.refl w.heap.size w).drew⟩
      | exact ⟨c2, d0, d1, d2, d3, Below.refl w.heap.size w⟩) (first | fail)
  rename_i hH
  have HK := Lib.hid hH.2.2.2.2.2
  clear hH
  go_wp2_with fail
  refine bodyPost_ret (hb_results4 rfl _ _ _) rfl ?_
  exact ⟨rfl, HK.out⟩
end
end Go.Proofs.YtbghglkplbnnkaaGreatDoor
-- HeapFine
namespace Go.Proofs.YtbghglkplbnnkaaGreatDoor
open Go.RowKit Sec
open Go.Proofs.YtbghglkplbnnkaaGreatDoor.Bk

theorem ge_base {h l sp : Int} (q : geOk h l = true) (hs : sp = 0 ∨ sp = 1) : geBase h l sp = 16 + sp * h := by
  rw [geBase, if_pos]
  rw [geHalf, q, Bool.true_and]
  exact decide_eq_true (by omega)
theorem fine_no0 {h l sp fr gc sc : Int} (q : geOk h l = false) : fineB h l sp fr gc sc = false := by rw [fineB, q]; rfl
theorem fine_no1 {h l sp fr gc sc : Int} (q : ¬ (0 ≤ sp ∧ sp ≤ 1 ∧ 0 ≤ gc ∧ gc ≤ 1)) : fineB h l sp fr gc sc = false := by rw [fineB, decide_eq_false q]; simp
theorem fine_mid {h l sp fr gc sc : Int} (q0 : geOk h l = true) (q : 0 ≤ sp ∧ sp ≤ 1 ∧ 0 ≤ gc ∧ gc ≤ 1) : fineB h l sp fr gc sc = (decide (16 + sp * h ≤ fr ∧ fr ≤ 16 + sp * h + h) && (decide (gc = 0 ∧ sc = 0) || decide (gc = 1 ∧ 16 + sp * h ≤ sc ∧ sc ≤ fr))) := by
  rw [fineB, q0, decide_eq_true q]
  simp
set_option maxRecDepth 100000 in
set_option maxHeartbeats 2000000 in
theorem rfine_is (h l sp fr gc sc : Int) (w : World) : Calls Tryz.prog 95 #[.agg #[.int .i64 h, .int .i64 l], .int .i64 sp, .int .i64 fr, .int .i64 gc, .int .i64 sc] w fun e w' => e = .returned (.bool (fineB h l sp fr gc sc)) ∧ Below w.heap.size w w' := by
  have HG := Lib.hid (rgeo_is h l)
  cases q : geOk h l
  · rw [fine_no0 q]
    rw [q] at HG
    clear q
    go_enter Tryz.func95, Tryz.ntmps95
    go_wp2_with (go_at_call 7; refine (HG.out _).mono ?_; rintro e' w1 ⟨rfl, b1⟩; have HK := Lib.hid (GBox.laid b1); clear b1)
    go_ret
    exact ⟨rfl, HK.out.2⟩
  · rw [q] at HG
    by_cases c : 0 ≤ sp ∧ sp ≤ 1 ∧ 0 ≤ gc ∧ gc ≤ 1
    · have hq := geOk_yes q
      have hs : sp = 0 ∨ sp = 1 := by omega
      have HB := Lib.hid (fun u => rbase_is h l sp q hs u)
      rw [ge_base q hs] at HB
      rw [fine_mid q c]
      obtain ⟨base, hbase⟩ : ∃ base, base = 16 + sp * h := ⟨_, rfl⟩
      have hb0 : 0 ≤ base ∧ base ≤ 1000 := by rcases hs with rfl | rfl <;> omega
      rw [← hbase] at HB ⊢
      obtain ⟨b0, b1'⟩ := hb0
      obtain ⟨c1, c2, c3, c4⟩ := c
      have h4 : h ≤ 400 := by omega
      have h8 : 8 ≤ h := by omega
      clear q hq hs hbase
      have e1 : (fr < base) ∨ (base ≤ fr ∧ base + h < fr) ∨ (base ≤ fr ∧ fr ≤ base + h) := by omega
      rcases e1 with e1 | ⟨e1, e2⟩ | ⟨e1, e2⟩
      rotate_right
      · rw [decide_eq_true (show base ≤ fr ∧ fr ≤ base + h from ⟨e1, e2⟩), Bool.true_and]
        have hgc : gc = 0 ∨ gc = 1 := by omega
        rcases hgc with rfl | rfl
        · by_cases hs : sc = 0
          · subst hs
            go_enter Tryz.func95, Tryz.ntmps95
            go_wp2_with (first
              | (go_at_call 7; refine (HG.out _).mono ?_; rintro e' w1 ⟨rfl, b1⟩; have HK := Lib.hid ((GBox.laid b1).1.keep (GBox.laid b1).2); obtain ⟨z0, z1, _, _⟩ := HK.out; clear b1)
              | (go_at_call 76; refine (HB.out _).mono ?_; rintro e' w2 ⟨rfl, b2⟩; replace HK := Lib.hid (gkeep HK.out b2); clear b2 z0 z1; obtain ⟨z0, z1, _, _⟩ := HK.out))
            go_ret
            exact ⟨geo_b (by simp), HK.out.2.2.2⟩
          · have hsf : (sc == 0) = false := by simpa using hs
            go_enter Tryz.func95, Tryz.ntmps95
            go_wp2_with (first
              | (go_at_call 7; refine (HG.out _).mono ?_; rintro e' w1 ⟨rfl, b1⟩; have HK := Lib.hid ((GBox.laid b1).1.keep (GBox.laid b1).2); obtain ⟨z0, z1, _, _⟩ := HK.out; clear b1)
              | (go_at_call 76; refine (HB.out _).mono ?_; rintro e' w2 ⟨rfl, b2⟩; replace HK := Lib.hid (gkeep HK.out b2); clear b2 z0 z1; obtain ⟨z0, z1, _, _⟩ := HK.out))
            go_ret
            exact ⟨geo_b (by simp [hs]), HK.out.2.2.2⟩
        · have e3 : (sc < base) ∨ (base ≤ sc ∧ fr < sc) ∨ (base ≤ sc ∧ sc ≤ fr) := by omega
          rcases e3 with e3 | ⟨e3, e4⟩ | ⟨e3, e4⟩
          all_goals
            go_enter Tryz.func95, Tryz.ntmps95
            go_wp2_with (first
              | (go_at_call 7; refine (HG.out _).mono ?_; rintro e' w1 ⟨rfl, b1⟩; have HK := Lib.hid ((GBox.laid b1).1.keep (GBox.laid b1).2); obtain ⟨z0, z1, _, _⟩ := HK.out; clear b1)
              | (go_at_call 76; refine (HB.out _).mono ?_; rintro e' w2 ⟨rfl, b2⟩; replace HK := Lib.hid (gkeep HK.out b2); clear b2 z0 z1; obtain ⟨z0, z1, _, _⟩ := HK.out))
            go_ret
            refine ⟨geo_b ?_, HK.out.2.2.2⟩
            first
              | (simp <;> omega)
              | (rw [Bool.eq_iff_iff]; simp <;> omega)
      all_goals
        rw [decide_eq_false (show ¬ (base ≤ fr ∧ fr ≤ base + h) by omega), Bool.false_and]
        go_enter Tryz.func95, Tryz.ntmps95
        go_wp2_with (first
          | (go_at_call 7; refine (HG.out _).mono ?_; rintro e' w1 ⟨rfl, b1⟩; have HK := Lib.hid ((GBox.laid b1).1.keep (GBox.laid b1).2); obtain ⟨z0, z1, _, _⟩ := HK.out; clear b1)
          | (go_at_call 76; refine (HB.out _).mono ?_; rintro e' w2 ⟨rfl, b2⟩; replace HK := Lib.hid (gkeep HK.out b2); clear b2 z0 z1; obtain ⟨z0, z1, _, _⟩ := HK.out))
        go_ret
        exact ⟨rfl, HK.out.2.2.2⟩
    · rw [fine_no1 c]
      have hc : sp < 0 ∨ (0 ≤ sp ∧ 1 < sp) ∨ (0 ≤ sp ∧ sp ≤ 1 ∧ gc < 0) ∨ (0 ≤ sp ∧ sp ≤ 1 ∧ 0 ≤ gc ∧ 1 < gc) := by omega
      clear c q
      rcases hc with c1 | ⟨c1, c2⟩ | ⟨c1, c2, c3⟩ | ⟨c1, c2, c3, c4⟩
      all_goals
        go_enter Tryz.func95, Tryz.ntmps95
        go_wp2_with (go_at_call 7; refine (HG.out _).mono ?_; rintro e' w1 ⟨rfl, b1⟩; have HK := Lib.hid (GBox.laid b1); clear b1)
        go_ret
        exact ⟨rfl, HK.out.2⟩
end Go.Proofs.YtbghglkplbnnkaaGreatDoor
-- HeapUse
namespace Go.Proofs.YtbghglkplbnnkaaGreatDoor
open Go.RowKit Sec
open Go.Proofs.YtbghglkplbnnkaaGreatDoor.Bk

section
variable {B : Nat} {w w' : World} {b g c : Nat} {h l : Int} {W : List Int}
set_option maxRecDepth 100000 in
set_option maxHeartbeats 1000000 in
theorem rright_is (k : HIs B w b h l W g c) : Calls Tryz.prog 79 #[.pointer (some ⟨b, 0, none⟩)] w fun e w' => e = .returned (.bool (hOk h l W)) ∧ Below w.heap.size w w' := by
  have HC := Lib.hid (rcontrol_is k)
  have HF := Lib.hid (fun u => rfine_is h l (hSp W) (hFr W) (hGc W) (hSc W) u)
  have HK := Lib.hid k
  rw [show fineB h l (hSp W) (hFr W) (hGc W) (hSc W) = hOk h l W from rfl] at HF
  clear k
  generalize hOk h l W = ok at *
  generalize hSp W = x0 at *
  generalize hFr W = x1 at *
  generalize hGc W = x2 at *
  generalize hSc W = x3 at *
  go_enter Tryz.func79, Tryz.ntmps79
  go_wp2_with (first
    | (go_at_call 39
       refine HC.out.mono ?_
       rintro e w1 ⟨rfl, b1⟩
       obtain ⟨c0, c1, _⟩ := (HK.out.below b1).cs
       have H1 := Lib.hid b1
       clear b1)
    | (go_at_call 95
       refine (HF.out _).mono ?_
       rintro e w2 ⟨rfl, b2⟩
       have H2 := Lib.hid (geo_next H1.out b2)
       clear b2))
  go_ret
  exact ⟨rfl, H2.out⟩
set_option maxRecDepth 100000 in
set_option maxHeartbeats 1000000 in
theorem rin_is (k : HIs B w b h l W g c) (q1 : geOk h l = true) (sp : Int) (q2 : sp = 0 ∨ sp = 1) (a : Int) : Calls Tryz.prog 48 #[.pointer (some ⟨b, 0, none⟩), .int .i64 sp, .int .i64 a] w fun e w' => e = .returned (.bool (inB h sp a)) ∧ Below w.heap.size w w' := by
  have HK := Lib.hid k
  have hq := geOk_yes q1
  have HB := Lib.hid (fun u => rbase_is h l sp q1 q2 u)
  rw [ge_base q1 q2] at HB
  have hb : 0 ≤ 16 + sp * h ∧ 16 + sp * h ≤ 1000 := by rcases q2 with e | e <;> rw [e] <;> omega
  rw [inB]
  obtain ⟨c0, c1, _⟩ := k.cs
  clear k q1 q2
  generalize 16 + sp * h = base at *
  obtain ⟨hb0, hb1⟩ := hb
  obtain ⟨hq1, hq2, _, _⟩ := hq
  have cases : a < base ∨ (base ≤ a ∧ base + h ≤ a) ∨ (base ≤ a ∧ a < base + h) := by omega
  rcases cases with e1 | ⟨e1, e2⟩ | ⟨e1, e2⟩
  all_goals
    go_enter Tryz.func48, Tryz.ntmps48
    go_wp2_with (go_at_call 76
                 refine (HB.out _).mono ?_
                 rintro e w1 ⟨rfl, b1⟩
                 clear c0 c1
                 obtain ⟨c0, c1, _⟩ := (HK.out.below b1).cs
                 have H1 := Lib.hid b1
                 clear b1)
    go_ret
    refine ⟨geo_b ?_, H1.out⟩
    first
      | exact (decide_eq_true (by omega)).symm
      | exact (decide_eq_false (by omega)).symm
      | (rw [Bool.eq_iff_iff]; simp <;> omega)
end
end Go.Proofs.YtbghglkplbnnkaaGreatDoor
-- HeapNew
namespace Go.Proofs.YtbghglkplbnnkaaGreatDoor
open Go.RowKit Sec
open Go.Proofs.YtbghglkplbnnkaaGreatDoor.Bk

def zfill (W : List Int) (a : Nat) : Nat → List Int
  | 0 => W
  | n + 1 => (zfill W a n).set (a + n) 0
theorem zfill_len (W : List Int) (a : Nat) : ∀ n, (zfill W a n).length = W.length
  | 0 => rfl
  | n + 1 => by rw [zfill, List.length_set, zfill_len W a n]
theorem zfill_at (W : List Int) (a : Nat) (i : Nat) : ∀ n, (zfill W a n).getD i 0 = if a ≤ i ∧ i < a + n then 0 else W.getD i 0
  | 0 => by rw [zfill, if_neg (by omega)]
  | n + 1 => by
    rw [zfill, List.getD_eq_getElem?_getD, List.getElem?_set]
    by_cases e : a + n = i
    · rw [if_pos e, show (if a ≤ i ∧ i < a + (n + 1) then (0 : Int) else W.getD i 0) = 0 from if_pos (by omega)]
      split <;> rfl
    · rw [if_neg e, ← List.getD_eq_getElem?_getD, zfill_at W a i n]
      by_cases q : a ≤ i ∧ i < a + n
      · rw [if_pos q, if_pos (by omega)]
      · rw [if_neg q, if_neg (by omega)]
section
variable {B : Nat} {w w' w'' : World} {b g c : Nat} {h l : Int} {W : List Int}
def newE (h l : Int) (W : List Int) (s x : Int) : Int := if (hOk h l W && shOk s x) = true then (if 16 + hSp W * h + h - hFr W < 1 + s + x then 6 else 0) else 1
def newA (h l : Int) (W : List Int) (s x : Int) : Int := if newE h l W s x = 0 then hFr W else 0
def newW (h l : Int) (W : List Int) (s x : Int) : List Int := if newE h l W s x = 0 then ((zfill W (hFr W).toNat (1 + s + x).toNat).set (hFr W).toNat (hdI s x)).set 1 (hFr W + (1 + s + x)) else W
end
end Go.Proofs.YtbghglkplbnnkaaGreatDoor
