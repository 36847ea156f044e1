import Derived.Test.YtbghglkplbnnkaaGreatDoorYStoreE
set_option linter.unusedVariables false
set_option linter.unusedSimpArgs false
-- StoreGet
namespace Go.Proofs.YtbghglkplbnnkaaGreatDoor
open Go.RowKit Sec
open Go.Proofs.YtbghglkplbnnkaaGreatDoor.Bk

theorem st_vals_at {l : List Int} {k : Nat} (h : k < l.length) : (vals l)[k]? = some (.int .i64 (l.getD k 0)) := by simp [vals, h]
def wkC (Y : List Int) (N : Nat) (c : Int) : Int := if 0 ≤ c ∧ c < (N : Int) then Y.getD c.toNat 0 else 0
def setB (N : Nat) (c v : Int) : Bool := decide ((0 ≤ c ∧ c < (N : Int)) ∧ 0 ≤ v ∧ v < 4294967296)
section
variable {B : Nat} {G : Nat → Prop} {w : World} {s p lq : Nat} {D : Dsk} {fr n hd nx ep : Int} {q h0 e0 : Int} {H L : Nat} {X Y : List Int} {off : Bool} {vC vW : Value}
theorem has_is (h : StIs B w s p lq ⟨q, h0, e0, (H : Int), (L : Int)⟩ X Y off vC vW) (hg : 8 ≤ H ∧ H ≤ 400 ∧ 4 ≤ L ∧ L ≤ 300) (c : Int) : Calls Tryz.prog 69 #[.pointer (some ⟨s, 0, none⟩), .int .i64 c] w fun e w' => e = .returned (.bool (decide (0 ≤ c ∧ c < ((16 + 2 * H : Nat) : Int)))) ∧ Below w.heap.size w w' := by
  have := shas_is h c
  rw [hasB, show (⟨q, h0, e0, (H : Int), (L : Int)⟩ : Sup).f = (H : Int) from rfl, show (⟨q, h0, e0, (H : Int), (L : Int)⟩ : Sup).g = (L : Int) from rfl, ge_cells hg] at this
  exact this
set_option maxRecDepth 100000 in
set_option maxHeartbeats 1000000 in
theorem get_is (h : StIs B w s p lq ⟨q, h0, e0, (H : Int), (L : Int)⟩ X Y off vC vW) (hg : 8 ≤ H ∧ H ≤ 400 ∧ 4 ≤ L ∧ L ≤ 300) (hY : 16 + 2 * H ≤ Y.length) (c : Int) :
    Calls Tryz.prog 35 #[.pointer (some ⟨s, 0, none⟩), .int .i64 c] w fun e w' => e = .returned (.int .i64 (wkC Y (16 + 2 * H) c)) ∧ Below w.heap.size w w' := by
  have HH := Lib.hid (has_is h hg c)
  have HS := Lib.hid h
  have hle := h.le
  have hlen := h.len
  by_cases hc : 0 ≤ c ∧ c < ((16 + 2 * H : Nat) : Int)
  · rw [decide_eq_true hc] at HH
    rw [wkC, if_pos hc]
    obtain ⟨m, rfl⟩ := Int.eq_ofNat_of_zero_le hc.1
    have hm : m < Y.length := by omega
    obtain ⟨g, k, rfl, hk, _, hgl⟩ := own_blkK h.oW (by omega)
    obtain ⟨e1, _⟩ := owns_cell h.oW (st_vals_at (k := m) hm)
    have c8 := h.cs.2.2.2.2.2.2.2.2.1
    have HC := Lib.hid (And.intro e1 (And.intro c8 hgl))
    have hmi : (m : Int) < (Y.length : Int) := by omega
    have hsl := h.lt
    have HSL := Lib.hid hsl
    clear h e1 c8 hk hgl hc hg hle hlen hsl
    rw [Int.toNat_natCast]
    generalize Y.getD m 0 = y at *
    go_enter Tryz.func35, Tryz.ntmps35
    go_wp2_with (go_at_call 69
                 refine HH.out.mono ?_
                 rintro e w1 ⟨rfl, b1⟩
                 have d1 := (b1.cell (p := ⟨g, m, none⟩) HC.out.2.2).trans HC.out.1
                 have d2 := (b1.cell (p := ⟨s, 8, none⟩) HSL.out).trans HC.out.2.1
                 have H1 := Lib.hid b1
                 clear b1)
    go_ret
    exact ⟨rfl, H1.out⟩
  · rw [decide_eq_false hc] at HH
    rw [wkC, if_neg hc]
    clear h hc hg hY hle hlen
    go_enter Tryz.func35, Tryz.ntmps35
    go_wp2_with (go_at_call 69
                 refine HH.out.mono ?_
                 rintro e w1 ⟨rfl, b1⟩
                 have H1 := Lib.hid b1
                 clear b1)
    go_ret
    exact ⟨rfl, H1.out⟩
set_option maxRecDepth 100000 in
set_option maxHeartbeats 1000000 in
theorem set_is (h : StAt B G w s p lq D fr n hd nx ep ⟨q, h0, e0, (H : Int), (L : Int)⟩ X Y off vC vW) (hg : 8 ≤ H ∧ H ≤ 400 ∧ 4 ≤ L ∧ L ≤ 300) (hY : 16 + 2 * H ≤ Y.length) (c v : Int) :
    Calls Tryz.prog 82 #[.pointer (some ⟨s, 0, none⟩), .int .i64 c, .int .i64 v] w fun e w' => e = .returned (.bool (setB (16 + 2 * H) c v)) ∧ StAt B G w' s p lq D fr n hd nx ep ⟨q, h0, e0, (H : Int), (L : Int)⟩ X (if setB (16 + 2 * H) c v then Y.set c.toNat v else Y) off vC vW ∧ Below B w w' ∧ KeptG G w w' := by
  have HH := Lib.hid (has_is h.st hg c)
  have HS := Lib.hid h
  have hle := h.st.le
  have hlen := h.st.len
  by_cases hc : 0 ≤ c ∧ c < ((16 + 2 * H : Nat) : Int)
  · rw [decide_eq_true hc] at HH
    by_cases hv : 0 ≤ v ∧ v < 4294967296
    · have e1 : setB (16 + 2 * H) c v = true := decide_eq_true ⟨hc, hv⟩
      rw [e1, if_pos rfl]
      obtain ⟨m, rfl⟩ := Int.eq_ofNat_of_zero_le hc.1
      have hm : m < Y.length := by omega
      obtain ⟨g, k, rfl, hk, _, hgl⟩ := own_blkK h.st.oW (by omega)
      obtain ⟨e2, f2⟩ := owns_cell h.st.oW (st_vals_at (k := m) hm)
      have c8 := h.st.cs.2.2.2.2.2.2.2.2.1
      have HC := Lib.hid (And.intro e2 (And.intro c8 (And.intro hgl f2)))
      have hmi : (m : Int) < (Y.length : Int) := by omega
      have HSL := Lib.hid h.st.lt
      obtain ⟨hv0, hv1⟩ := hv
      clear h e1 e2 f2 c8 hk hgl hc hg hle hlen
      rw [Int.toNat_natCast]
      generalize Y.getD m 0 = y at *
      go_enter Tryz.func82, Tryz.ntmps82
      go_wp2_with (go_at_call 69
                   refine HH.out.mono ?_
                   rintro e w1 ⟨rfl, b1⟩
                   have d1 := (b1.cell (p := ⟨g, m, none⟩) HC.out.2.2.1).trans HC.out.1
                   have d2 := (b1.cell (p := ⟨s, 8, none⟩) HSL.out).trans HC.out.2.1
                   have d3 := (b1.frozen (p := ⟨g, m, none⟩) HC.out.2.2.1).trans HC.out.2.2.2
                   have H1 := Lib.hid b1
                   clear b1)
      go_ret
      obtain ⟨r1, r2, r3⟩ := (HS.out.below H1.out).setW rfl m v
      exact ⟨rfl, r1, (H1.out.mono HS.out.le).trans r2, KeptG.trans (HS.out.keptG H1.out) r3⟩
    · have e1 : setB (16 + 2 * H) c v = false := decide_eq_false (fun x => hv x.2)
      rw [e1, if_neg (by decide)]
      clear h e1 hc hg hY hle hlen
      by_cases hv0 : v < 0
      · clear hv
        go_enter Tryz.func82, Tryz.ntmps82
        go_wp2_with (go_at_call 69
                     refine HH.out.mono ?_
                     rintro e w1 ⟨rfl, b1⟩
                     have H1 := Lib.hid b1
                     clear b1)
        go_ret
        exact ⟨rfl, HS.out.below H1.out, H1.out.mono HS.out.le, HS.out.keptG H1.out⟩
      · have hv1 : 4294967296 ≤ v := by omega
        clear hv
        go_enter Tryz.func82, Tryz.ntmps82
        go_wp2_with (go_at_call 69
                     refine HH.out.mono ?_
                     rintro e w1 ⟨rfl, b1⟩
                     have H1 := Lib.hid b1
                     clear b1)
        go_ret
        exact ⟨rfl, HS.out.below H1.out, H1.out.mono HS.out.le, HS.out.keptG H1.out⟩
  · have e1 : setB (16 + 2 * H) c v = false := decide_eq_false (fun x => hc x.1)
    rw [decide_eq_false hc] at HH
    rw [e1, if_neg (by decide)]
    clear h e1 hc hg hY hle hlen
    go_enter Tryz.func82, Tryz.ntmps82
    go_wp2_with (go_at_call 69
                 refine HH.out.mono ?_
                 rintro e w1 ⟨rfl, b1⟩
                 have H1 := Lib.hid b1
                 clear b1)
    go_ret
    exact ⟨rfl, HS.out.below H1.out, H1.out.mono HS.out.le, HS.out.keptG H1.out⟩
end
end Go.Proofs.YtbghglkplbnnkaaGreatDoor
-- StoreAll
namespace Go.Proofs.YtbghglkplbnnkaaGreatDoor
open Go.RowKit Sec
open Go.Proofs.YtbghglkplbnnkaaGreatDoor.Bk

section
variable {B : Nat} {G : Nat → Prop} {w : World} {s p lq : Nat} {D : Dsk} {fr n hd nx ep : Int} {q h0 e0 : Int} {H L : Nat} {X Y : List Int} {vC vW : Value}
set_option maxRecDepth 100000 in
set_option maxHeartbeats 1000000 in
theorem all_is {off : Bool} (h : StIs B w s p lq ⟨q, h0, e0, (H : Int), (L : Int)⟩ X Y off vC vW) (hg : 8 ≤ H ∧ H ≤ 400 ∧ 4 ≤ L ∧ L ≤ 300) (hY : 16 + 2 * H ≤ Y.length) :
    Calls Tryz.prog 38 #[.pointer (some ⟨s, 0, none⟩)] w fun e w' => ∃ g c, e = .returned (.slice (some ⟨g, 0, none⟩) (16 + 2 * H) c) ∧ Below w.heap.size w w' ∧ w'.ownsRow w.heap.size 3 1 (.slice (some ⟨g, 0, none⟩) (16 + 2 * H) c) (16 + 2 * H) (vals (Y.take (16 + 2 * H))) := by
  obtain ⟨g, k, rfl, hk, _, hgl⟩ := own_blkK h.oW (by omega)
  have hle := h.le
  have hlen := h.len
  have HG : Hid (∀ u, Below w.heap.size w u → Calls Tryz.prog 37 #[.pointer (some ⟨s, 0, none⟩)] u fun r w' => r = .returned (.agg #[.int .i64 (H : Int), .int .i64 (L : Int)]) ∧ Below u.heap.size u w') := Lib.hid (fun u b => sgeo_is (h.below b))
  have HN := Lib.hid (fun u (b : Below w.heap.size w u) => snone_no (h.below b))
  have HC : Hid (∀ u, Calls Tryz.prog 75 #[.agg #[.int .i64 (H : Int), .int .i64 (L : Int)]] u fun r w' => r = .returned (.int .i64 ((16 + 2 * H : Nat) : Int)) ∧ Below u.heap.size u w') := Lib.hid (fun u => (gcells_is H L u).mono fun r w' ⟨h1, h2⟩ => ⟨by rw [h1, ge_cells hg], h2⟩)
  have HS8 := Lib.hid (fun u (b : Below w.heap.size w u) => (h.below b).cs.2.2.2.2.2.2.2.2.1)
  have HCl : Hid (∀ u, Below w.heap.size w u → Calls Tryz.prog 74 #[.slice (some ⟨g, 0, none⟩) (16 + 2 * H) k] u fun r w' => ∃ g' c', r = .returned (.slice (some ⟨g', 0, none⟩) (16 + 2 * H) c') ∧ Below u.heap.size u w' ∧ w'.ownsRow u.heap.size 3 1 (.slice (some ⟨g', 0, none⟩) (16 + 2 * H) c') (16 + 2 * H) (vals (Y.take (16 + 2 * H)))) := Lib.hid (fun u b => by
    have hl := own_cells h.oW b
    refine (clone_int (some ⟨g, 0, none⟩) (16 + 2 * H) k (vals (Y.take (16 + 2 * H))) u (by omega) (by rw [vals, List.length_map, List.length_take]; omega) (lies_cut (i := 0) hl) vals_one (fun ha => by cases ha)).mono fun r w' ⟨a', c', he, hb, _, ho⟩ => ?_
    rcases ho with ⟨_, hz, _⟩ | ⟨g', rfl, _, ho⟩
    · exfalso; omega
    · exact ⟨g', c', he, hb, ho⟩)
  have hNk : ((16 + 2 * H : Nat) : Int) ≤ (k : Int) := by omega
  clear h hg hY hle hlen hk hgl
  generalize 16 + 2 * H = N at *
  generalize Y.length = m at *
  have c8 := HS8.out _ (Below.refl _ _)
  go_enter Tryz.func38, Tryz.ntmps38
  go_wp2_with (go_at_call 73; refine (HN.out _ (Below.refl _ _)).mono ?_; rintro e w' ⟨rfl, hw⟩; obtain rfl : w = w' := hw.symm)
  go_region_held3 (fun u => u.cell? ⟨s, 8, none⟩ = some (.slice (some ⟨g, 0, none⟩) m k)) (first
      | assumption
      | exact HS8.out _ (Below.refl _ _)
      | exact HS8.out _ (Below.refl _ _).drew
      | exact HS8.out _ b1
      | exact HS8.out _ b2
      | exact HS8.out _ H3.out.1) (first
    | (go_at_call 37
       refine (HG.out _ (by first | exact Below.refl _ _ | exact (Below.refl _ _).drew)).mono ?_
       rintro e' w1 ⟨rfl, b1⟩
       replace b1 : Below w.heap.size w w1 := (by first | exact Below.refl _ _ | exact (Below.refl _ _).drew : Below w.heap.size w _).trans (b1.mono (by first | exact Nat.le_refl _ | simp)))
    | (go_at_call 75
       refine (HC.out _).mono ?_
       rintro e' w2 ⟨rfl, b2⟩
       replace b2 : Below w.heap.size w w2 := (by first | exact b1 | exact b1.drew : Below w.heap.size w _).trans (b2.mono (by first | exact b1.size | exact b1.drew.size)))
    | (go_at_call 74
       refine (HCl.out _ (by first | exact b2 | exact b2.drew)).mono ?_
       rintro e' w3 ⟨g3, c3, rfl, b3, o3⟩
       have H3 := Lib.hid (And.intro ((by first | exact b2 | exact b2.drew : Below w.heap.size w _).trans (b3.mono (by first | exact b2.size | exact b2.drew.size))) (owns_base' (show w.heap.size ≤ _ from by first | exact b2.size | exact b2.drew.size) o3))
       clear b3 o3))
  all_goals
    go_wp2
    go_ret
    exact ⟨g3, c3, rfl, H3.out.1, H3.out.2⟩
end

structure Sto (B : Nat) (G : Nat → Prop) (w : World) (s p lq H L q hd nx : Nat) (e : Int) (K : Nat) (C W : List Int) (D : Dsk) (vC vW : Value) : Prop where
  m : StAt B G w s p lq D ((2 + 6 * pgs H : Nat) : Int) L hd nx e (crS q hd e H L) (joinP C (pgs H)) (joinP W (pgs H)) false vC vW
  o : On D H L q hd nx e K C
  lit : D.lit = false
  len : W.length = 16 + 2 * H
  fine : FineC W
section
variable {B : Nat} {G G' : Nat → Prop} {w w' : World} {s p lq H L q hd nx : Nat} {e : Int} {K : Nat} {C W : List Int} {D : Dsk} {vC vW : Value}
theorem Sto.below (h : Sto B G w s p lq H L q hd nx e K C W D vC vW) (b : Below w.heap.size w w') : Sto B G w' s p lq H L q hd nx e K C W D vC vW := ⟨h.m.below b, h.o, h.lit, h.len, h.fine⟩
theorem Sto.mono (h : Sto B G w s p lq H L q hd nx e K C W D vC vW) (hG : ∀ b, G' b → G b) : Sto B G' w s p lq H L q hd nx e K C W D vC vW := ⟨h.m.mono hG, h.o, h.lit, h.len, h.fine⟩
theorem Sto.more (h : Sto B G w s p lq H L q hd nx e K C W D vC vW) (b : Below w.heap.size w w') : Sto B (fun k => G k ∨ (w.heap.size ≤ k ∧ k < w'.heap.size)) w' s p lq H L q hd nx e K C W D vC vW := ⟨h.m.more b, h.o, h.lit, h.len, h.fine⟩
theorem Sto.wlen (h : Sto B G w s p lq H L q hd nx e K C W D vC vW) : 16 + 2 * H ≤ (joinP W (pgs H)).length ∧ W.length ≤ 16 * pgs H := by
  have := (pgs_le h.o.ge.2.1).2
  have := h.len
  rw [joinP_len]
  omega
theorem sto_get (h : Sto B G w s p lq H L q hd nx e K C W D vC vW) (c : Int) :
    Calls Tryz.prog 35 #[.pointer (some ⟨s, 0, none⟩), .int .i64 c] w fun r w' => r = .returned (.int .i64 (wkC W (16 + 2 * H) c)) ∧ Below w.heap.size w w' := by
  have := get_is h.m.st h.o.ge h.wlen.1 c
  have e1 : wkC (joinP W (pgs H)) (16 + 2 * H) c = wkC W (16 + 2 * H) c := by
    unfold wkC
    rw [joinP_getD h.wlen.2]
  rw [e1] at this
  exact this
theorem sto_set (h : Sto B G w s p lq H L q hd nx e K C W D vC vW) (c v : Int) :
    Calls Tryz.prog 82 #[.pointer (some ⟨s, 0, none⟩), .int .i64 c, .int .i64 v] w fun r w' => r = .returned (.bool (setB (16 + 2 * H) c v)) ∧ Sto B G w' s p lq H L q hd nx e K C (if setB (16 + 2 * H) c v then W.set c.toNat v else W) D vC vW ∧ Below B w w' ∧ KeptG G w w' :=
  (set_is h.m h.o.ge h.wlen.1 c v).mono fun r w' ⟨he, h1, h2, h3⟩ => by
    refine ⟨he, ⟨?_, h.o, h.lit, ?_, ?_⟩, h2, h3⟩
    · cases q : setB (16 + 2 * H) c v
      · rw [q, if_neg (by decide)] at h1
        rw [if_neg (by decide)]
        exact h1
      · rw [q, if_pos rfl] at h1
        rw [if_pos rfl, joinP_set h.wlen.2 (by
          have := (of_decide_eq_true q).1
          have := h.len
          omega)]
        exact h1
    · split
      · rw [List.length_set]; exact h.len
      · exact h.len
    · split
      · rename_i q
        exact set_fine h.fine _ (of_decide_eq_true q).2
      · exact h.fine
theorem sto_all (h : Sto B G w s p lq H L q hd nx e K C W D vC vW) :
    Calls Tryz.prog 38 #[.pointer (some ⟨s, 0, none⟩)] w fun r w' => ∃ g c, r = .returned (.slice (some ⟨g, 0, none⟩) (16 + 2 * H) c) ∧ Below w.heap.size w w' ∧ w'.ownsRow w.heap.size 3 1 (.slice (some ⟨g, 0, none⟩) (16 + 2 * H) c) (16 + 2 * H) (vals W) := by
  have := all_is h.m.st h.o.ge h.wlen.1
  have e1 : (joinP W (pgs H)).take (16 + 2 * H) = W := by rw [← h.len]; exact joinP_take W _ h.wlen.2
  rw [e1] at this
  exact this
theorem sto_geo (h : Sto B G w s p lq H L q hd nx e K C W D vC vW) :
    Calls Tryz.prog 37 #[.pointer (some ⟨s, 0, none⟩)] w fun r w' => r = .returned (.agg #[.int .i64 (H : Int), .int .i64 (L : Int)]) ∧ Below w.heap.size w w' := sgeo_is h.m.st
theorem still_new (m : Nat) : Still (newD m) 0 := ⟨rfl, rfl, rfl, Nat.le_refl _⟩
set_option maxRecDepth 100000 in
set_option maxHeartbeats 2000000 in
theorem Begin_is (ht : TyOk w.heap.size w) (H L : Nat) (hg : 8 ≤ H ∧ H ≤ 400 ∧ 4 ≤ L ∧ L ≤ 300) :
    Calls Tryz.prog 31 #[.agg #[.int .i64 (H : Int), .int .i64 (L : Int)]] w fun r w' => ∃ s p lq D vC vW, r = .returned (.tuple #[.pointer (some ⟨p, 0, none⟩), .pointer (some ⟨s, 0, none⟩)]) ∧ Sto w.heap.size (fun b => b < w.heap.size) w' s p lq H L 2 0 0 2 10000 (freshC H) (freshC H) D vC vW ∧ Below w.heap.size w w' := by
  obtain ⟨hp, hp2⟩ := pgs_le hg.2.1
  have HS : Hid (∀ u, Calls Tryz.prog 61 #[.agg #[.int .i64 (H : Int), .int .i64 (L : Int)]] u fun r w' => r = .returned (.int .i64 ((2 + 6 * pgs H + L : Nat) : Int)) ∧ Below u.heap.size u w') := Lib.hid (fun u => (gsectors_is H L u).mono fun r w' ⟨h1, h2⟩ => ⟨by rw [h1, ge_sectors hg], h2⟩)
  have HW : Hid (∀ u, Below w.heap.size w u → Calls Tryz.prog 60 #[.int .i64 ((2 + 6 * pgs H + L : Nat) : Int)] u fun e w' => ∃ p, e = .returned (.pointer (some ⟨p, 0, none⟩)) ∧ AtK w.heap.size (fun b => b < w.heap.size) w' p (newD (2 + 6 * pgs H + L)) ∧ Below u.heap.size u w') := Lib.hid (fun u hu => (New_k ((2 + 6 * pgs H + L : Nat) : Int) u (ht.below hu) hu.size).mono fun e w' ⟨p, he, hA, hb, _⟩ => ⟨p, he, by
    rw [show (min (max ((2 + 6 * pgs H + L : Nat) : Int) 0) 3000).toNat = 2 + 6 * pgs H + L by omega] at hA
    exact hA.mono (fun b hb => Nat.lt_of_lt_of_le hb hu.size), hb⟩)
  have HF := Lib.hid (fun u p (hu : AtK w.heap.size (fun b => b < w.heap.size) u p (newD (2 + 6 * pgs H + L))) => Format_ok hu (still_new _) (by omega) rfl hg (by simp [newD]))
  have HO := Lib.hid (fun u p D (hu : AtK w.heap.size (fun b => b < w.heap.size) u p D) (o : On D H L 1 0 0 1 (0 + 5000) (freshC H)) (hl : D.lit = false) => Open_is o hl hu (by omega) (by omega) (by omega) (by omega) (by omega))
  have HBX := Lib.hid (GBox.made w (H : Int) (L : Int) 23)
  have HK : Hid (3 * pgs H ≤ 153) := Lib.hid (by omega)
  have HGe := Lib.hid hg
  have HFl : Hid ((freshC H).length = 16 + 2 * H ∧ FineC (freshC H)) := Lib.hid ⟨freshC_len H, freshC_fine H⟩
  clear ht hp hp2 hg
  generalize ((2 + 6 * pgs H + L : Nat) : Int) = N at *
  go_enter Tryz.func31, Tryz.ntmps31
  go_wp2_with (first
    | (go_at_call 61
       refine (HS.out _).mono ?_
       rintro r' w1 ⟨rfl, b1⟩
       have H1 := Lib.hid (GBox.laid b1)
       clear b1)
    | (go_at_call 60
       refine (HW.out _ H1.out.2).mono ?_
       rintro r' w2 ⟨p, rfl, A2, b2⟩
       have H2 := Lib.hid (And.intro A2 (H1.out.2.trans (b2.mono H1.out.2.size)))
       have c0 := (H1.out.1.below b2).c0
       have c1 := (H1.out.1.below b2).c1
       clear A2 b2)
    | (go_at_call 62
       refine (HF.out _ p H2.out.1).mono ?_
       rintro r' w3 ⟨rfl, D3, A3, b3, k3, o3, l3, _⟩
       have H3 := Lib.hid (And.intro A3 (And.intro (H2.out.2.trans b3) (And.intro o3 l3)))
       clear A3 b3 k3 o3 l3 c0 c1)
    | (go_at_call 63
       refine (HO.out _ p D3 H3.out.1 H3.out.2.2.1 H3.out.2.2.2).mono ?_
       rintro r' w4 ⟨s, lq, vC, vW, D4, rfl, A4, b4, k4, o4, l4⟩
       have H4 := Lib.hid (And.intro A4 (And.intro (H3.out.2.1.trans b4) (And.intro o4 l4)))
       clear A4 b4 k4 o4 l4))
  go_ret2
  exact ⟨s, p, lq, D4, vC, vW, rfl, ⟨H4.out.1, H4.out.2.2.1.more (by have := HK.out; omega), H4.out.2.2.2, HFl.out.1, HFl.out.2⟩, H4.out.2.1⟩
end
end Go.Proofs.YtbghglkplbnnkaaGreatDoor
-- StoreUse
namespace Go.Proofs.YtbghglkplbnnkaaGreatDoor
open Go.RowKit Sec
open Go.Proofs.YtbghglkplbnnkaaGreatDoor.Bk

section
variable {B : Nat} {G G' : Nat → Prop} {w w' : World} {s p q : Nat} {S : Sup} {X Y : List Int} {off : Bool} {vC vW : Value} {D : Dsk} {fr n hd nx ep : Int}
theorem StAt.own (h : StAt B G w s p q D fr n hd nx ep S X Y off vC vW) (b : Below B w w') (hb : ∀ k, ¬ G k → k < w.heap.size → w'.heap[k]? = w.heap[k]?) : StAt B G w' s p q D fr n hd nx ep S X Y off vC vW :=
  ⟨h.st.of_blocks (fun k r => hb k (h.ng k r) (h.st.foot k r).2), h.lg.own b.size (h.lg.d.1.below b) (fun k hn hl => hb k (fun g => hn (.inl g)) hl), h.ng⟩
end
section
variable {B B' : Nat} {G : Nat → Prop} {w : World} {s p q : Nat} {S : Sup} {X Y : List Int} {off : Bool} {vC vW : Value} {D : Dsk} {fr n hd nx ep : Int}
theorem TyOk.more (h : TyOk B w) (hb : B ≤ B') : TyOk B' w := ⟨h.1, Nat.lt_of_lt_of_le h.2 hb⟩
theorem AtK.base (h : AtK B G w p D) (hb : B' ≤ B) (ht : TyOk B' w) : AtK B' G w p D := by
  obtain ⟨t, y, e, hi, hf, hg⟩ := h
  exact ⟨ht, y, e, hi, fun b q => Nat.le_trans hb (hf b q), hg⟩
theorem StAt.base (h : StAt B G w s p q D fr n hd nx ep S X Y off vC vW) (hb : B' ≤ B) (ht : TyOk B' w) : StAt B' G w s p q D fr n hd nx ep S X Y off vC vW :=
  ⟨⟨Nat.le_trans hb h.st.hp, h.st.blk, owns_base' hb h.st.oC, owns_base' hb h.st.oW, h.st.ap, h.st.len, h.st.le⟩, ⟨h.lg.d.base hb ht, h.lg.c, Nat.le_trans hb h.lg.ge, h.lg.ng⟩, h.ng⟩
end
def St (B : Nat) (G : Nat → Prop) (w : World) (s H L : Nat) (W : List Int) : Prop :=
  ∃ (p lq q hd nx : Nat) (e : Int) (K : Nat) (C : List Int) (D : Dsk) (vC vW : Value), Sto B G w s p lq H L q hd nx e K C W D vC vW
section
variable {B : Nat} {G G' : Nat → Prop} {w w' : World} {s H L : Nat} {W : List Int}
theorem St.below (h : St B G w s H L W) (b : Below w.heap.size w w') : St B G w' s H L W := by
  obtain ⟨p, lq, q, hd, nx, e, K, C, D, vC, vW, h⟩ := h
  exact ⟨p, lq, q, hd, nx, e, K, C, D, vC, vW, h.below b⟩
theorem St.mono (h : St B G w s H L W) (hG : ∀ b, G' b → G b) : St B G' w s H L W := by
  obtain ⟨p, lq, q, hd, nx, e, K, C, D, vC, vW, h⟩ := h
  exact ⟨p, lq, q, hd, nx, e, K, C, D, vC, vW, h.mono hG⟩
theorem St.more (h : St B G w s H L W) (b : Below w.heap.size w w') : St B (fun k => G k ∨ (w.heap.size ≤ k ∧ k < w'.heap.size)) w' s H L W := by
  obtain ⟨p, lq, q, hd, nx, e, K, C, D, vC, vW, h⟩ := h
  exact ⟨p, lq, q, hd, nx, e, K, C, D, vC, vW, h.more b⟩
theorem St.own (h : St B G w s H L W) (b : Below B w w') (hb : ∀ k, ¬ G k → k < w.heap.size → w'.heap[k]? = w.heap[k]?) : St B G w' s H L W := by
  obtain ⟨p, lq, q, hd, nx, e, K, C, D, vC, vW, h⟩ := h
  exact ⟨p, lq, q, hd, nx, e, K, C, D, vC, vW, h.m.own b hb, h.o, h.lit, h.len, h.fine⟩
theorem St.base {B' : Nat} (h : St B G w s H L W) (hb : B' ≤ B) (ht : TyOk B' w) : St B' G w s H L W := by
  obtain ⟨p, lq, q, hd, nx, e, K, C, D, vC, vW, h⟩ := h
  exact ⟨p, lq, q, hd, nx, e, K, C, D, vC, vW, h.m.base hb ht, h.o, h.lit, h.len, h.fine⟩
theorem St.ty (h : St B G w s H L W) : TyOk B w := by
  obtain ⟨p, lq, q, hd, nx, e, K, C, D, vC, vW, h⟩ := h
  exact h.m.lg.d.1
theorem St.le (h : St B G w s H L W) : B ≤ w.heap.size := by
  obtain ⟨p, lq, q, hd, nx, e, K, C, D, vC, vW, h⟩ := h
  exact h.m.le
theorem St.lt (h : St B G w s H L W) (b : Nat) (g : G b) : b < w.heap.size := by
  obtain ⟨p, lq, q, hd, nx, e, K, C, D, vC, vW, h⟩ := h
  exact h.m.lg.d.lt b (.inl (.inl g))
theorem St.len (h : St B G w s H L W) : W.length = 16 + 2 * H := by
  obtain ⟨p, lq, q, hd, nx, e, K, C, D, vC, vW, h⟩ := h
  exact h.len
theorem St.fine (h : St B G w s H L W) : FineC W := by
  obtain ⟨p, lq, q, hd, nx, e, K, C, D, vC, vW, h⟩ := h
  exact h.fine
theorem St.ge (h : St B G w s H L W) : 8 ≤ H ∧ H ≤ 400 ∧ 4 ≤ L ∧ L ≤ 300 := by
  obtain ⟨p, lq, q, hd, nx, e, K, C, D, vC, vW, h⟩ := h
  exact h.o.ge
theorem St.ok (h : St B G w s H L W) : geOk H L = true := by
  have := h.ge
  exact decide_eq_true (by omega)
theorem St.num (h : St B G w s H L W) (i : Nat) : 0 ≤ W.getD i 0 ∧ W.getD i 0 < 4294967296 := by
  rw [List.getD_eq_getElem?_getD]
  rcases Nat.lt_or_ge i W.length with q | q
  · rw [List.getElem?_eq_getElem q]
    exact h.fine _ (List.getElem_mem q)
  · rw [List.getElem?_eq_none q]
    decide
theorem st_get (h : St B G w s H L W) (c : Int) :
    Calls Tryz.prog 35 #[.pointer (some ⟨s, 0, none⟩), .int .i64 c] w fun r w' => r = .returned (.int .i64 (wkC W (16 + 2 * H) c)) ∧ Below w.heap.size w w' := by
  obtain ⟨p, lq, q, hd, nx, e, K, C, D, vC, vW, h⟩ := h
  exact sto_get h c
theorem st_geo (h : St B G w s H L W) :
    Calls Tryz.prog 37 #[.pointer (some ⟨s, 0, none⟩)] w fun r w' => r = .returned (.agg #[.int .i64 (H : Int), .int .i64 (L : Int)]) ∧ Below w.heap.size w w' := by
  obtain ⟨p, lq, q, hd, nx, e, K, C, D, vC, vW, h⟩ := h
  exact sto_geo h
theorem st_all (h : St B G w s H L W) :
    Calls Tryz.prog 38 #[.pointer (some ⟨s, 0, none⟩)] w fun r w' => ∃ g c, r = .returned (.slice (some ⟨g, 0, none⟩) (16 + 2 * H) c) ∧ Below w.heap.size w w' ∧ w'.ownsRow w.heap.size 3 1 (.slice (some ⟨g, 0, none⟩) (16 + 2 * H) c) (16 + 2 * H) (vals W) := by
  obtain ⟨p, lq, q, hd, nx, e, K, C, D, vC, vW, h⟩ := h
  exact sto_all h
def setW (W : List Int) (N : Nat) (c v : Int) : List Int := if setB N c v then W.set c.toNat v else W
theorem st_set (h : St B G w s H L W) (c v : Int) :
    Calls Tryz.prog 82 #[.pointer (some ⟨s, 0, none⟩), .int .i64 c, .int .i64 v] w fun r w' => r = .returned (.bool (setB (16 + 2 * H) c v)) ∧ St B G w' s H L (setW W (16 + 2 * H) c v) ∧ Below B w w' ∧ KeptG G w w' := by
  obtain ⟨p, lq, q, hd, nx, e, K, C, D, vC, vW, h⟩ := h
  exact (sto_set h c v).mono fun r w' ⟨h1, h2, h3, h4⟩ => ⟨h1, ⟨p, lq, q, hd, nx, e, K, C, D, vC, vW, h2⟩, h3, h4⟩
end
section
variable {w : World}
theorem Begin_st (ht : TyOk w.heap.size w) (H L : Nat) (hg : 8 ≤ H ∧ H ≤ 400 ∧ 4 ≤ L ∧ L ≤ 300) :
    Calls Tryz.prog 31 #[.agg #[.int .i64 (H : Int), .int .i64 (L : Int)]] w fun r w' => ∃ s p, r = .returned (.tuple #[.pointer (some ⟨p, 0, none⟩), .pointer (some ⟨s, 0, none⟩)]) ∧ St w.heap.size (fun b => b < w.heap.size) w' s H L (freshC H) ∧ Below w.heap.size w w' :=
  (Begin_is ht H L hg).mono fun r w' ⟨s, p, lq, D, vC, vW, h1, h2, h3⟩ => ⟨s, p, h1, ⟨p, lq, 2, 0, 0, 2, 10000, freshC H, D, vC, vW, h2⟩, h3⟩
end
end Go.Proofs.YtbghglkplbnnkaaGreatDoor
