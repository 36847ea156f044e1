/- The book: is each list of a kind what it was? -/
import Derived.Test.YtgmjphekfhiapaaBookMarked
namespace Go.Proofs.Ytgmjphekfhiapaa.Bk
open Go.RowKit

/-- The lists of a kind, and the copies beside them. -/
structure BothTexts (w : World) (p : Nat) (L M : List TL) (ao am : Option Addr) (co cm : Nat) : Prop where
  cl : w.cell? ⟨p, 0, none⟩ = some (.slice ao L.length co)
  cm : w.cell? ⟨p, 1, none⟩ = some (.slice am M.length cm)
  ol : OutTexts w ao L
  om : OutTexts w am M
  len : L.length = M.length
  same : ∀ (i : Nat) (x y : TL), L[i]? = some x → M[i]? = some y → x.l = y.l

set_option maxRecDepth 100000 in
set_option maxHeartbeats 1000000 in
theorem stillTexts_is (p : Nat) (L M : List TL) (ao am : Option Addr) (co cm : Nat) (w : World) (h : BothTexts w p L M ao am co cm) (hL : L.length ≤ 1000) :
    Calls Try.prog 36 #[.pointer (some ⟨p, 0, none⟩)] w fun e w' => e = .returned (.bool true) ∧ ∃ m, w' = w.drewN m := by
  have H := Lib.hid h
  have hLi : (L.length : Int) ≤ 1000 := by omega
  have f1 := h.cl
  have f2 := h.cm
  clear h hL
  go_enter Try.func36, Try.ntmps36
  go_wp2
  go_loopw [3] (fun i wr => ∃ k m : Nat, k ≤ L.length ∧ i = .int .i64 (k : Int) ∧ wr = w.drewN m) (fun i _ => L.length - (intOf i).toNat)
  case atStart => exact ⟨0, 0, Nat.zero_le _, rfl, rfl⟩
  case round =>
    obtain ⟨k, m, hk, rfl, rfl⟩ := hrel
    by_cases hlt : k < L.length
    · have hltM : k < M.length := by have := H.out.len; omega
      have hx : L[k]? = some L[k] := List.getElem?_eq_getElem hlt
      have hy : M[k]? = some M[k] := List.getElem?_eq_getElem hltM
      obtain ⟨b, rfl, _, hc⟩ := H.out.ol.row k L[k].cell (by rw [List.getElem?_map, hx]; rfl)
      obtain ⟨b', rfl, _, hc'⟩ := H.out.om.row k M[k].cell (by rw [List.getElem?_map, hy]; rfl)
      have hs := H.out.same k _ _ hx hy
      have hex := H.out.ol.each _ (List.getElem_mem hlt)
      have hey := H.out.om.each _ (List.getElem_mem hltM)
      have hle := H.out.ol.len _ (List.getElem_mem hlt)
      generalize L[k] = x at *
      generalize M[k] = y at *
      have c0 : w.cell? (b.add k) = some (.slice x.a x.l.length x.c) := hc
      have c1 : w.cell? (b'.add k) = some (.slice y.a y.l.length y.c) := hc'
      rw [← hs] at c1 hey
      have hi1 : (k : Int) < (L.length : Int) := by omega
      have hi2 : (k : Int) < (M.length : Int) := by omega
      have HB := Lib.hid (And.intro hex (And.intro hey hle))
      clear hex hey hle hs hc hc' hx hy
      go_wp2_with fail
      go_region_held3 (fun u => u.cell? ⟨p, 0, none⟩ = some (.slice (some b) L.length co) ∧ u.cell? ⟨p, 1, none⟩ = some (.slice (some b') M.length cm) ∧ u.cell? (b.add k) = some (.slice x.a x.l.length x.c) ∧ u.cell? (b'.add k) = some (.slice y.a x.l.length y.c)) (first
        | (exact ⟨f1, f2, c0, c1⟩)) (first
        | (go_at_call 10
           refine (SameTexts_is x.l x.l x.a y.a x.c y.c _ (HB.out.1.below (bel_drewN (Below.refl _ _) _)) (HB.out.2.1.below (bel_drewN (Below.refl _ _) _)) (by have := HB.out.2.2; unfold maxLen; omega) (by have := HB.out.2.2; unfold maxLen; omega) true ⟨fun _ => rfl, fun _ => rfl⟩).mono ?_
           rintro e w3 ⟨rfl, m3, rfl⟩))
      all_goals
        go_wp2
        exact ⟨⟨k + 1, _, by omega, by go_num, rfl⟩, by simp [intOf]; omega⟩
    · obtain rfl : k = L.length := by omega
      have hn : ¬ (L.length : Int) < (L.length : Int) := by omega
      clear hlt hk
      go_wp2
      go_ret
      exact ⟨rfl, _, rfl⟩
/-- The lists of a kind, and the copies beside them. -/
structure BothInts (w : World) (p : Nat) (L M : List IL) (ao am : Option Addr) (co cm : Nat) : Prop where
  cl : w.cell? ⟨p, 2, none⟩ = some (.slice ao L.length co)
  cm : w.cell? ⟨p, 3, none⟩ = some (.slice am M.length cm)
  ol : OutInts w ao L
  om : OutInts w am M
  len : L.length = M.length
  same : ∀ (i : Nat) (x y : IL), L[i]? = some x → M[i]? = some y → x.l = y.l

set_option maxRecDepth 100000 in
set_option maxHeartbeats 1000000 in
theorem stillInts_is (p : Nat) (L M : List IL) (ao am : Option Addr) (co cm : Nat) (w : World) (h : BothInts w p L M ao am co cm) (hL : L.length ≤ 1000) :
    Calls Try.prog 37 #[.pointer (some ⟨p, 0, none⟩)] w fun e w' => e = .returned (.bool true) ∧ ∃ m, w' = w.drewN m := by
  have H := Lib.hid h
  have hLi : (L.length : Int) ≤ 1000 := by omega
  have f1 := h.cl
  have f2 := h.cm
  clear h hL
  go_enter Try.func37, Try.ntmps37
  go_wp2
  go_loopw [3] (fun i wr => ∃ k m : Nat, k ≤ L.length ∧ i = .int .i64 (k : Int) ∧ wr = w.drewN m) (fun i _ => L.length - (intOf i).toNat)
  case atStart => exact ⟨0, 0, Nat.zero_le _, rfl, rfl⟩
  case round =>
    obtain ⟨k, m, hk, rfl, rfl⟩ := hrel
    by_cases hlt : k < L.length
    · have hltM : k < M.length := by have := H.out.len; omega
      have hx : L[k]? = some L[k] := List.getElem?_eq_getElem hlt
      have hy : M[k]? = some M[k] := List.getElem?_eq_getElem hltM
      obtain ⟨b, rfl, _, hc⟩ := H.out.ol.row k L[k].cell (by rw [List.getElem?_map, hx]; rfl)
      obtain ⟨b', rfl, _, hc'⟩ := H.out.om.row k M[k].cell (by rw [List.getElem?_map, hy]; rfl)
      have hs := H.out.same k _ _ hx hy
      have hex := H.out.ol.each _ (List.getElem_mem hlt)
      have hey := H.out.om.each _ (List.getElem_mem hltM)
      have hle := H.out.ol.len _ (List.getElem_mem hlt)
      generalize L[k] = x at *
      generalize M[k] = y at *
      have c0 : w.cell? (b.add k) = some (.slice x.a x.l.length x.c) := hc
      have c1 : w.cell? (b'.add k) = some (.slice y.a y.l.length y.c) := hc'
      rw [← hs] at c1 hey
      have hi1 : (k : Int) < (L.length : Int) := by omega
      have hi2 : (k : Int) < (M.length : Int) := by omega
      have HB := Lib.hid (And.intro hex (And.intro hey hle))
      clear hex hey hle hs hc hc' hx hy
      go_wp2_with fail
      go_region_held3 (fun u => u.cell? ⟨p, 2, none⟩ = some (.slice (some b) L.length co) ∧ u.cell? ⟨p, 3, none⟩ = some (.slice (some b') M.length cm) ∧ u.cell? (b.add k) = some (.slice x.a x.l.length x.c) ∧ u.cell? (b'.add k) = some (.slice y.a x.l.length y.c)) (first
        | (exact ⟨f1, f2, c0, c1⟩)) (first
        | (go_at_call 17
           refine (SameInts_is x.l x.l x.a y.a x.c y.c _ (HB.out.1.below (bel_drewN (Below.refl _ _) _)) (HB.out.2.1.below (bel_drewN (Below.refl _ _) _)) (by have := HB.out.2.2; unfold maxLen; omega) (by have := HB.out.2.2; unfold maxLen; omega) true ⟨fun _ => rfl, fun _ => rfl⟩).mono ?_
           rintro e w3 ⟨rfl, m3, rfl⟩))
      all_goals
        go_wp2
        exact ⟨⟨k + 1, _, by omega, by go_num, rfl⟩, by simp [intOf]; omega⟩
    · obtain rfl : k = L.length := by omega
      have hn : ¬ (L.length : Int) < (L.length : Int) := by omega
      clear hlt hk
      go_wp2
      go_ret
      exact ⟨rfl, _, rfl⟩
end Go.Proofs.Ytgmjphekfhiapaa.Bk
