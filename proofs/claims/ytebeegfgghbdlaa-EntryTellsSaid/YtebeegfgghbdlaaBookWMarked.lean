/- The book: lists of structs: are all marked? is each what it was? -/
import Derived.Test.YtebeegfgghbdlaaBookWMark
import Derived.Deep.RegionHeld3
namespace Go.Proofs.Ytebeegfgghbdlaa.Bk
open Go.RowKit

structure CL where
  a : Option Addr
  l : List Chg
  c : Nat
def CL.cell (x : CL) : Value := .slice x.a x.l.length x.c
structure OutChanges (w : World) (ao : Option Addr) (L : List CL) : Prop where
  row : LiesAt w ao (L.map CL.cell)
  each : ∀ x ∈ L, LiesAt w x.a (flat Chg.cells x.l)
  len : ∀ x ∈ L, x.l.length < 2 ^ 40
theorem OutChanges.below {w w' : World} {ao : Option Addr} {L : List CL} (h : OutChanges w ao L) (b : Below w.heap.size w w') : OutChanges w' ao L :=
  ⟨h.row.below b, fun x hx => (h.each x hx).below b, h.len⟩
def MarkedChanges (L : List CL) : Prop := ∀ (i : Nat) (x : CL), L[i]? = some x → x.l = marksChanges (i : Int) 0 x.l.length

set_option maxRecDepth 100000 in
set_option maxHeartbeats 1000000 in
theorem markedChanges_is (ao : Option Addr) (L : List CL) (co : Nat) (w : World) (h : OutChanges w ao L) (hm : MarkedChanges L) (hL : L.length ≤ 1000) :
    Calls Try.prog 56 #[.slice ao L.length co] w fun e w' => e = .returned (.bool true) ∧ Below w.heap.size w w' := by
  have H := Lib.hid (And.intro h hm)
  have hLi : (L.length : Int) ≤ 1000 := by omega
  clear h hm hL
  go_enter Try.func56, Try.ntmps56
  go_wp2
  go_loopw [3] (fun i wr => ∃ k : Nat, k ≤ L.length ∧ i = .int .i64 (k : Int) ∧ Below w.heap.size w wr) (fun i _ => L.length - (intOf i).toNat)
  case atStart => exact ⟨0, Nat.zero_le _, rfl, Below.refl _ _⟩
  case round =>
    obtain ⟨k, hk, rfl, hb⟩ := hrel
    by_cases hlt : k < L.length
    · have hx : L[k]? = some L[k] := List.getElem?_eq_getElem hlt
      have hin : L[k] ∈ L := List.getElem_mem hlt
      have hO := H.out.1.below hb
      obtain ⟨b, rfl, hbl, hc⟩ := hO.row k L[k].cell (by rw [List.getElem?_map, hx]; rfl)
      have hmk := H.out.2 k _ hx
      have hel := hO.each _ hin
      have hle := H.out.1.len _ hin
      generalize L[k] = x at *
      have c0 : wr.cell? (b.add k) = some (.slice x.a x.l.length x.c) := hc
      have hi1 : (k : Int) < (L.length : Int) := by omega
      have hk1 : (k : Int) ≤ 1000 := by omega
      have HB := Lib.hid (And.intro hb (And.intro hbl (And.intro hmk (And.intro hel hle))))
      clear hb hbl hmk hel hle hO hc hx hin
      go_wp2_with fail
      go_region_held3 (fun u => u.cell? (b.add k) = some (.slice x.a x.l.length x.c)) (first | assumption | (simp only [World.cell?_drew]; assumption) | go_simp) (first
        | (go_at_call 71
           refine (markChanges_is (k : Int) 0 x.l.length _ (by omega) hk1 (by decide) HB.out.2.2.2.2).mono ?_
           rintro e w2 ⟨v, rfl, b2, o2⟩
           rw [← HB.out.2.2.1] at o2
           obtain ⟨a2, c2, rfl, h2, _⟩ := own_formK o2
           have d2 : w2.cell? (b.add k) = some (.slice x.a x.l.length x.c) := by
             rw [b2.cell (by rw [add_block]; exact HB.out.2.1)]
             exact c0
           have b2' : Below wr.heap.size wr w2 := (Below.refl wr.heap.size wr).drew.trans b2
           have HX := Lib.hid (And.intro b2' h2)
           clear b2 b2' o2 h2)
        | (go_at_call 20
           refine (SameChanges_is x.l x.l x.a a2 x.c c2 _ (HB.out.2.2.2.1.below HX.out.1) HX.out.2 (by have := HB.out.2.2.2.2; unfold maxLen; omega) (by have := HB.out.2.2.2.2; unfold maxLen; omega) true ⟨fun _ => rfl, fun _ => rfl⟩).mono ?_
           rintro e w3 ⟨rfl, m3, rfl⟩))
      all_goals
        go_wp2
        exact ⟨⟨k + 1, by omega, by go_num, bel_drewN (below_next HB.out.1 HX.out.1) _⟩, by simp [intOf]; omega⟩
    · obtain rfl : k = L.length := by omega
      have hn : ¬ (L.length : Int) < (L.length : Int) := by omega
      have HB := Lib.hid hb
      clear hlt hk hb
      go_wp2
      go_ret
      exact ⟨rfl, HB.out⟩

/-- The lists of a kind, and the copies beside them. -/
structure BothChanges (w : World) (p : Nat) (L M : List CL) (ao am : Option Addr) (co cm : Nat) : Prop where
  cl : w.cell? ⟨p, 4, none⟩ = some (.slice ao L.length co)
  cm : w.cell? ⟨p, 5, none⟩ = some (.slice am M.length cm)
  ol : OutChanges w ao L
  om : OutChanges w am M
  len : L.length = M.length
  same : ∀ (i : Nat) (x y : CL), L[i]? = some x → M[i]? = some y → x.l = y.l

set_option maxRecDepth 100000 in
set_option maxHeartbeats 1000000 in
theorem stillChanges_is (p : Nat) (L M : List CL) (ao am : Option Addr) (co cm : Nat) (w : World) (h : BothChanges w p L M ao am co cm) (hL : L.length ≤ 1000) :
    Calls Try.prog 38 #[.pointer (some ⟨p, 0, none⟩)] w fun e w' => e = .returned (.bool true) ∧ ∃ m, w' = w.drewN m := by
  have H := Lib.hid h
  have hLi : (L.length : Int) ≤ 1000 := by omega
  have f1 := h.cl
  have f2 := h.cm
  clear h hL
  go_enter Try.func38, Try.ntmps38
  go_wp2
  go_loopw [3] (fun i wr => ∃ k m : Nat, k ≤ L.length ∧ i = .int .i64 (k : Int) ∧ wr = w.drewN m) (fun i _ => L.length - (intOf i).toNat)
  case atStart => exact ⟨0, 0, Nat.zero_le _, rfl, rfl⟩
  case round =>
    obtain ⟨k, m, hk, rfl, rfl⟩ := hrel
    by_cases hlt : k < L.length
    · have hltM : k < M.length := by have := H.out.len; omega
      have hx : L[k]? = some L[k] := List.getElem?_eq_getElem hlt
      have hy : M[k]? = some M[k] := List.getElem?_eq_getElem hltM
      obtain ⟨b, rfl, _, hc⟩ := H.out.ol.row k L[k].cell (by rw [List.getElem?_map, hx]; rfl)
      obtain ⟨b', rfl, _, hc'⟩ := H.out.om.row k M[k].cell (by rw [List.getElem?_map, hy]; rfl)
      have hs := H.out.same k _ _ hx hy
      have hex := H.out.ol.each _ (List.getElem_mem hlt)
      have hey := H.out.om.each _ (List.getElem_mem hltM)
      have hle := H.out.ol.len _ (List.getElem_mem hlt)
      generalize L[k] = x at *
      generalize M[k] = y at *
      have c0 : w.cell? (b.add k) = some (.slice x.a x.l.length x.c) := hc
      have c1 : w.cell? (b'.add k) = some (.slice y.a y.l.length y.c) := hc'
      rw [← hs] at c1 hey
      have hi1 : (k : Int) < (L.length : Int) := by omega
      have hi2 : (k : Int) < (M.length : Int) := by omega
      have HB := Lib.hid (And.intro hex (And.intro hey hle))
      clear hex hey hle hs hc hc' hx hy
      go_wp2_with fail
      go_region_held3 (fun u => u.cell? ⟨p, 4, none⟩ = some (.slice (some b) L.length co) ∧ u.cell? ⟨p, 5, none⟩ = some (.slice (some b') M.length cm) ∧ u.cell? (b.add k) = some (.slice x.a x.l.length x.c) ∧ u.cell? (b'.add k) = some (.slice y.a x.l.length y.c)) (first
        | (exact ⟨f1, f2, c0, c1⟩)) (first
        | (go_at_call 20
           refine (SameChanges_is x.l x.l x.a y.a x.c y.c _ (HB.out.1.below (bel_drewN (Below.refl _ _) _)) (HB.out.2.1.below (bel_drewN (Below.refl _ _) _)) (by have := HB.out.2.2; unfold maxLen; omega) (by have := HB.out.2.2; unfold maxLen; omega) true ⟨fun _ => rfl, fun _ => rfl⟩).mono ?_
           rintro e w3 ⟨rfl, m3, rfl⟩))
      all_goals
        go_wp2
        exact ⟨⟨k + 1, _, by omega, by go_num, rfl⟩, by simp [intOf]; omega⟩
    · obtain rfl : k = L.length := by omega
      have hn : ¬ (L.length : Int) < (L.length : Int) := by omega
      clear hlt hk
      go_wp2
      go_ret
      exact ⟨rfl, _, rfl⟩
structure EL where
  a : Option Addr
  l : List Ent
  c : Nat
def EL.cell (x : EL) : Value := .slice x.a x.l.length x.c
structure OutEntries (w : World) (ao : Option Addr) (L : List EL) : Prop where
  row : LiesAt w ao (L.map EL.cell)
  each : ∀ x ∈ L, LiesAt w x.a (flat Ent.cells x.l)
  len : ∀ x ∈ L, x.l.length < 2 ^ 40
theorem OutEntries.below {w w' : World} {ao : Option Addr} {L : List EL} (h : OutEntries w ao L) (b : Below w.heap.size w w') : OutEntries w' ao L :=
  ⟨h.row.below b, fun x hx => (h.each x hx).below b, h.len⟩
def MarkedEntries (L : List EL) : Prop := ∀ (i : Nat) (x : EL), L[i]? = some x → x.l = marksEntries (i : Int) 0 x.l.length

set_option maxRecDepth 100000 in
set_option maxHeartbeats 1000000 in
theorem markedEntries_is (ao : Option Addr) (L : List EL) (co : Nat) (w : World) (h : OutEntries w ao L) (hm : MarkedEntries L) (hL : L.length ≤ 1000) :
    Calls Try.prog 57 #[.slice ao L.length co] w fun e w' => e = .returned (.bool true) ∧ Below w.heap.size w w' := by
  have H := Lib.hid (And.intro h hm)
  have hLi : (L.length : Int) ≤ 1000 := by omega
  clear h hm hL
  go_enter Try.func57, Try.ntmps57
  go_wp2
  go_loopw [3] (fun i wr => ∃ k : Nat, k ≤ L.length ∧ i = .int .i64 (k : Int) ∧ Below w.heap.size w wr) (fun i _ => L.length - (intOf i).toNat)
  case atStart => exact ⟨0, Nat.zero_le _, rfl, Below.refl _ _⟩
  case round =>
    obtain ⟨k, hk, rfl, hb⟩ := hrel
    by_cases hlt : k < L.length
    · have hx : L[k]? = some L[k] := List.getElem?_eq_getElem hlt
      have hin : L[k] ∈ L := List.getElem_mem hlt
      have hO := H.out.1.below hb
      obtain ⟨b, rfl, hbl, hc⟩ := hO.row k L[k].cell (by rw [List.getElem?_map, hx]; rfl)
      have hmk := H.out.2 k _ hx
      have hel := hO.each _ hin
      have hle := H.out.1.len _ hin
      generalize L[k] = x at *
      have c0 : wr.cell? (b.add k) = some (.slice x.a x.l.length x.c) := hc
      have hi1 : (k : Int) < (L.length : Int) := by omega
      have hk1 : (k : Int) ≤ 1000 := by omega
      have HB := Lib.hid (And.intro hb (And.intro hbl (And.intro hmk (And.intro hel hle))))
      clear hb hbl hmk hel hle hO hc hx hin
      go_wp2_with fail
      go_region_held3 (fun u => u.cell? (b.add k) = some (.slice x.a x.l.length x.c)) (first | assumption | (simp only [World.cell?_drew]; assumption) | go_simp) (first
        | (go_at_call 72
           refine (markEntries_is (k : Int) 0 x.l.length _ (by omega) hk1 (by decide) HB.out.2.2.2.2).mono ?_
           rintro e w2 ⟨v, rfl, b2, o2⟩
           rw [← HB.out.2.2.1] at o2
           obtain ⟨a2, c2, rfl, h2, _⟩ := own_formK o2
           have d2 : w2.cell? (b.add k) = some (.slice x.a x.l.length x.c) := by
             rw [b2.cell (by rw [add_block]; exact HB.out.2.1)]
             exact c0
           have b2' : Below wr.heap.size wr w2 := (Below.refl wr.heap.size wr).drew.trans b2
           have HX := Lib.hid (And.intro b2' h2)
           clear b2 b2' o2 h2)
        | (go_at_call 19
           refine (SameEntries_is x.l x.l x.a a2 x.c c2 _ (HB.out.2.2.2.1.below HX.out.1) HX.out.2 (by have := HB.out.2.2.2.2; unfold maxLen; omega) (by have := HB.out.2.2.2.2; unfold maxLen; omega) true ⟨fun _ => rfl, fun _ => rfl⟩).mono ?_
           rintro e w3 ⟨rfl, m3, rfl⟩))
      all_goals
        go_wp2
        exact ⟨⟨k + 1, by omega, by go_num, bel_drewN (below_next HB.out.1 HX.out.1) _⟩, by simp [intOf]; omega⟩
    · obtain rfl : k = L.length := by omega
      have hn : ¬ (L.length : Int) < (L.length : Int) := by omega
      have HB := Lib.hid hb
      clear hlt hk hb
      go_wp2
      go_ret
      exact ⟨rfl, HB.out⟩

/-- The lists of a kind, and the copies beside them. -/
structure BothEntries (w : World) (p : Nat) (L M : List EL) (ao am : Option Addr) (co cm : Nat) : Prop where
  cl : w.cell? ⟨p, 6, none⟩ = some (.slice ao L.length co)
  cm : w.cell? ⟨p, 7, none⟩ = some (.slice am M.length cm)
  ol : OutEntries w ao L
  om : OutEntries w am M
  len : L.length = M.length
  same : ∀ (i : Nat) (x y : EL), L[i]? = some x → M[i]? = some y → x.l = y.l

set_option maxRecDepth 100000 in
set_option maxHeartbeats 1000000 in
theorem stillEntries_is (p : Nat) (L M : List EL) (ao am : Option Addr) (co cm : Nat) (w : World) (h : BothEntries w p L M ao am co cm) (hL : L.length ≤ 1000) :
    Calls Try.prog 39 #[.pointer (some ⟨p, 0, none⟩)] w fun e w' => e = .returned (.bool true) ∧ ∃ m, w' = w.drewN m := by
  have H := Lib.hid h
  have hLi : (L.length : Int) ≤ 1000 := by omega
  have f1 := h.cl
  have f2 := h.cm
  clear h hL
  go_enter Try.func39, Try.ntmps39
  go_wp2
  go_loopw [3] (fun i wr => ∃ k m : Nat, k ≤ L.length ∧ i = .int .i64 (k : Int) ∧ wr = w.drewN m) (fun i _ => L.length - (intOf i).toNat)
  case atStart => exact ⟨0, 0, Nat.zero_le _, rfl, rfl⟩
  case round =>
    obtain ⟨k, m, hk, rfl, rfl⟩ := hrel
    by_cases hlt : k < L.length
    · have hltM : k < M.length := by have := H.out.len; omega
      have hx : L[k]? = some L[k] := List.getElem?_eq_getElem hlt
      have hy : M[k]? = some M[k] := List.getElem?_eq_getElem hltM
      obtain ⟨b, rfl, _, hc⟩ := H.out.ol.row k L[k].cell (by rw [List.getElem?_map, hx]; rfl)
      obtain ⟨b', rfl, _, hc'⟩ := H.out.om.row k M[k].cell (by rw [List.getElem?_map, hy]; rfl)
      have hs := H.out.same k _ _ hx hy
      have hex := H.out.ol.each _ (List.getElem_mem hlt)
      have hey := H.out.om.each _ (List.getElem_mem hltM)
      have hle := H.out.ol.len _ (List.getElem_mem hlt)
      generalize L[k] = x at *
      generalize M[k] = y at *
      have c0 : w.cell? (b.add k) = some (.slice x.a x.l.length x.c) := hc
      have c1 : w.cell? (b'.add k) = some (.slice y.a y.l.length y.c) := hc'
      rw [← hs] at c1 hey
      have hi1 : (k : Int) < (L.length : Int) := by omega
      have hi2 : (k : Int) < (M.length : Int) := by omega
      have HB := Lib.hid (And.intro hex (And.intro hey hle))
      clear hex hey hle hs hc hc' hx hy
      go_wp2_with fail
      go_region_held3 (fun u => u.cell? ⟨p, 6, none⟩ = some (.slice (some b) L.length co) ∧ u.cell? ⟨p, 7, none⟩ = some (.slice (some b') M.length cm) ∧ u.cell? (b.add k) = some (.slice x.a x.l.length x.c) ∧ u.cell? (b'.add k) = some (.slice y.a x.l.length y.c)) (first
        | (exact ⟨f1, f2, c0, c1⟩)) (first
        | (go_at_call 19
           refine (SameEntries_is x.l x.l x.a y.a x.c y.c _ (HB.out.1.below (bel_drewN (Below.refl _ _) _)) (HB.out.2.1.below (bel_drewN (Below.refl _ _) _)) (by have := HB.out.2.2; unfold maxLen; omega) (by have := HB.out.2.2; unfold maxLen; omega) true ⟨fun _ => rfl, fun _ => rfl⟩).mono ?_
           rintro e w3 ⟨rfl, m3, rfl⟩))
      all_goals
        go_wp2
        exact ⟨⟨k + 1, _, by omega, by go_num, rfl⟩, by simp [intOf]; omega⟩
    · obtain rfl : k = L.length := by omega
      have hn : ¬ (L.length : Int) < (L.length : Int) := by omega
      clear hlt hk
      go_wp2
      go_ret
      exact ⟨rfl, _, rfl⟩
end Go.Proofs.Ytebeegfgghbdlaa.Bk
