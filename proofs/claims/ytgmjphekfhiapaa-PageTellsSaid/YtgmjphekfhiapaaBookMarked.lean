/- The book: are all lists of a kind marked? -/
import Derived.Test.YtgmjphekfhiapaaBookName
import Derived.Deep.RegionHeld3
namespace Go.Proofs.Ytgmjphekfhiapaa.Bk
open Go.RowKit

structure TL where
  a : Option Addr
  l : List ByteArray
  c : Nat
def TL.cell (x : TL) : Value := .slice x.a x.l.length x.c
structure OutTexts (w : World) (ao : Option Addr) (L : List TL) : Prop where
  row : LiesAt w ao (L.map TL.cell)
  each : ∀ x ∈ L, LiesAt w x.a (txts x.l)
  len : ∀ x ∈ L, x.l.length < 2 ^ 40
theorem OutTexts.below {w w' : World} {ao : Option Addr} {L : List TL} (h : OutTexts w ao L) (b : Below w.heap.size w w') : OutTexts w' ao L :=
  ⟨h.row.below b, fun x hx => (h.each x hx).below b, h.len⟩
def MarkedTexts (L : List TL) : Prop := ∀ (i : Nat) (x : TL), L[i]? = some x → x.l = marksT i 0 x.l.length

set_option maxRecDepth 100000 in
set_option maxHeartbeats 1000000 in
theorem markedTexts_is (ao : Option Addr) (L : List TL) (co : Nat) (w : World) (h : OutTexts w ao L) (hm : MarkedTexts L) (hL : L.length ≤ 1000) :
    Calls Try.prog 54 #[.slice ao L.length co] w fun e w' => e = .returned (.bool true) ∧ Below w.heap.size w w' := by
  have H := Lib.hid (And.intro h hm)
  have hLi : (L.length : Int) ≤ 1000 := by omega
  clear h hm hL
  go_enter Try.func54, Try.ntmps54
  go_wp2
  go_loopw [3] (fun i wr => ∃ k : Nat, k ≤ L.length ∧ i = .int .i64 (k : Int) ∧ Below w.heap.size w wr) (fun i _ => L.length - (intOf i).toNat)
  case atStart => exact ⟨0, Nat.zero_le _, rfl, Below.refl _ _⟩
  case round =>
    obtain ⟨k, hk, rfl, hb⟩ := hrel
    by_cases hlt : k < L.length
    · have hx : L[k]? = some L[k] := List.getElem?_eq_getElem hlt
      have hin : L[k] ∈ L := List.getElem_mem hlt
      have hO := H.out.1.below hb
      obtain ⟨b, rfl, hbl, hc⟩ := hO.row k L[k].cell (by rw [List.getElem?_map, hx]; rfl)
      have hmk := H.out.2 k _ hx
      have hel := hO.each _ hin
      have hle := H.out.1.len _ hin
      generalize L[k] = x at *
      have c0 : wr.cell? (b.add k) = some (.slice x.a x.l.length x.c) := hc
      have hi1 : (k : Int) < (L.length : Int) := by omega
      have hk1 : (k : Int) ≤ 1000 := by omega
      have HB := Lib.hid (And.intro hb (And.intro hbl (And.intro hmk (And.intro hel hle))))
      clear hb hbl hmk hel hle hO hc hx hin
      go_wp2_with fail
      go_region_held3 (fun u => u.cell? (b.add k) = some (.slice x.a x.l.length x.c)) (first | assumption | (simp only [World.cell?_drew]; assumption) | go_simp) (first
        | (go_at_call 75
           refine (markTexts_is k 0 x.l.length _ hk1 (by decide) HB.out.2.2.2.2).mono ?_
           rintro e w2 ⟨v, rfl, b2, o2⟩
           rw [← HB.out.2.2.1] at o2
           obtain ⟨a2, c2, rfl, h2, _⟩ := own_form o2
           have d2 : w2.cell? (b.add k) = some (.slice x.a x.l.length x.c) := by
             rw [b2.cell (by rw [add_block]; exact HB.out.2.1)]
             exact c0
           have b2' : Below wr.heap.size wr w2 := (Below.refl wr.heap.size wr).drew.trans b2
           have HX := Lib.hid (And.intro b2' h2)
           clear b2 b2' o2 h2)
        | (go_at_call 10
           refine (SameTexts_is x.l x.l x.a a2 x.c c2 _ (HB.out.2.2.2.1.below HX.out.1) HX.out.2 (by have := HB.out.2.2.2.2; unfold maxLen; omega) (by have := HB.out.2.2.2.2; unfold maxLen; omega) true ⟨fun _ => rfl, fun _ => rfl⟩).mono ?_
           rintro e w3 ⟨rfl, m3, rfl⟩))
      all_goals
        go_wp2
        exact ⟨⟨k + 1, by omega, by go_num, bel_drewN (below_next HB.out.1 HX.out.1) _⟩, by simp [intOf]; omega⟩
    · obtain rfl : k = L.length := by omega
      have hn : ¬ (L.length : Int) < (L.length : Int) := by omega
      have HB := Lib.hid hb
      clear hlt hk hb
      go_wp2
      go_ret
      exact ⟨rfl, HB.out⟩
structure IL where
  a : Option Addr
  l : List Int
  c : Nat
def IL.cell (x : IL) : Value := .slice x.a x.l.length x.c
structure OutInts (w : World) (ao : Option Addr) (L : List IL) : Prop where
  row : LiesAt w ao (L.map IL.cell)
  each : ∀ x ∈ L, LiesAt w x.a (vals x.l)
  len : ∀ x ∈ L, x.l.length < 2 ^ 40
theorem OutInts.below {w w' : World} {ao : Option Addr} {L : List IL} (h : OutInts w ao L) (b : Below w.heap.size w w') : OutInts w' ao L :=
  ⟨h.row.below b, fun x hx => (h.each x hx).below b, h.len⟩
def MarkedInts (L : List IL) : Prop := ∀ (i : Nat) (x : IL), L[i]? = some x → x.l = marksI (i : Int) 0 x.l.length

set_option maxRecDepth 100000 in
set_option maxHeartbeats 1000000 in
theorem markedInts_is (ao : Option Addr) (L : List IL) (co : Nat) (w : World) (h : OutInts w ao L) (hm : MarkedInts L) (hL : L.length ≤ 1000) :
    Calls Try.prog 55 #[.slice ao L.length co] w fun e w' => e = .returned (.bool true) ∧ Below w.heap.size w w' := by
  have H := Lib.hid (And.intro h hm)
  have hLi : (L.length : Int) ≤ 1000 := by omega
  clear h hm hL
  go_enter Try.func55, Try.ntmps55
  go_wp2
  go_loopw [3] (fun i wr => ∃ k : Nat, k ≤ L.length ∧ i = .int .i64 (k : Int) ∧ Below w.heap.size w wr) (fun i _ => L.length - (intOf i).toNat)
  case atStart => exact ⟨0, Nat.zero_le _, rfl, Below.refl _ _⟩
  case round =>
    obtain ⟨k, hk, rfl, hb⟩ := hrel
    by_cases hlt : k < L.length
    · have hx : L[k]? = some L[k] := List.getElem?_eq_getElem hlt
      have hin : L[k] ∈ L := List.getElem_mem hlt
      have hO := H.out.1.below hb
      obtain ⟨b, rfl, hbl, hc⟩ := hO.row k L[k].cell (by rw [List.getElem?_map, hx]; rfl)
      have hmk := H.out.2 k _ hx
      have hel := hO.each _ hin
      have hle := H.out.1.len _ hin
      generalize L[k] = x at *
      have c0 : wr.cell? (b.add k) = some (.slice x.a x.l.length x.c) := hc
      have hi1 : (k : Int) < (L.length : Int) := by omega
      have hk1 : (k : Int) ≤ 1000 := by omega
      have HB := Lib.hid (And.intro hb (And.intro hbl (And.intro hmk (And.intro hel hle))))
      clear hb hbl hmk hel hle hO hc hx hin
      go_wp2_with fail
      go_region_held3 (fun u => u.cell? (b.add k) = some (.slice x.a x.l.length x.c)) (first | assumption | (simp only [World.cell?_drew]; assumption) | go_simp) (first
        | (go_at_call 76
           refine (markInts_is (k : Int) 0 x.l.length _ (by omega) hk1 (by decide) HB.out.2.2.2.2).mono ?_
           rintro e w2 ⟨v, rfl, b2, o2⟩
           rw [← HB.out.2.2.1] at o2
           obtain ⟨a2, c2, rfl, h2, _⟩ := own_form o2
           have d2 : w2.cell? (b.add k) = some (.slice x.a x.l.length x.c) := by
             rw [b2.cell (by rw [add_block]; exact HB.out.2.1)]
             exact c0
           have b2' : Below wr.heap.size wr w2 := (Below.refl wr.heap.size wr).drew.trans b2
           have HX := Lib.hid (And.intro b2' h2)
           clear b2 b2' o2 h2)
        | (go_at_call 17
           refine (SameInts_is x.l x.l x.a a2 x.c c2 _ (HB.out.2.2.2.1.below HX.out.1) HX.out.2 (by have := HB.out.2.2.2.2; unfold maxLen; omega) (by have := HB.out.2.2.2.2; unfold maxLen; omega) true ⟨fun _ => rfl, fun _ => rfl⟩).mono ?_
           rintro e w3 ⟨rfl, m3, rfl⟩))
      all_goals
        go_wp2
        exact ⟨⟨k + 1, by omega, by go_num, bel_drewN (below_next HB.out.1 HX.out.1) _⟩, by simp [intOf]; omega⟩
    · obtain rfl : k = L.length := by omega
      have hn : ¬ (L.length : Int) < (L.length : Int) := by omega
      have HB := Lib.hid hb
      clear hlt hk hb
      go_wp2
      go_ret
      exact ⟨rfl, HB.out⟩
end Go.Proofs.Ytgmjphekfhiapaa.Bk
