import Derived.Test.YtiiioeodanmieaaGreatDoorYStoreG
import Derived.Test.YtiiioeodanmieaaGreatDoorYHeap
import Derived.Test.YtiiioeodanmieaaGreatDoorYBook
set_option linter.unusedVariables false
set_option linter.unusedSimpArgs false
namespace Go.Proofs.YtiiioeodanmieaaGreatDoor
open Go.RowKit Sec
open Go.Proofs.YtiiioeodanmieaaGreatDoor.Bk

def rawW (H : Nat) (l : List Chg) : List Int := l.foldl (fun W x => setW W (16 + 2 * H) x.c x.v) (freshC H)
section
variable {w w' : World}
set_option maxRecDepth 100000 in
set_option maxHeartbeats 4000000 in
theorem Raw_st (ht : TyOk w.heap.size w) (H L : Nat) (hg : 8 ≤ H ∧ H ≤ 400 ∧ 4 ≤ L ∧ L ≤ 300) (a : Option Addr) (l : List Chg) (c : Nat) (hl : LiesAt w a (flat Chg.cells l)) (hn : l.length ≤ 1000) :
    Calls Tryz.prog 13 #[.agg #[.int .i64 (H : Int), .int .i64 (L : Int)], .slice a l.length c] w fun r w' => ∃ s, r = .returned (.pointer (some ⟨s, 0, none⟩)) ∧ St w.heap.size (fun b => b < w.heap.size) w' s H L (rawW H l) ∧ Below w.heap.size w w' := by
  have HB : Hid (∀ u, Below w.heap.size w u → Calls Tryz.prog 48 #[.agg #[.int .i64 (H : Int), .int .i64 (L : Int)]] u fun r w' => ∃ s p, r = .returned (.tuple #[.pointer (some ⟨p, 0, none⟩), .pointer (some ⟨s, 0, none⟩)]) ∧ St w.heap.size (fun b => b < w.heap.size) w' s H L (freshC H) ∧ Below w.heap.size w w') := Lib.hid (fun u y => (Begin_st ((ht.below y).more y.size) H L hg).mono fun r w' ⟨s, p, h1, h2, h3⟩ => ⟨s, p, h1, (h2.base y.size ((ht.below y).below (h3.mono y.size))).mono (fun b q => Nat.lt_of_lt_of_le q y.size), y.trans (h3.mono y.size)⟩)
  have HL := Lib.hid hl
  have HX := Lib.hid (GBox.made w (H : Int) (L : Int) 23)
  clear ht hl hg
  go_enter Tryz.func13, Tryz.ntmps13
  go_wp2_with (go_at_call 48
               refine (HB.out _ (by first | exact Below.refl _ _ | exact (Below.refl _ _).alloc (Nat.le_refl _) _ | exact ((Below.refl _ _).alloc (Nat.le_refl _) _).drew)).mono ?_
               rintro e w1 ⟨s, p, rfl, h1, b1⟩
               have H1 := Lib.hid (And.intro h1 b1)
               clear h1 b1)
  go_loopw [7] (fun i wr => ∃ k : Nat, k ≤ l.length ∧ i = .int .i64 (k : Int) ∧ Hid (St w.heap.size (fun b => b < w.heap.size) wr s H L (rawW H (l.take k)) ∧ Below w.heap.size w wr)) (fun i _ => l.length - (intOf i).toNat)
  case atStart => exact ⟨0, Nat.zero_le _, rfl, H1⟩
  case round =>
    clear HB HX H1
    obtain ⟨k, hk, rfl, HR⟩ := hrel
    have hkn : k ≤ 1000 := by omega
    by_cases hlt : k < l.length
    · obtain ⟨g1, o1, rfl, hg1, e1⟩ := HL.out.elem Chg.len (by omega) (List.getElem?_eq_getElem hlt)
      have e1_0 := e1 0 _ rfl
      have e1_1 := e1 1 _ rfl
      rw [Nat.add_zero] at e1_0
      clear e1
      have HV : Hid (rawW H (l.take (k + 1)) = setW (rawW H (l.take k)) (16 + 2 * H) l[k].c l[k].v) := Lib.hid (by
        rw [List.take_succ_eq_append_getElem hlt, rawW, List.foldl_append]
        rfl)
      have HS := Lib.hid (fun u (y : Below wr.heap.size wr u) => st_set (HR.out.1.below y) l[k].c l[k].v)
      have HD : Hid (∀ u, Below w.heap.size w u → u.cell? ⟨g1, o1 + k * 2, none⟩ = some (.int .i64 l[k].c) ∧ u.cell? ⟨g1, o1 + k * 2 + 1, none⟩ = some (.int .i64 l[k].v)) := Lib.hid (fun u y => ⟨(y.cell (p := ⟨g1, o1 + k * 2, none⟩) hg1).trans e1_0, (y.cell (p := ⟨g1, o1 + k * 2 + 1, none⟩) hg1).trans e1_1⟩)
      generalize l[k].c = xc at *
      generalize l[k].v = xv at *
      have hi1 : (k : Int) < (l.length : Int) := by omega
      clear e1_0 e1_1
      obtain ⟨e1_0, e1_1⟩ := HD.out _ HR.out.2
      go_wp2_with fail
      go_region_held3 (fun u => u.cell? ⟨g1, o1 + k * 2, none⟩ = some (.int .i64 xc) ∧ u.cell? ⟨g1, o1 + k * 2 + 1, none⟩ = some (.int .i64 xv)) (first
          | assumption
          | exact HD.out _ HR.out.2
          | exact HD.out _ HR.out.2.drew
          | exact HD.out _ H2.out.2) (first
        | (go_at_call 50
           refine (HS.out _ (by first | exact Below.refl _ _ | exact (Below.refl _ _).drew)).mono ?_
           rintro e' w2 ⟨rfl, h2, b2, _⟩
           have H2 := Lib.hid (And.intro h2 (HR.out.2.trans (Below.trans (by first | exact (Below.refl _ _) | exact (Below.refl _ _).drew : Below w.heap.size wr _) b2)))
           clear h2 b2))
      all_goals
        go_wp2_with fail
        exact ⟨⟨k + 1, by omega, by go_num, Lib.hid (HV.out ▸ H2.out)⟩, by simp [intOf]; omega⟩
    · obtain rfl : k = l.length := by omega
      have hn : ¬ (l.length : Int) < (l.length : Int) := by omega
      go_wp2_with fail
      go_ret
      refine ⟨s, rfl, ?_, HR.out.2⟩
      have := HR.out.1
      rwa [List.take_length] at this
set_option maxRecDepth 100000 in
set_option maxHeartbeats 2000000 in
theorem Heap_st {B : Nat} {G : Nat → Prop} {s H L : Nat} {W : List Int} (h : St B G w s H L W) :
    Calls Tryz.prog 14 #[.pointer (some ⟨s, 0, none⟩)] w fun r w' => ∃ b g c, r = .returned (.pointer (some ⟨b, 0, none⟩)) ∧ HIs w.heap.size w' b H L W g c ∧ Below w.heap.size w w' := by
  have HG := Lib.hid (st_geo h)
  have HA := Lib.hid (fun u (y : Below w.heap.size w u) => st_all (h.below y))
  have hlen := h.len
  have hge := h.ge
  have HN := Lib.hid hlen
  have HH := Lib.hid hge
  clear h hlen hge
  go_enter Tryz.func14, Tryz.ntmps14
  go_wp2_with (first
    | (go_at_call 51; refine HG.out.mono ?_; rintro e w1 ⟨rfl, b1⟩; have H1 := Lib.hid b1; clear b1)
    | (go_at_call 52
       refine (HA.out _ H1.out).mono ?_
       rintro e w2 ⟨g, c, rfl, b2, o2⟩
       have H2 := Lib.hid (And.intro (geo_next H1.out b2) (owns_base' H1.out.size o2))
       clear b2 o2))
  go_ret
  rw [← HN.out] at H2
  refine ⟨w2.heap.size, g, c, ?_, ⟨H2.out.1.size, ?_, ?_, ?_, ?_⟩, H2.out.1.trans (((Below.refl _ _).alloc (Nat.le_refl _) _).mono H2.out.1.size)⟩
  · rfl
  · rw [HN.out]
    exact heap_alloc_last _ _
  · exact owns_below H2.out.2 ((Below.refl _ _).alloc (Nat.le_refl _) _)
  · rw [HN.out]
    omega
  · rw [HN.out]
    have := HH.out
    omega
set_option maxRecDepth 100000 in
set_option maxHeartbeats 2000000 in
theorem Is_st {B B' : Nat} {G : Nat → Prop} {s H L b g c : Nat} {h l : Int} {W V : List Int} (x : St B G w s H L W) (k : HIs B' w b h l V g c) :
    Calls Tryz.prog 30 #[.pointer (some ⟨s, 0, none⟩), .pointer (some ⟨b, 0, none⟩)] w fun r w' => r = .returned (.bool (decide (W = V))) ∧ Below w.heap.size w w' := by
  have HA := Lib.hid (fun u (y : Below w.heap.size w u) => st_all (x.below y))
  have hlen := x.len
  have hge := x.ge
  have hle := k.le
  have HSm : Hid (∀ u a c2, LiesAt u a (vals W) → LiesAt u (some ⟨g, 0, none⟩) (vals V) → Calls Tryz.prog 29 #[.slice a (16 + 2 * H) c2, .slice (some ⟨g, 0, none⟩) V.length c] u fun e w' => e = .returned (.bool (decide (W = V))) ∧ Below u.heap.size u w') := Lib.hid (fun u a c2 h1 h2 => by
    have := SameInts_is W V a (some ⟨g, 0, none⟩) c2 c u h1 h2 (by rw [hlen]; unfold maxLen; omega) (by unfold maxLen; omega) (decide (W = V)) (by simp)
    rw [hlen] at this
    exact this.mono fun e w' ⟨h3, m, h4⟩ => ⟨h3, by rw [h4]; exact bel_drewN (Below.refl _ _) m⟩)
  have HD := Lib.hid (fun u (y : Below w.heap.size w u) => (show u.cell? ⟨b, 2, none⟩ = some (.slice (some ⟨g, 0, none⟩) V.length c) from (k.below y).cs.2.2))
  have HV := Lib.hid (fun u (y : Below w.heap.size w u) => row_liesK (k.below y).o)
  have c0 := HD.out _ (Below.refl _ _)
  clear x k hlen hge hle
  generalize decide (W = V) = t at *
  go_enter Tryz.func30, Tryz.ntmps30
  go_wp2_with fail
  go_region_held3 (fun u => u.cell? ⟨b, 2, none⟩ = some (.slice (some ⟨g, 0, none⟩) V.length c)) (first
      | assumption
      | exact HD.out _ (Below.refl _ _)
      | exact HD.out _ (Below.refl _ _).drew
      | exact HD.out _ H1.out.1
      | exact HD.out _ H2.out) (first
    | (go_at_call 52
       refine (HA.out _ (by first | exact Below.refl _ _ | exact (Below.refl _ _).drew)).mono ?_
       rintro e' w2 ⟨g2, c2, rfl, b2, o2⟩
       have H1 := Lib.hid (And.intro (Below.trans (by first | exact (Below.refl _ _) | exact (Below.refl _ _).drew : Below w.heap.size w _) (b2.mono (by first | exact Nat.le_refl _ | simp))) (row_liesK o2))
       clear b2 o2)
    | (go_at_call 29
       refine (HSm.out _ _ _ (by first | exact H1.out.2 | exact H1.out.2.below (Below.refl _ _).drew) (by first | exact HV.out _ H1.out.1 | exact HV.out _ H1.out.1.drew)).mono ?_
       rintro e' w3 ⟨rfl, b3⟩
       have H2 := Lib.hid (H1.out.1.trans (Below.trans (by first | exact (Below.refl _ _) | exact (Below.refl _ _).drew : Below w.heap.size w2 _) (b3.mono (by first | exact H1.out.1.size | exact H1.out.1.drew.size))))
       clear b3))
  all_goals
    go_wp2_with fail
    go_ret
    exact ⟨rfl, H2.out⟩
end
end Go.Proofs.YtiiioeodanmieaaGreatDoor
