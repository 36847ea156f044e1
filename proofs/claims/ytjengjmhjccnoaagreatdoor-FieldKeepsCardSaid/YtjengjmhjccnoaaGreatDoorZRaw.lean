/- flittinglaw11's helpers: Raw (a store of a heap whose cells were set), Heap (the document's heap of a store), Is (the same cells). -/
import Derived.Test.YtjengjmhjccnoaaGreatDoorZStoreG
import Derived.Test.YtjengjmhjccnoaaGreatDoorZHeap
import Derived.Test.YtjengjmhjccnoaaGreatDoorZBook
set_option linter.unusedVariables false
set_option linter.unusedSimpArgs false
namespace Go.Proofs.YtjengjmhjccnoaaGreatDoor
open Go.RowKit Sec
open Go.Proofs.YtjengjmhjccnoaaGreatDoor.Bk

/-- The cells behind the Sets of a list of changes. -/
def rawW (H : Nat) (l : List Chg) : List Int := l.foldl (fun W x => setW W (16 + 2 * H) x.c x.v) (freshC H)
theorem rawW_len (H : Nat) (l : List Chg) : (rawW H l).length = 16 + 2 * H := by
  have : ∀ (l : List Chg) (W : List Int), (l.foldl (fun W x => setW W (16 + 2 * H) x.c x.v) W).length = W.length := by
    intro l
    induction l with
    | nil => intro W; rfl
    | cons x l ih => intro W; rw [List.foldl_cons, ih, setW_len]
  rw [rawW, this, freshC_len]
section
variable {w w' : World}
set_option maxRecDepth 100000 in
set_option maxHeartbeats 4000000 in
theorem Raw_st (ht : TyOk w.heap.size w) (H L : Nat) (hg : 8 ≤ H ∧ H ≤ 400 ∧ 4 ≤ L ∧ L ≤ 300) (a : Option Addr) (l : List Chg) (c : Nat) (hl : LiesAt w a (flat Chg.cells l)) (hn : l.length ≤ 1000) :
    Calls Tryz.prog 15 #[.agg #[.int .i64 (H : Int), .int .i64 (L : Int)], .slice a l.length c] w fun r w' => ∃ s, r = .returned (.pointer (some ⟨s, 0, none⟩)) ∧ St w.heap.size (fun b => b < w.heap.size) w' s H L (rawW H l) ∧ Below w.heap.size w w' := by
  have HB : Hid (∀ u, Below w.heap.size w u → Calls Tryz.prog 7 #[.agg #[.int .i64 (H : Int), .int .i64 (L : Int)]] u fun r w' => ∃ s p, r = .returned (.tuple #[.pointer (some ⟨p, 0, none⟩), .pointer (some ⟨s, 0, none⟩)]) ∧ St w.heap.size (fun b => b < w.heap.size) w' s H L (freshC H) ∧ Below w.heap.size w w') := Lib.hid (fun u y => (Begin_st ((ht.below y).more y.size) H L hg).mono fun r w' ⟨s, p, h1, h2, h3⟩ => ⟨s, p, h1, (h2.base y.size ((ht.below y).below (h3.mono y.size))).mono (fun b q => Nat.lt_of_lt_of_le q y.size), y.trans (h3.mono y.size)⟩)
  have HL := Lib.hid hl
  have HX := Lib.hid (GBox.made w (H : Int) (L : Int) 23)
  clear ht hl hg
  go_enter Tryz.func15, Tryz.ntmps15
  go_wp2_with (go_at_call 7
               refine (HB.out _ (by first | exact Below.refl _ _ | exact (Below.refl _ _).alloc (Nat.le_refl _) _ | exact ((Below.refl _ _).alloc (Nat.le_refl _) _).drew)).mono ?_
               rintro e w1 ⟨s, p, rfl, h1, b1⟩
               have H1 := Lib.hid (And.intro h1 b1)
               clear h1 b1)
  go_loopw [7] (fun i wr => ∃ k : Nat, k ≤ l.length ∧ i = .int .i64 (k : Int) ∧ Hid (St w.heap.size (fun b => b < w.heap.size) wr s H L (rawW H (l.take k)) ∧ Below w.heap.size w wr)) (fun i _ => l.length - (intOf i).toNat)
  case atStart => exact ⟨0, Nat.zero_le _, rfl, H1⟩
  case round =>
    clear HB HX H1
    obtain ⟨k, hk, rfl, HR⟩ := hrel
    have hkn : k ≤ 1000 := by omega
    by_cases hlt : k < l.length
    · obtain ⟨g1, o1, rfl, hg1, e1⟩ := HL.out.elem Chg.len (by omega) (List.getElem?_eq_getElem hlt)
      have e1_0 := e1 0 _ rfl
      have e1_1 := e1 1 _ rfl
      rw [Nat.add_zero] at e1_0
      clear e1
      have HV : Hid (rawW H (l.take (k + 1)) = setW (rawW H (l.take k)) (16 + 2 * H) l[k].c l[k].v) := Lib.hid (by
        rw [List.take_succ_eq_append_getElem hlt, rawW, List.foldl_append]
        rfl)
      have HS := Lib.hid (fun u (y : Below wr.heap.size wr u) => st_set (HR.out.1.below y) l[k].c l[k].v)
      have HD : Hid (∀ u, Below w.heap.size w u → u.cell? ⟨g1, o1 + k * 2, none⟩ = some (.int .i64 l[k].c) ∧ u.cell? ⟨g1, o1 + k * 2 + 1, none⟩ = some (.int .i64 l[k].v)) := Lib.hid (fun u y => ⟨(y.cell (p := ⟨g1, o1 + k * 2, none⟩) hg1).trans e1_0, (y.cell (p := ⟨g1, o1 + k * 2 + 1, none⟩) hg1).trans e1_1⟩)
      generalize l[k].c = xc at *
      generalize l[k].v = xv at *
      have hi1 : (k : Int) < (l.length : Int) := by omega
      clear e1_0 e1_1
      obtain ⟨e1_0, e1_1⟩ := HD.out _ HR.out.2
      go_wp2_with fail
      go_region_held3 (fun u => u.cell? ⟨g1, o1 + k * 2, none⟩ = some (.int .i64 xc) ∧ u.cell? ⟨g1, o1 + k * 2 + 1, none⟩ = some (.int .i64 xv)) (first
          | assumption
          | exact HD.out _ HR.out.2
          | exact HD.out _ HR.out.2.drew
          | exact HD.out _ H2.out.2) (first
        | (go_at_call 35
           refine (HS.out _ (by first | exact Below.refl _ _ | exact (Below.refl _ _).drew)).mono ?_
           rintro e' w2 ⟨rfl, h2, b2, _⟩
           have H2 := Lib.hid (And.intro h2 (HR.out.2.trans (Below.trans (by first | exact (Below.refl _ _) | exact (Below.refl _ _).drew : Below w.heap.size wr _) b2)))
           clear h2 b2))
      all_goals
        go_wp2_with fail
        exact ⟨⟨k + 1, by omega, by go_num, Lib.hid (HV.out ▸ H2.out)⟩, by simp [intOf]; omega⟩
    · obtain rfl : k = l.length := by omega
      have hn : ¬ (l.length : Int) < (l.length : Int) := by omega
      go_wp2_with fail
      go_ret
      refine ⟨s, rfl, ?_, HR.out.2⟩
      have := HR.out.1
      rwa [List.take_length] at this
end
end Go.Proofs.YtjengjmhjccnoaaGreatDoor
