/- The laws of stage 13: their helper alive; a map beside a store (FollowShares). -/
import Derived.Maps.OwnSet
import Derived.Test.YtooligoacgemlaaGreatDoorZFollowFo
import Derived.Test.YtooligoacgemlaaGreatDoorZFollowShr
import Derived.Test.YtooligoacgemlaaGreatDoorZAllocB
import Derived.Test.YtooligoacgemlaaGreatDoorZRaw
set_option linter.unusedVariables false
set_option linter.unusedSimpArgs false
namespace Go.Proofs.YtooligoacgemlaaGreatDoor
open Go.RowKit Sec
open Go.Proofs.YtooligoacgemlaaGreatDoor.Bk

def foCh : List Chg := [⟨16, 16777217⟩, ⟨17, 9⟩, ⟨0, 1⟩, ⟨1, 36⟩, ⟨2, 1⟩, ⟨3, 36⟩]
theorem fo_one : folE (20 : Nat) (6 : Nat) (rawW 20 foCh) 16 = 0 ∧ folV (20 : Nat) (6 : Nat) (rawW 20 foCh) 16 = 36 ∧ (folW (20 : Nat) (6 : Nat) (rawW 20 foCh) 16).getD 37 0 = 9 := by decide +kernel
theorem fo_two : folE (20 : Nat) (6 : Nat) (folW (20 : Nat) (6 : Nat) (rawW 20 foCh) 16) 16 = 0 ∧ folV (20 : Nat) (6 : Nat) (folW (20 : Nat) (6 : Nat) (rawW 20 foCh) 16) 16 = 36 ∧ folW (20 : Nat) (6 : Nat) (folW (20 : Nat) (6 : Nat) (rawW 20 foCh) 16) 16 = folW (20 : Nat) (6 : Nat) (rawW 20 foCh) 16 := by
  obtain ⟨e, v, _⟩ := fo_one
  obtain ⟨_, e2, v2, w2⟩ := fol_twice (h := (20 : Nat)) (l := (6 : Nat)) (W := rawW 20 foCh) (a := 16) (by rw [rawW_len]; decide) e
  exact ⟨e2, v2.trans v, w2⟩
set_option maxRecDepth 100000 in
set_option maxHeartbeats 2000000 in
theorem foalive_is {w : World} (ht : TyOk w.heap.size w) : Calls Tryz.prog 7 #[] w fun e w' => e = .returned (.bool true) ∧ Below w.heap.size w w' := by
  obtain ⟨e1, v1, c1⟩ := fo_one
  obtain ⟨e2, v2, c2⟩ := fo_two
  have y0 : Below w.heap.size w (w.alloc (.cells #[.int .i64 16, .int .i64 16777217, .int .i64 17, .int .i64 9, .int .i64 0, .int .i64 1, .int .i64 1, .int .i64 36, .int .i64 2, .int .i64 1, .int .i64 3, .int .i64 36] 58)) := (Below.refl _ _).alloc (Nat.le_refl _) _
  have HL : LiesAt (w.alloc (.cells #[.int .i64 16, .int .i64 16777217, .int .i64 17, .int .i64 9, .int .i64 0, .int .i64 1, .int .i64 1, .int .i64 36, .int .i64 2, .int .i64 1, .int .i64 3, .int .i64 36] 58)) (some ⟨w.heap.size, 0, none⟩) (flat Chg.cells foCh) := fun j u hu => ⟨_, rfl, by simp, World.news_of_block (heap_alloc_last _ _) j u hu⟩
  have HY := Lib.hid y0
  have HB := Lib.hid (Raw_st ((ht.below y0).more y0.size) 20 6 (by omega) (some ⟨w.heap.size, 0, none⟩) foCh 6 HL (by decide))
  rw [show foCh.length = 6 from rfl] at HB
  have HF1 : Hid (∀ B G u s, St B G u s 20 6 (rawW 20 foCh) → Calls Tryz.prog 13 #[.pointer (some ⟨s, 0, none⟩), .int .i64 16] u fun e w' => e = .returned (.tuple #[.int .i64 36, .int .i64 0]) ∧ St B G w' s 20 6 (folW (20 : Nat) (6 : Nat) (rawW 20 foCh) 16) ∧ Below B u w' ∧ KeptG G u w') := Lib.hid (fun B G u s x => by
    have := fFollow_is x 16
    rwa [e1, v1] at this)
  generalize folW (20 : Nat) (6 : Nat) (rawW 20 foCh) 16 = V1 at *
  generalize rawW 20 foCh = V0 at *
  have HF2 : Hid (∀ B G u s, St B G u s 20 6 V1 → Calls Tryz.prog 13 #[.pointer (some ⟨s, 0, none⟩), .int .i64 16] u fun e w' => e = .returned (.tuple #[.int .i64 36, .int .i64 0]) ∧ St B G w' s 20 6 V1 ∧ Below B u w' ∧ KeptG G u w') := Lib.hid (fun B G u s x => by
    have := fFollow_is x 16
    rwa [e2, v2, c2] at this)
  have HG : Hid (∀ B G u s, St B G u s 20 6 V1 → Calls Tryz.prog 21 #[.pointer (some ⟨s, 0, none⟩), .int .i64 37] u fun e w' => e = .returned (.int .i64 9) ∧ Below u.heap.size u w') := Lib.hid (fun B G u s x => by
    have := st_get x 37
    rwa [wkC, if_pos (by omega), show (37 : Int).toNat = 37 from rfl, c1] at this)
  clear ht e1 v1 c1 e2 v2 c2 y0 HL
  go_enter Tryz.func7, Tryz.ntmps7
  go_wp2_with (first
    | (go_at_call 8; refine HB.out.mono ?_; rintro e w1 ⟨s, rfl, h1, b1⟩; have H1 := Lib.hid (And.intro h1 (HY.out.trans (b1.mono HY.out.size))); clear h1 b1)
    | (go_at_call 13; with_reducible refine (HF1.out _ _ _ _ H1.out.1).mono ?_; rintro e w2 ⟨rfl, h2, b2, _⟩; have H2 := Lib.hid (And.intro h2 (H1.out.2.trans (b2.mono HY.out.size))); clear h2 b2; replace H1 := True.intro)
    | (go_at_call 13; with_reducible refine (HF2.out _ _ _ _ H2.out.1).mono ?_; rintro e w3 ⟨rfl, h3, b3, _⟩; have H3 := Lib.hid (And.intro h3 (H2.out.2.trans (b3.mono HY.out.size))); clear h3 b3)
    | (go_at_call 21; with_reducible refine (HG.out _ _ _ _ H3.out.1).mono ?_; rintro e w4 ⟨rfl, b4⟩; have H4 := Lib.hid (geo_next H3.out.2 b4); clear b4))
  go_ret
  exact ⟨rfl, H4.out⟩

/-! A map of the law's own, from numbers to numbers. -/
theorem key_int : Maps.Keyed Tryz.prog 3 := Maps.int_keyed Tryz.underlying3
theorem zero_int (w : World) : (zeroValue 3).run Tryz.prog w = .ok (.int .i64 0) w := by kernel_rfl
theorem wf_i64 {a : Int} (h0 : -9223372036854775808 ≤ a) (h1 : a ≤ 9223372036854775807) : (Lit.int .i64 a).wf = true := by
  simp only [Lit.wf, IntKind.min, IntKind.max, IntKind.signed, IntKind.bits, Bool.and_eq_true, decide_eq_true_eq, if_true]
  omega
/-- What the map tells of the objects T: where each was moved to, or nothing. -/
def MpIs (D : DataW Unit) (T : List Int) (mv : Int → Int) : Prop := ∀ o ∈ T, Maps.has D (.int .i64 o) = decide (mv o ≠ 0) ∧ D.atKey (.int .i64 o) (.lit (.int .i64 0)) = .lit (.int .i64 (mv o))
theorem MpIs.start (T : List Int) : MpIs (.map []) T (fun _ => 0) := fun _ _ => ⟨rfl, rfl⟩
theorem MpIs.put {D : DataW Unit} {T : List Int} {mv : Int → Int} (h : MpIs D T mv) (hD : Maps.IsMap D) (a : Int) {b : Int} (hb : b ≠ 0) : MpIs (D.put (.int .i64 a) (.lit (.int .i64 b))) T (fun y => if y = a then b else mv y) := fun o ho => by
  by_cases e : o = a
  · subst e
    simp only [if_pos]
    exact ⟨(Maps.has_put_same (k := .int .i64 o) hD True.intro _).trans (decide_eq_true hb).symm, Maps.atKey_put_same (k := .int .i64 o) hD True.intro _ _⟩
  · simp only [if_neg e]
    have hne : (Lit.int .i64 o) ≠ (Lit.int .i64 a) := fun q => e (by simpa using q)
    rw [Maps.has_put_other hne, Maps.atKey_put_other hne]
    exact h o ho
theorem map_same {w w' : World} {mb n : Nat} {D : DataW Unit} {R : Value → Option (DataW Unit × List MemPlace)} (h : w.ownsMap Tryz.prog 3 R mb n D) (e : w'.heap[mb]? = w.heap[mb]?) : w'.ownsMap Tryz.prog 3 R mb n D := by
  obtain ⟨es, clock, hb, r⟩ := h
  exact ⟨es, clock, e.trans hb, r⟩
/-- A list and a map of the law's own, beside the store. -/
structure LwM (W : World) (h l : Int) (B : Nat) (s H L : Nat) (V : List Int) (v : Value) (T : List Int) (mb n : Nat) (D : DataW Unit) (u : World) : Prop where
  x : ∃ G, LwS W h l B G s H L V u ∧ (∀ g, v.ownBlock = some g → G g) ∧ G mb ∧ ∀ k, G k → k < u.heap.size
  o : u.ownsRow B 3 1 v T.length (vals T)
  m : u.ownsMap Tryz.prog 3 (plainElem Tryz.prog 3) mb n D
  bm : B ≤ mb
  ne : v.ownBlock ≠ some mb
section
variable {W u u' : World} {h l : Int} {B s H L mb n : Nat} {V V' : List Int} {v : Value} {T : List Int} {D : DataW Unit}
theorem LwM.below (x : LwM W h l B s H L V v T mb n D u) (y : Below u.heap.size u u') : LwM W h l B s H L V v T mb n D u' := by
  obtain ⟨⟨G, x1, x2, x3, x4⟩, o, m, bm, ne⟩ := x
  exact ⟨⟨G, x1.below y, x2, x3, fun k q => Nat.lt_of_lt_of_le (x4 k q) y.size⟩, own_below o y, map_same m (y.block mb (x4 mb x3)), bm, ne⟩
/-- Behind a call that turns the store. -/
theorem LwM.new (x : LwM W h l B s H L V v T mb n D u) {f : FuncId} {args : Array Value} {r : Ending} (y : ∀ G, St B G u s H L V → Calls Tryz.prog f args u fun e w' => e = r ∧ St B G w' s H L V' ∧ Below B u w' ∧ KeptG G u w') :
    Calls Tryz.prog f args u fun e w' => e = r ∧ LwM W h l B s H L V' v T mb n D w' := by
  obtain ⟨⟨G, x1, x2, x3, x4⟩, o, m, bm, ne⟩ := x
  exact (y G x1.s).mono fun e w' ⟨y0, y1, y2, y3⟩ => ⟨y0, ⟨G, x1.set y1 y2 y3, x2, x3, fun k q => Nat.lt_of_lt_of_le (x4 k q) y2.size⟩, hb_same o fun g hg => y3 g (x2 g hg), map_same m (y3 mb x3), bm, ne⟩
theorem LwM.st (x : LwM W h l B s H L V v T mb n D u) : ∃ G, St B G u s H L V := by
  obtain ⟨⟨G, x1, _⟩, _⟩ := x
  exact ⟨G, x1.s⟩
theorem LwM.b (x : LwM W h l B s H L V v T mb n D u) : Below W.heap.size W u := by
  obtain ⟨⟨G, x1, _⟩, _⟩ := x
  exact x1.b
/-- The map is made. -/
theorem LwM.start (x : LwA W h l B s H L V v T u) : LwM W h l B s H L V v T u.heap.size 0 (.map []) (u.alloc (.map #[] 0)) := by
  obtain ⟨⟨G, x1, x2, x3⟩, o⟩ := x
  have y : Below u.heap.size u (u.alloc (.map #[] 0)) := (Below.refl _ _).alloc (Nat.le_refl _) _
  have hs : (u.alloc (.map #[] 0)).heap.size = u.heap.size + 1 := by simp
  refine ⟨⟨_, x1.more y, fun g q => .inl (x2 g q), .inr ⟨Nat.le_refl _, by omega⟩, fun k q => ?_⟩, own_below o y, World.ownsMap_made _ _ _ _, x1.s.le, fun q => ?_⟩
  · rcases q with q | q
    · have := x3 k q
      omega
    · exact q.2
  · have := x3 _ (x2 _ q)
    omega
theorem LwM.look (x : LwM W h l B s H L V v T mb n D u) {mv : Int → Int} (i : MpIs D T mv) {a : Int} (ha : a ∈ T) (h0 : -9223372036854775808 ≤ a) (h1 : a ≤ 9223372036854775807) :
    (Instr.lookup 52 (.map (some mb)) (.int .i64 a) true).run Tryz.prog u = .ok (.tuple #[.int .i64 (mv a), .bool (decide (mv a ≠ 0))]) u := by
  obtain ⟨i1, i2⟩ := i a ha
  obtain ⟨z, ps, hrun, hz⟩ := x.m.look_ok key_int Tryz.underlying52 (zero_int u) (plainElem_int Tryz.underlying3 (by decide)) (Maps.keyOf_int_mk Tryz.underlying3 (wf_i64 h0 h1))
  obtain ⟨c, rfl, hc, _⟩ := plainElem_int_inv Tryz.underlying3 hz
  have hc := congrArg Prod.fst hc
  rw [i1] at hrun
  have : mv a = c := by
    have := i2.symm.trans hc
    simpa using this
  rw [this]
  rw [this] at hrun
  exact hrun
theorem LwM.put (x : LwM W h l B s H L V v T mb n D u) (hn : n < maxLen) {a b : Int} (h0 : -9223372036854775808 ≤ a) (h1 : a ≤ 9223372036854775807) (k0 : -9223372036854775808 ≤ b) (k1 : b ≤ 9223372036854775807) :
    ∃ u', (Instr.mapUpdate 52 (.map (some mb)) (.int .i64 a) (.int .i64 b)).run Tryz.prog u = .ok () u' ∧ LwM W h l B s H L V v T mb (n + 1) (D.put (.int .i64 a) (.lit (.int .i64 b))) u' := by
  obtain ⟨⟨G, x1, x2, x3, x4⟩, o, m, bm, ne⟩ := x
  obtain ⟨u', hrun, m', hg⟩ := m.update key_int Tryz.underlying52 hn (Maps.keyOf_int_mk Tryz.underlying3 (wf_i64 h0 h1)) (plainElem_int Tryz.underlying3 (wf_i64 k0 k1))
  have b1 : Below B u u' := (Below.refl B u).grown hg x1.s.le (fun k q => by cases q; exact bm)
  have same : ∀ k, k < u.heap.size → k ≠ mb → u'.heap[k]? = u.heap[k]? := fun k q r => hg.block k q (fun e => r (by simpa using e))
  have hW : W.heap.size < u.heap.size := x1.g.lt
  have hB := x1.lt
  refine ⟨u', hrun, ⟨_, x1.turn b1 (fun k q r => same k q (fun e => r (e ▸ x3))) (same _ hW (by omega)), fun g q => .inl (x2 g q), .inl x3, fun k q => ?_⟩, hb_same o fun g q => same g (x4 g (x2 g q)) (fun e => ne (by rw [q, e])), m', bm, ne⟩
  rcases q with q | q
  · exact Nat.lt_of_lt_of_le (x4 k q) b1.size
  · exact q.2
theorem LwM.isMap (x : LwM W h l B s H L V v T mb n D u) : Maps.IsMap D := x.m.isMap
end
end Go.Proofs.YtooligoacgemlaaGreatDoor
