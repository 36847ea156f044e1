/- The laws of stage 14: their helper alive; what FieldRoots keeps: a list and an array of the law's own beside a store. -/
import Derived.Test.YtjengjmhjccnoaaGreatDoorZFieldCalls
import Derived.Test.YtjengjmhjccnoaaGreatDoorZFieldMath
import Derived.Test.YtjengjmhjccnoaaGreatDoorZAllocB
import Derived.Test.YtjengjmhjccnoaaGreatDoorZRaw
set_option linter.unusedVariables false
set_option linter.unusedSimpArgs false
namespace Go.Proofs.YtjengjmhjccnoaaGreatDoor
open Go.RowKit Sec
open Go.Proofs.YtjengjmhjccnoaaGreatDoor.Bk

def fiCh : List Chg := [⟨16, 16777473⟩, ⟨19, 16777216⟩, ⟨1, 20⟩]
def fi1 : List Int := ptW (20 : Nat) (6 : Nat) (rawW 20 fiCh) 16 0 19
def fi2 : List Int := swW (20 : Nat) (6 : Nat) fi1 16 0 5
def fi3 : List Int := srW (20 : Nat) (6 : Nat) fi2 3 16
def fi4 : List Int := loadW (20 : Nat) (6 : Nat) fi3 16 0
theorem fi_at : ptE (20 : Nat) (6 : Nat) (rawW 20 fiCh) 16 0 19 = 0 ∧ swE (20 : Nat) (6 : Nat) fi1 16 0 5 = 0 ∧ srE (20 : Nat) (6 : Nat) fi2 3 16 = 0 ∧ (loadE (20 : Nat) (6 : Nat) fi3 16 0 = 0 ∧ loadV (20 : Nat) (6 : Nat) fi3 16 0 = 19) ∧ (rootE (20 : Nat) (6 : Nat) fi4 3 = 0 ∧ rootV (20 : Nat) (6 : Nat) fi4 3 = 16) := by decide +kernel
theorem fi_word : wrdE (20 : Nat) (6 : Nat) (rootW (20 : Nat) (6 : Nat) fi4 3) 16 0 = 0 ∧ wrdV (20 : Nat) (6 : Nat) (rootW (20 : Nat) (6 : Nat) fi4 3) 16 0 = 5 := by decide +kernel
set_option maxRecDepth 100000 in
set_option maxHeartbeats 2000000 in
theorem fialive_is {w : World} (ht : TyOk w.heap.size w) : Calls Tryz.prog 6 #[] w fun e w' => e = .returned (.bool true) ∧ Below w.heap.size w w' := by
  obtain ⟨p1, p2, p3, ⟨p4, q4⟩, p5, q5⟩ := fi_at
  obtain ⟨p6, q6⟩ := fi_word
  have y0 : Below w.heap.size w (w.alloc (.cells #[.int .i64 16, .int .i64 16777473, .int .i64 19, .int .i64 16777216, .int .i64 1, .int .i64 20] 43)) := (Below.refl _ _).alloc (Nat.le_refl _) _
  have HL : LiesAt (w.alloc (.cells #[.int .i64 16, .int .i64 16777473, .int .i64 19, .int .i64 16777216, .int .i64 1, .int .i64 20] 43)) (some ⟨w.heap.size, 0, none⟩) (flat Chg.cells fiCh) := fun j u hu => ⟨_, rfl, by simp, World.news_of_block (heap_alloc_last _ _) j u hu⟩
  have HY := Lib.hid y0
  have HB := Lib.hid (Raw_st ((ht.below y0).more y0.size) 20 6 (by omega) (some ⟨w.heap.size, 0, none⟩) fiCh 3 HL (by decide))
  rw [show fiCh.length = 3 from rfl] at HB
  have HF1 : Hid (∀ B G u s, St B G u s 20 6 (rawW 20 fiCh) → Calls Tryz.prog 9 #[.pointer (some ⟨s, 0, none⟩), .int .i64 16, .int .i64 0, .int .i64 19] u fun e w' => e = .returned (.int .i64 0) ∧ St B G w' s 20 6 fi1 ∧ Below B u w' ∧ KeptG G u w') := Lib.hid (fun B G u s x => by
    have := fPut_is x 16 0 19
    rwa [p1] at this)
  have HF2 : Hid (∀ B G u s, St B G u s 20 6 fi1 → Calls Tryz.prog 10 #[.pointer (some ⟨s, 0, none⟩), .int .i64 16, .int .i64 0, .int .i64 5] u fun e w' => e = .returned (.int .i64 0) ∧ St B G w' s 20 6 fi2 ∧ Below B u w' ∧ KeptG G u w') := Lib.hid (fun B G u s x => by
    have := fSetWord_is x 16 0 5
    rwa [p2] at this)
  have HF3 : Hid (∀ B G u s, St B G u s 20 6 fi2 → Calls Tryz.prog 13 #[.pointer (some ⟨s, 0, none⟩), .int .i64 3, .int .i64 16] u fun e w' => e = .returned (.int .i64 0) ∧ St B G w' s 20 6 fi3 ∧ Below B u w' ∧ KeptG G u w') := Lib.hid (fun B G u s x => by
    have := fSetRoot_is x 3 16
    rwa [p3] at this)
  have HF4 : Hid (∀ B G u s, St B G u s 20 6 fi3 → Calls Tryz.prog 11 #[.pointer (some ⟨s, 0, none⟩), .int .i64 16, .int .i64 0] u fun e w' => e = .returned (.tuple #[.int .i64 19, .int .i64 0]) ∧ St B G w' s 20 6 fi4 ∧ Below B u w' ∧ KeptG G u w') := Lib.hid (fun B G u s x => by
    have := fLoad_is x 16 0
    rwa [p4, q4] at this)
  have HF5 : Hid (∀ B G u s, St B G u s 20 6 fi4 → Calls Tryz.prog 14 #[.pointer (some ⟨s, 0, none⟩), .int .i64 3] u fun e w' => e = .returned (.tuple #[.int .i64 16, .int .i64 0]) ∧ St B G w' s 20 6 (rootW (20 : Nat) (6 : Nat) fi4 3) ∧ Below B u w' ∧ KeptG G u w') := Lib.hid (fun B G u s x => by
    have := fRoot_is x 3
    rwa [p5, q5] at this)
  have HF6 : Hid (∀ B G u s, St B G u s 20 6 (rootW (20 : Nat) (6 : Nat) fi4 3) → Calls Tryz.prog 12 #[.pointer (some ⟨s, 0, none⟩), .int .i64 16, .int .i64 0] u fun e w' => e = .returned (.tuple #[.int .i64 5, .int .i64 0]) ∧ Below u.heap.size u w') := Lib.hid (fun B G u s x => by
    have := fWord_is x 16 0
    rwa [p6, q6] at this)
  clear p1 p2 p3 p4 q4 p5 q5 p6 q6
  generalize rootW (20 : Nat) (6 : Nat) fi4 3 = V5 at *
  generalize fi4 = V4 at *
  generalize fi3 = V3 at *
  generalize fi2 = V2 at *
  generalize fi1 = V1 at *
  generalize rawW 20 fiCh = V0 at *
  clear ht y0 HL
  go_enter Tryz.func6, Tryz.ntmps6
  go_wp2_with (first
    | (go_at_call 15; refine HB.out.mono ?_; rintro e w1 ⟨s, rfl, h1, b1⟩; have H1 := Lib.hid (And.intro h1 (HY.out.trans (b1.mono HY.out.size))); clear h1 b1)
    | (go_at_call 9; refine (HF1.out _ _ _ _ H1.out.1).mono ?_; rintro e w2 ⟨rfl, h2, b2, _⟩; have H2 := Lib.hid (And.intro h2 (H1.out.2.trans (b2.mono HY.out.size))); clear h2 b2)
    | (go_at_call 10; refine (HF2.out _ _ _ _ H2.out.1).mono ?_; rintro e w3 ⟨rfl, h3, b3, _⟩; have H3 := Lib.hid (And.intro h3 (H2.out.2.trans (b3.mono HY.out.size))); clear h3 b3)
    | (go_at_call 13; refine (HF3.out _ _ _ _ H3.out.1).mono ?_; rintro e w4 ⟨rfl, h4, b4, _⟩; have H4 := Lib.hid (And.intro h4 (H3.out.2.trans (b4.mono HY.out.size))); clear h4 b4)
    | (go_at_call 11; refine (HF4.out _ _ _ _ H4.out.1).mono ?_; rintro e w5 ⟨rfl, h5, b5, _⟩; have H5 := Lib.hid (And.intro h5 (H4.out.2.trans (b5.mono HY.out.size))); clear h5 b5)
    | (go_at_call 14; refine (HF5.out _ _ _ _ H5.out.1).mono ?_; rintro e w6 ⟨rfl, h6, b6, _⟩; have H6 := Lib.hid (And.intro h6 (H5.out.2.trans (b6.mono HY.out.size))); clear h6 b6)
    | (go_at_call 12; refine (HF6.out _ _ _ _ H6.out.1).mono ?_; rintro e w7 ⟨rfl, b7⟩; have H7 := Lib.hid (geo_next H6.out.2 b7); clear b7))
  go_ret
  exact ⟨rfl, H7.out⟩

/-! FieldRoots keeps a list of objects, and an array of eight numbers, beside the store. -/
structure RwS (W : World) (B s H L : Nat) (V : List Int) (v : Value) (T : List Int) (u : World) : Prop where
  x : ∃ G, (Below W.heap.size W u ∧ St B G u s H L V ∧ W.heap.size ≤ B) ∧ (∀ g, v.ownBlock = some g → G g) ∧ ∀ k, G k → k < u.heap.size
  o : u.ownsRow B 3 1 v T.length (vals T)
section
variable {W u u' : World} {B s H L : Nat} {V V' : List Int} {v : Value} {T : List Int}
theorem RwS.start {w : World} (b : Below W.heap.size W w) (h : St w.heap.size (fun k => k < w.heap.size) u s H L V) (b3 : Below w.heap.size w u) : RwS W w.heap.size s H L V (.slice none 0 0) [] u :=
  ⟨⟨_, ⟨geo_next b b3, h, b.size⟩, fun g q => (by cases q), fun k q => Nat.lt_of_lt_of_le q b3.size⟩, World.ownsRow_nil _ _ _ _⟩
theorem RwS.below (x : RwS W B s H L V v T u) (y : Below u.heap.size u u') : RwS W B s H L V v T u' := by
  obtain ⟨⟨G, ⟨x1, x2, x3⟩, x4, x5⟩, o⟩ := x
  exact ⟨⟨G, ⟨geo_next x1 y, x2.below y, x3⟩, x4, fun k q => Nat.lt_of_lt_of_le (x5 k q) y.size⟩, own_below o y⟩
/-- Behind a call that turns the store. -/
theorem RwS.new (x : RwS W B s H L V v T u) {f : FuncId} {args : Array Value} {r : Ending} (y : ∀ G, St B G u s H L V → Calls Tryz.prog f args u fun e w' => e = r ∧ St B G w' s H L V' ∧ Below B u w' ∧ KeptG G u w') :
    Calls Tryz.prog f args u fun e w' => e = r ∧ RwS W B s H L V' v T w' := by
  obtain ⟨⟨G, ⟨x1, x2, x3⟩, x4, x5⟩, o⟩ := x
  exact (y G x2).mono fun e w' ⟨y0, y1, y2, y3⟩ => ⟨y0, ⟨G, ⟨x1.trans (y2.mono x3), y1, x3⟩, x4, fun k q => Nat.lt_of_lt_of_le (x5 k q) y2.size⟩, hb_same o fun g hg => y3 g (x4 g hg)⟩
theorem RwS.b (x : RwS W B s H L V v T u) : Below W.heap.size W u := by
  obtain ⟨⟨G, ⟨x1, _⟩, _⟩, _⟩ := x
  exact x1
theorem RwS.le (x : RwS W B s H L V v T u) : B ≤ u.heap.size := by
  obtain ⟨⟨G, ⟨_, x2, _⟩, _⟩, _⟩ := x
  exact x2.le
/-- One number more. -/
theorem RwS.push (x : RwS W B s H L V v T u) {u1 : World} (y : Below u.heap.size u u1) {g c n : Nat} {z : Int} (hn : n = T.length + 1)
    (ho : u'.ownsRow B 3 1 (.slice (some ⟨g, 0, none⟩) n c) n (vals T ++ [.int .i64 z])) (hg : u1.grownBy u' v.ownBlock) (hat : v.ownBlock = some g ∨ g = u1.heap.size) (hlt : g < u'.heap.size) : RwS W B s H L V (.slice (some ⟨g, 0, none⟩) n c) (T ++ [z]) u' := by
  obtain ⟨⟨G, ⟨x1, x2, x3⟩, x4, x5⟩, o⟩ := x
  subst hn
  have hB := x2.le
  have b1 : Below B u u' := (y.mono hB).grown hg (Nat.le_trans hB y.size) (fun k q => (o.lt k q).1)
  have same : ∀ k, k < u.heap.size → v.ownBlock ≠ some k → u'.heap[k]? = u.heap[k]? := fun k q r =>
    (hg.block k (Nat.lt_of_lt_of_le q y.size) (fun e => r e.symm)).trans (y.block k q)
  refine ⟨⟨_, ⟨x1.trans (b1.mono x3), x2.turn b1 (fun k q r => same k q (fun e => r (x4 k e))), x3⟩, fun g' e => ?_, fun k q => ?_⟩, ?_⟩
  · obtain rfl : g = g' := by simpa [Value.ownBlock] using e
    rcases hat with q | q
    · exact .inl (x4 g q)
    · exact .inr ⟨by rw [q]; exact y.size, hlt⟩
  · rcases q with q | q
    · exact Nat.lt_of_lt_of_le (x5 k q) b1.size
    · exact q.2
  · rw [List.length_append]
    simpa [vals] using ho
/-- An array of eight numbers besides. -/
structure RwA (W : World) (B s H L : Nat) (V : List Int) (v : Value) (T : List Int) (g : Nat) (R : List Int) (u : World) : Prop where
  x : ∃ G, (Below W.heap.size W u ∧ St B G u s H L V ∧ W.heap.size ≤ B) ∧ (∀ k, v.ownBlock = some k → G k) ∧ G g ∧ ∀ k, G k → k < u.heap.size
  o : u.ownsRow B 3 1 v T.length (vals T)
  a : u.ownsRow B 36 1 (.slice (some ⟨g, 0, none⟩) 8 8) 8 (vals R)
  ne : v.ownBlock ≠ some g
  rl : R.length = 8
variable {g : Nat} {R : List Int}
theorem RwA.start (x : RwS W B s H L V v T u) : RwA W B s H L V v T u.heap.size [0, 0, 0, 0, 0, 0, 0, 0] (u.alloc (.cells #[.int .i64 0, .int .i64 0, .int .i64 0, .int .i64 0, .int .i64 0, .int .i64 0, .int .i64 0, .int .i64 0] 36)) := by
  have y : Below u.heap.size u (u.alloc (.cells #[.int .i64 0, .int .i64 0, .int .i64 0, .int .i64 0, .int .i64 0, .int .i64 0, .int .i64 0, .int .i64 0] 36)) := (Below.refl _ _).alloc (Nat.le_refl _) _
  have hle := x.le
  obtain ⟨⟨G, ⟨x1, x2, x3⟩, x4, x5⟩, o⟩ := x
  have hs : (u.alloc (.cells #[.int .i64 0, .int .i64 0, .int .i64 0, .int .i64 0, .int .i64 0, .int .i64 0, .int .i64 0, .int .i64 0] 36)).heap.size = u.heap.size + 1 := by simp
  refine ⟨⟨_, ⟨geo_next x1 y, x2.more y, x3⟩, fun k q => .inl (x4 k q), .inr ⟨Nat.le_refl _, by omega⟩, fun k q => ?_⟩, own_below o y, World.ownsRow_lit u _ 8 hle (by decide) rfl, fun q => ?_, rfl⟩
  · rcases q with q | q
    · have := x5 k q
      omega
    · exact q.2
  · have := x5 _ (x4 _ q)
    omega
theorem RwA.below (x : RwA W B s H L V v T g R u) (y : Below u.heap.size u u') : RwA W B s H L V v T g R u' := by
  obtain ⟨⟨G, ⟨x1, x2, x3⟩, x4, x6, x5⟩, o, a, ne, rl⟩ := x
  exact ⟨⟨G, ⟨geo_next x1 y, x2.below y, x3⟩, x4, x6, fun k q => Nat.lt_of_lt_of_le (x5 k q) y.size⟩, own_below o y, own_below a y, ne, rl⟩
theorem RwA.new (x : RwA W B s H L V v T g R u) {f : FuncId} {args : Array Value} {r : Ending} (y : ∀ G, St B G u s H L V → Calls Tryz.prog f args u fun e w' => e = r ∧ St B G w' s H L V' ∧ Below B u w' ∧ KeptG G u w') :
    Calls Tryz.prog f args u fun e w' => e = r ∧ RwA W B s H L V' v T g R w' := by
  obtain ⟨⟨G, ⟨x1, x2, x3⟩, x4, x6, x5⟩, o, a, ne, rl⟩ := x
  exact (y G x2).mono fun e w' ⟨y0, y1, y2, y3⟩ => ⟨y0, ⟨G, ⟨x1.trans (y2.mono x3), y1, x3⟩, x4, x6, fun k q => Nat.lt_of_lt_of_le (x5 k q) y2.size⟩, hb_same o fun k hk => y3 k (x4 k hk), hb_same a fun k hk => by
    obtain rfl : g = k := by simpa [Value.ownBlock] using hk
    exact y3 g x6, ne, rl⟩
theorem RwA.b (x : RwA W B s H L V v T g R u) : Below W.heap.size W u := by
  obtain ⟨⟨G, ⟨x1, _⟩, _⟩, _⟩ := x
  exact x1
theorem RwA.arr (x : RwA W B s H L V v T g R u) {k : Nat} (hk : k < 8) : u.cell? ⟨g, k, none⟩ = some (.int .i64 (R.getD k 0)) ∧ u.frozen? ⟨g, k, none⟩ = false :=
  owns_cell x.a (hb_vals (by rw [x.rl]; exact hk))
theorem RwA.elem {gt n c : Nat} (x : RwA W B s H L V (.slice (some ⟨gt, 0, none⟩) n c) T g R u) (hn : n = T.length) {j : Nat} (hj : j < T.length) : u.cell? ⟨gt, j, none⟩ = some (.int .i64 (T.getD j 0)) := by
  subst hn
  exact (owns_cell x.o (hb_vals hj)).1
theorem RwA.put (x : RwA W B s H L V v T g R u) (k : Nat) (z : Int) : RwA W B s H L V v T g (R.set k z) (u.setCell ⟨g, k, none⟩ (.int .i64 z)) := by
  obtain ⟨⟨G, ⟨x1, x2, x3⟩, x4, x6, x5⟩, o, a, ne, rl⟩ := x
  have hg : B ≤ g := (a.lt g rfl).1
  have same : ∀ j, j ≠ g → (u.setCell ⟨g, k, none⟩ (.int .i64 z)).heap[j]? = u.heap[j]? := fun j q => heap_setCell_other _ _ _ _ q
  refine ⟨⟨G, ⟨x1.setCell (p := ⟨g, k, none⟩) (Nat.le_trans x3 hg) _, x2.own ((Below.refl _ _).setCell (p := ⟨g, k, none⟩) hg _) (fun j q _ => same j (fun e => q (e ▸ x6))), x3⟩, x4, x6, fun j q => ?_⟩, hb_same o fun j hj => same j (fun e => ne (by rw [hj, e])), ?_, ne, by rw [List.length_set]; exact rl⟩
  · have := x5 j q
    simpa using this
  · rw [vals, List.map_set]
    exact owns_set a k _
end
end Go.Proofs.YtjengjmhjccnoaaGreatDoor
