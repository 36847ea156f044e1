/- Package follow: move, follow; Follow leaves what the document's Follow leaves. -/
import Derived.Test.YtjengjmhjccnoaaGreatDoorZFollowIs
set_option linter.unusedVariables false
set_option linter.unusedSimpArgs false
namespace Go.Proofs.YtjengjmhjccnoaaGreatDoor
open Go.RowKit Sec
open Go.Proofs.YtjengjmhjccnoaaGreatDoor.Bk

theorem set_keep {V : List Int} {i : Nat} {v : Int} (h : V.getD i 0 = v) (hi : i < V.length) : V.set i v = V := by
  apply List.ext_getElem?
  intro j
  rw [List.getElem?_set]
  by_cases e : i = j
  · subst e
    rw [if_pos rfl, if_pos hi, ← h, List.getD_eq_getElem?_getD, List.getElem?_eq_getElem hi]
    rfl
  · rw [if_neg e]
/-- The control that move writes leaves what the document's Follow leaves. -/
theorem mv_last {h l : Int} {W : List Int} {a : Int} {n f z : Nat} (m : Mov h l W a n f z) (hl : 4 ≤ W.length) : ctlW ((cpfill W n f z).set n (33554432 + (f : Int))) (hSp W) ((f : Int) + z) (hGc W) (hSc W) = folW h l W a := by
  have hn := m.n16
  have hf := m.f16
  have e : ∀ i, i < 16 → ((cpfill W n f z).set n (33554432 + (f : Int))).getD i 0 = W.getD i 0 := fun i hi => by
    rw [getD_set_ne (by omega), cpfill_at W n f i z m.ap m.fl, if_neg (by omega)]
  have len : ((cpfill W n f z).set n (33554432 + (f : Int))).length = W.length := by rw [List.length_set, cpfill_len]
  rw [ctlW, set_keep (V := (cpfill W n f z).set n (33554432 + (f : Int))) (i := 0) (v := hSp W) (e 0 (by decide)) (by omega)]
  rw [set_keep (i := 2) (v := hGc W) (by rw [getD_set_ne (by decide)]; exact e 2 (by decide)) (by rw [List.length_set]; omega)]
  rw [set_keep (i := 3) (v := hSc W) (by rw [getD_set_ne (by decide)]; exact e 3 (by decide)) (by rw [List.length_set]; omega), m.ew]
  exact List.set_comm _ _ (by omega)
theorem mv_fine {h l : Int} {W : List Int} {a : Int} {n f z : Nat} (m : Mov h l W a n f z) (hk : hOk h l W = true) : fineB h l (hSp W) ((f : Int) + z) (hGc W) (hSc W) = true := by
  obtain ⟨f1, f2, f3, f4, f5⟩ := fine_yes hk
  have h1 := m.fr
  have h2 := m.fe
  rw [fineB, f1, Bool.true_and, decide_eq_true (show 0 ≤ hSp W ∧ hSp W ≤ 1 ∧ 0 ≤ hGc W ∧ hGc W ≤ 1 by omega), Bool.true_and, decide_eq_true (show 16 + hSp W * h ≤ (f : Int) + z ∧ (f : Int) + z ≤ 16 + hSp W * h + h by omega), Bool.true_and]
  rcases f5 with f5 | f5
  · rw [decide_eq_true f5, Bool.true_or]
  · rw [decide_eq_true (show hGc W = 1 ∧ 16 + hSp W * h ≤ hSc W ∧ hSc W ≤ (f : Int) + z by omega), Bool.or_true]
/-- What move keeps: the place's box, the control's box, the store. -/
structure MvK (B : Nat) (G : Nat → Prop) (w w2 : World) (s H L : Nat) (n z : Int) (sp fr gc sc : Int) (V : List Int) (u : World) : Prop where
  x : NwS B (fun k => G k ∨ k = w.heap.size) w2 s H L sp fr gc sc V u
  p0 : u.cell? ⟨w.heap.size, 0, none⟩ = some (.int .i64 n)
  p1 : u.cell? ⟨w.heap.size, 1, none⟩ = some (.int .i64 z)
  lt : w.heap.size < u.heap.size
  b : Below B w u
  k : KeptG G w u
section
variable {B : Nat} {G : Nat → Prop} {w w2 u u' : World} {s H L : Nat} {W V V' : List Int} {n z sp fr gc sc : Int}
theorem MvK.below (x : MvK B G w w2 s H L n z sp fr gc sc V u) (y : Below u.heap.size u u') : MvK B G w w2 s H L n z sp fr gc sc V u' :=
  ⟨x.x.below y, (y.cell (p := ⟨_, 0, none⟩) x.lt).trans x.p0, (y.cell (p := ⟨_, 1, none⟩) x.lt).trans x.p1, Nat.lt_of_lt_of_le x.lt y.size, x.b.trans (y.mono x.x.s.le), x.k.trans (fun k g => y.block k (x.x.s.lt k (.inl (.inl g))))⟩
theorem MvK.step (x : MvK B G w w2 s H L n z sp fr gc sc V u) (h1 : St B (fun k => (G k ∨ k = w.heap.size) ∨ k = w2.heap.size) u' s H L V') (h2 : Below B u u') (h3 : KeptG (fun k => (G k ∨ k = w.heap.size) ∨ k = w2.heap.size) u u') : MvK B G w w2 s H L n z sp fr gc sc V' u' :=
  ⟨x.x.step h1 h2 h3, (h3.cell ⟨_, 0, none⟩ (.inl (.inr rfl))).trans x.p0, (h3.cell ⟨_, 1, none⟩ (.inl (.inr rfl))).trans x.p1, Nat.lt_of_lt_of_le x.lt h2.size, x.b.trans h2, x.k.trans (h3.mono fun k g => .inl (.inl g))⟩
theorem MvK.putFr (x : MvK B G w w2 s H L n z sp fr gc sc V u) (hB : B ≤ w2.heap.size) (hG : w.heap.size < w2.heap.size) (hg : ∀ k, G k → k < w.heap.size) (v : Int) : MvK B G w w2 s H L n z sp v gc sc V (u.setCell ⟨w2.heap.size, 1, none⟩ (.int .i64 v)) := by
  have hne : ¬ (G w2.heap.size ∨ w2.heap.size = w.heap.size) := fun q => by
    rcases q with q | q
    · have := hg _ q
      omega
    · omega
  have o : ∀ k, k ≠ w2.heap.size → (u.setCell ⟨w2.heap.size, 1, none⟩ (.int .i64 v)).heap[k]? = u.heap[k]? := fun k q => heap_setCell_other _ ⟨w2.heap.size, 1, none⟩ _ _ (fun e => q e)
  have b : Below B u (u.setCell ⟨w2.heap.size, 1, none⟩ (.int .i64 v)) := (Below.refl B u).setCell (p := ⟨w2.heap.size, 1, none⟩) hB _
  exact ⟨x.x.putFr hB hne v, (World.cell?_of_block (a := ⟨_, 0, none⟩) (o _ (show w.heap.size ≠ w2.heap.size by omega))).trans x.p0, (World.cell?_of_block (a := ⟨_, 1, none⟩) (o _ (show w.heap.size ≠ w2.heap.size by omega))).trans x.p1, Nat.lt_of_lt_of_le x.lt b.size, x.b.trans b, x.k.trans (fun k g => o k (fun e => by have := hg _ g; omega))⟩
theorem MvK.start {t t' : TypeId} (h : St B G w s H L W) (b2 : Below (w.alloc (.cells #[.int .i64 n, .int .i64 z] t)).heap.size (w.alloc (.cells #[.int .i64 n, .int .i64 z] t)) w2) : MvK B G w w2 s H L n z sp fr gc sc W (w2.alloc (.cells #[.int .i64 sp, .int .i64 fr, .int .i64 gc, .int .i64 sc] t')) ∧ w.heap.size < w2.heap.size := by
  have r := (Row2.made w (.int .i64 n) (.int .i64 z) t).below b2
  have y : Below w.heap.size w w2 := ((Below.refl _ _).alloc (Nat.le_refl _) _).trans (b2.mono (by simp))
  have y3 : Below w2.heap.size w2 (w2.alloc (.cells #[.int .i64 sp, .int .i64 fr, .int .i64 gc, .int .i64 sc] t')) := (Below.refl _ _).alloc (Nat.le_refl _) _
  have hs : St B (fun k => G k ∨ k = w.heap.size) w2 s H L W := (h.more y).mono (fun k q => by rcases q with q | rfl; exact .inl q; exact .inr ⟨Nat.le_refl _, r.lt⟩)
  have r3 := r.below y3
  exact ⟨⟨NwS.start hs sp fr gc sc t', r3.c0, r3.c1, r3.lt, (y.mono h.le).trans (y3.mono (Nat.le_trans h.le y.size)), (h.keptG y).trans (fun k g => y3.block k (Nat.lt_of_lt_of_le (h.lt k g) y.size))⟩, r.lt⟩
end
section
variable {B : Nat} {G : Nat → Prop} {w : World} {s H L : Nat} {W : List Int} {a : Int} {n f z : Nat}
set_option maxRecDepth 100000 in
set_option maxHeartbeats 8000000 in
theorem fmove_is (h : St B G w s H L W) (hk : hOk H L W = true) (m : Mov H L W a n f z) : Calls Tryz.prog 97 #[.pointer (some ⟨s, 0, none⟩), .agg #[.int .i64 (n : Int), .int .i64 (z : Int)]] w fun e w' => e = .returned (.int .i64 (f : Int)) ∧ St B G w' s H L (folW H L W a) ∧ Below B w w' ∧ KeptG G w w' := by
  have hWl := h.len
  have hge := h.ge
  have hnl := m.nl
  have hfl := m.fl
  have hn16 := m.n16
  have hf16 := m.f16
  have hz1 := m.z1
  have hnc : NumC W := h.num
  have HSp : Hid (∀ u, Below w.heap.size w u → Calls Tryz.prog 20 #[.pointer (some ⟨s, 0, none⟩)] u fun e w' => e = .returned (.agg #[.int .i64 (hSp W), .int .i64 (f : Int), .int .i64 (hGc W), .int .i64 (hSc W)]) ∧ Below u.heap.size u w') := Lib.hid (fun u y => by have := spget_st (h.below y); rwa [m.fr] at this)
  have HGet : Hid (∀ B G u V, St B G u s H L V → ∀ k, k < z → Calls Tryz.prog 33 #[.pointer (some ⟨s, 0, none⟩), .int .i64 ((n : Int) + (k : Int))] u fun e w' => e = .returned (.int .i64 (V.getD (n + k) 0)) ∧ Below u.heap.size u w') := Lib.hid (fun B G u V x k hk => by
    have := st_get x ((n : Int) + (k : Int))
    rwa [wkC, if_pos (by omega), show ((n : Int) + (k : Int)).toNat = n + k by omega] at this)
  have HSet : Hid (∀ B G u V, St B G u s H L V → NumC V → ∀ k, k < z → Calls Tryz.prog 35 #[.pointer (some ⟨s, 0, none⟩), .int .i64 ((f : Int) + (k : Int)), .int .i64 (V.getD (n + k) 0)] u fun e w' => (∃ b, e = .returned (.bool b)) ∧ St B G w' s H L (V.set (f + k) (V.getD (n + k) 0)) ∧ Below B u w' ∧ KeptG G u w') := Lib.hid (fun B G u V x nc k hk => by
    have := st_set x ((f : Int) + (k : Int)) (V.getD (n + k) 0)
    rw [setW_in (i := f + k) (by omega) (by omega) (nc _).1 (nc _).2] at this
    exact this.mono fun e w' ⟨h1, h2⟩ => ⟨⟨_, h1⟩, h2⟩)
  have HSn : Hid (∀ B G u V, St B G u s H L V → Calls Tryz.prog 35 #[.pointer (some ⟨s, 0, none⟩), .int .i64 (n : Int), .int .i64 (33554432 + (f : Int))] u fun e w' => (∃ b, e = .returned (.bool b)) ∧ St B G w' s H L (V.set n (33554432 + (f : Int))) ∧ Below B u w' ∧ KeptG G u w') := Lib.hid (fun B G u V x => by
    have := st_set x (n : Int) (33554432 + (f : Int))
    rw [setW_in (i := n) rfl (by omega) (by omega) (by omega)] at this
    exact this.mono fun e w' ⟨h1, h2⟩ => ⟨⟨_, h1⟩, h2⟩)
  have HFo := Lib.hid (oforward_is (f : Int))
  rw [fdI, show plOk (f : Int) = true from decide_eq_true (by omega), if_pos rfl] at HFo
  have HCt := Lib.hid (fun B G u (x : St B G u s H L ((cpfill W n f z).set n (33554432 + (f : Int)))) => spset_yes x (hSp W) ((f : Int) + z) (hGc W) (hSc W) (mv_fine m hk))
  rw [mv_last m (by omega)] at HCt
  have HCp : Hid (∀ k, NumC (cpfill W n f k)) := Lib.hid (fun k => hnc.cpfill n f k)
  have HCn : Hid (∀ k, cpfill W n f (k + 1) = (cpfill W n f k).set (f + k) ((cpfill W n f k).getD (n + k) 0)) := Lib.hid (fun k => rfl)
  have HC0 : Hid (cpfill W n f 0 = W) := Lib.hid rfl
  have HH := Lib.hid h
  have HY0 := Lib.hid ((Below.refl w.heap.size w).alloc (Nat.le_refl _) (.cells #[.int .i64 (n : Int), .int .i64 (z : Int)] 158))
  have n1 : (n : Int) + (z : Int) ≤ 816 := by omega
  have n2 : (f : Int) + (z : Int) ≤ 816 := by omega
  clear hnc hWl hge hnl hfl hk h m
  generalize folW H L W a = WF at *
  generalize hSp W = x0 at *
  generalize hGc W = x2 at *
  generalize hSc W = x3 at *
  go_enter Tryz.func97, Tryz.ntmps97
  go_wp2_with (go_at_call 20; refine (HSp.out _ HY0.out).mono ?_; rintro e w2 ⟨rfl, b2⟩; have H2 := Lib.hid (MvK.start (sp := x0) (fr := (f : Int)) (gc := x2) (sc := x3) (t' := 51) HH.out b2); clear b2; have c4 := H2.out.1.x.r.c1; have p1 := H2.out.1.p1)
  clear c4 p1
  go_loopw [16] (fun i wr => ∃ k : Nat, k ≤ z ∧ i = .int .i64 (k : Int) ∧ Hid (MvK B G w w2 s H L n z x0 f x2 x3 (cpfill W n f k) wr)) (fun i _ => z - (intOf i).toNat)
  case atStart => exact ⟨0, Nat.zero_le _, rfl, Lib.hid (by rw [HC0.out]; exact H2.out.1)⟩
  case round =>
    obtain ⟨k, hk, rfl, HR⟩ := hrel
    by_cases hlt : k < z
    · have hi1 : (k : Int) < (z : Int) := by omega
      have y2 : (n : Int) + (k : Int) ≤ 816 := by omega
      have y3 : (f : Int) + (k : Int) ≤ 816 := by omega
      have p0 := HR.out.p0
      go_wp2_with (first
        | (go_at_call 33; refine (HGet.out _ _ _ _ HR.out.x.s k hlt).mono ?_; rintro e w3 ⟨rfl, b3⟩; have H3 := Lib.hid (HR.out.below b3); clear b3)
        | (go_at_call 35; refine (HSet.out _ _ _ _ H3.out.x.s (HCp.out k) k hlt).mono ?_; rintro e w4 ⟨⟨bb, rfl⟩, h4, b4, k4⟩; have H4 := Lib.hid (H3.out.step h4 b4 k4); clear h4 b4 k4 p0))
      refine ⟨⟨k + 1, by omega, by go_num, Lib.hid ?_⟩, by simp [intOf]; omega⟩
      rw [HCn.out]
      exact H4.out
    · obtain rfl : k = z := by omega
      have hnl : ¬ (k : Int) < (k : Int) := by omega
      have p0 := HR.out.p0
      have p1 := HR.out.p1
      clear HCn HCp HGet HSet HSp HY0
      go_wp2_with (first
        | (go_at_call 125; refine (HFo.out _).mono ?_; rintro e w' ⟨rfl, hw⟩; obtain rfl : wr = w' := hw.symm)
        | (go_at_call 35; refine (HSn.out _ _ _ _ HR.out.x.s).mono ?_; rintro e w4 ⟨⟨bb, rfl⟩, h4, b4, k4⟩; have H4 := Lib.hid (HR.out.step h4 b4 k4); clear h4 b4 k4 p0 p1; have p1 := H4.out.p1; obtain ⟨_, d0, d1, d2, d3, e0, e1, e2, e3⟩ := H4.out.x.r; have H5 := Lib.hid (H4.out.putFr (Nat.le_trans HH.out.le (Nat.le_of_lt H2.out.2)) H2.out.2 (fun q g => HH.out.lt q g) ((f : Int) + (k : Int))))
        | (go_at_call 27; refine (HCt.out _ _ _ H5.out.x.s).mono ?_; rintro e w6 ⟨rfl, h6, b6, k6⟩; have H6 := Lib.hid (H5.out.step h6 b6 k6); clear h6 b6 k6))
      go_ret
      exact ⟨rfl, H6.out.x.s.mono (fun q g => .inl (.inl g)), H6.out.b, H6.out.k⟩
end
end Go.Proofs.YtjengjmhjccnoaaGreatDoor
