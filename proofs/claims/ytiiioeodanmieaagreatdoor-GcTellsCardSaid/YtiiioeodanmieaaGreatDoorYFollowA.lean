import Derived.Test.YtiiioeodanmieaaGreatDoorYFollowIs
set_option linter.unusedVariables false
set_option linter.unusedSimpArgs false
-- FollowMv
namespace Go.Proofs.YtiiioeodanmieaaGreatDoor
open Go.RowKit Sec
open Go.Proofs.YtiiioeodanmieaaGreatDoor.Bk

theorem set_keep {V : List Int} {i : Nat} {v : Int} (h : V.getD i 0 = v) (hi : i < V.length) : V.set i v = V := by
  apply List.ext_getElem?
  intro j
  rw [List.getElem?_set]
  by_cases e : i = j
  · subst e
    rw [if_pos rfl, if_pos hi, ← h, List.getD_eq_getElem?_getD, List.getElem?_eq_getElem hi]
    rfl
  · rw [if_neg e]
theorem mv_last {h l : Int} {W : List Int} {a : Int} {n f z : Nat} (m : Mov h l W a n f z) (hl : 4 ≤ W.length) : ctlW ((cpfill W n f z).set n (33554432 + (f : Int))) (hSp W) ((f : Int) + z) (hGc W) (hSc W) = folW h l W a := by
  have hn := m.n16
  have hf := m.f16
  have e : ∀ i, i < 16 → ((cpfill W n f z).set n (33554432 + (f : Int))).getD i 0 = W.getD i 0 := fun i hi => by
    rw [getD_set_ne (by omega), cpfill_at W n f i z m.ap m.fl, if_neg (by omega)]
  have len : ((cpfill W n f z).set n (33554432 + (f : Int))).length = W.length := by rw [List.length_set, cpfill_len]
  rw [ctlW, set_keep (V := (cpfill W n f z).set n (33554432 + (f : Int))) (i := 0) (v := hSp W) (e 0 (by decide)) (by omega)]
  rw [set_keep (i := 2) (v := hGc W) (by rw [getD_set_ne (by decide)]; exact e 2 (by decide)) (by rw [List.length_set]; omega)]
  rw [set_keep (i := 3) (v := hSc W) (by rw [getD_set_ne (by decide)]; exact e 3 (by decide)) (by rw [List.length_set]; omega), m.ew]
  exact List.set_comm _ _ (by omega)
theorem mv_fine {h l : Int} {W : List Int} {a : Int} {n f z : Nat} (m : Mov h l W a n f z) (hk : hOk h l W = true) : fineB h l (hSp W) ((f : Int) + z) (hGc W) (hSc W) = true := by
  obtain ⟨f1, f2, f3, f4, f5⟩ := fine_yes hk
  have h1 := m.fr
  have h2 := m.fe
  rw [fineB, f1, Bool.true_and, decide_eq_true (show 0 ≤ hSp W ∧ hSp W ≤ 1 ∧ 0 ≤ hGc W ∧ hGc W ≤ 1 by omega), Bool.true_and, decide_eq_true (show 16 + hSp W * h ≤ (f : Int) + z ∧ (f : Int) + z ≤ 16 + hSp W * h + h by omega), Bool.true_and]
  rcases f5 with f5 | f5
  · rw [decide_eq_true f5, Bool.true_or]
  · rw [decide_eq_true (show hGc W = 1 ∧ 16 + hSp W * h ≤ hSc W ∧ hSc W ≤ (f : Int) + z by omega), Bool.or_true]
structure MvK (B : Nat) (G : Nat → Prop) (w w2 : World) (s H L : Nat) (n z : Int) (sp fr gc sc : Int) (V : List Int) (u : World) : Prop where
  x : NwS B (fun k => G k ∨ k = w.heap.size) w2 s H L sp fr gc sc V u
  p0 : u.cell? ⟨w.heap.size, 0, none⟩ = some (.int .i64 n)
  p1 : u.cell? ⟨w.heap.size, 1, none⟩ = some (.int .i64 z)
  lt : w.heap.size < u.heap.size
  b : Below B w u
  k : KeptG G w u
section
variable {B : Nat} {G : Nat → Prop} {w w2 u u' : World} {s H L : Nat} {W V V' : List Int} {n z sp fr gc sc : Int}
theorem MvK.below (x : MvK B G w w2 s H L n z sp fr gc sc V u) (y : Below u.heap.size u u') : MvK B G w w2 s H L n z sp fr gc sc V u' :=
  ⟨x.x.below y, (y.cell (p := ⟨_, 0, none⟩) x.lt).trans x.p0, (y.cell (p := ⟨_, 1, none⟩) x.lt).trans x.p1, Nat.lt_of_lt_of_le x.lt y.size, x.b.trans (y.mono x.x.s.le), x.k.trans (fun k g => y.block k (x.x.s.lt k (.inl (.inl g))))⟩
theorem MvK.step (x : MvK B G w w2 s H L n z sp fr gc sc V u) (h1 : St B (fun k => (G k ∨ k = w.heap.size) ∨ k = w2.heap.size) u' s H L V') (h2 : Below B u u') (h3 : KeptG (fun k => (G k ∨ k = w.heap.size) ∨ k = w2.heap.size) u u') : MvK B G w w2 s H L n z sp fr gc sc V' u' :=
  ⟨x.x.step h1 h2 h3, (h3.cell ⟨_, 0, none⟩ (.inl (.inr rfl))).trans x.p0, (h3.cell ⟨_, 1, none⟩ (.inl (.inr rfl))).trans x.p1, Nat.lt_of_lt_of_le x.lt h2.size, x.b.trans h2, x.k.trans (h3.mono fun k g => .inl (.inl g))⟩
theorem MvK.putFr (x : MvK B G w w2 s H L n z sp fr gc sc V u) (hB : B ≤ w2.heap.size) (hG : w.heap.size < w2.heap.size) (hg : ∀ k, G k → k < w.heap.size) (v : Int) : MvK B G w w2 s H L n z sp v gc sc V (u.setCell ⟨w2.heap.size, 1, none⟩ (.int .i64 v)) := by
  have hne : ¬ (G w2.heap.size ∨ w2.heap.size = w.heap.size) := fun q => by
    rcases q with q | q
    · have := hg _ q
      omega
    · omega
  have o : ∀ k, k ≠ w2.heap.size → (u.setCell ⟨w2.heap.size, 1, none⟩ (.int .i64 v)).heap[k]? = u.heap[k]? := fun k q => heap_setCell_other _ ⟨w2.heap.size, 1, none⟩ _ _ (fun e => q e)
  have b : Below B u (u.setCell ⟨w2.heap.size, 1, none⟩ (.int .i64 v)) := (Below.refl B u).setCell (p := ⟨w2.heap.size, 1, none⟩) hB _
  exact ⟨x.x.putFr hB hne v, (World.cell?_of_block (a := ⟨_, 0, none⟩) (o _ (show w.heap.size ≠ w2.heap.size by omega))).trans x.p0, (World.cell?_of_block (a := ⟨_, 1, none⟩) (o _ (show w.heap.size ≠ w2.heap.size by omega))).trans x.p1, Nat.lt_of_lt_of_le x.lt b.size, x.b.trans b, x.k.trans (fun k g => o k (fun e => by have := hg _ g; omega))⟩
theorem MvK.start {t t' : TypeId} (h : St B G w s H L W) (b2 : Below (w.alloc (.cells #[.int .i64 n, .int .i64 z] t)).heap.size (w.alloc (.cells #[.int .i64 n, .int .i64 z] t)) w2) : MvK B G w w2 s H L n z sp fr gc sc W (w2.alloc (.cells #[.int .i64 sp, .int .i64 fr, .int .i64 gc, .int .i64 sc] t')) ∧ w.heap.size < w2.heap.size := by
  have r := (Row2.made w (.int .i64 n) (.int .i64 z) t).below b2
  have y : Below w.heap.size w w2 := ((Below.refl _ _).alloc (Nat.le_refl _) _).trans (b2.mono (by simp))
  have y3 : Below w2.heap.size w2 (w2.alloc (.cells #[.int .i64 sp, .int .i64 fr, .int .i64 gc, .int .i64 sc] t')) := (Below.refl _ _).alloc (Nat.le_refl _) _
  have hs : St B (fun k => G k ∨ k = w.heap.size) w2 s H L W := (h.more y).mono (fun k q => by rcases q with q | rfl; exact .inl q; exact .inr ⟨Nat.le_refl _, r.lt⟩)
  have r3 := r.below y3
  exact ⟨⟨NwS.start hs sp fr gc sc t', r3.c0, r3.c1, r3.lt, (y.mono h.le).trans (y3.mono (Nat.le_trans h.le y.size)), (h.keptG y).trans (fun k g => y3.block k (Nat.lt_of_lt_of_le (h.lt k g) y.size))⟩, r.lt⟩
end
section
variable {B : Nat} {G : Nat → Prop} {w : World} {s H L : Nat} {W : List Int} {a : Int} {n f z : Nat}
set_option maxRecDepth 100000 in
set_option maxHeartbeats 8000000 in
theorem fmove_is (h : St B G w s H L W) (hk : hOk H L W = true) (m : Mov H L W a n f z) : Calls Tryz.prog 181 #[.pointer (some ⟨s, 0, none⟩), .agg #[.int .i64 (n : Int), .int .i64 (z : Int)]] w fun e w' => e = .returned (.int .i64 (f : Int)) ∧ St B G w' s H L (folW H L W a) ∧ Below B w w' ∧ KeptG G w w' := by
  have hWl := h.len
  have hge := h.ge
  have hnl := m.nl
  have hfl := m.fl
  have hn16 := m.n16
  have hf16 := m.f16
  have hz1 := m.z1
  have hnc : NumC W := h.num
  have HSp : Hid (∀ u, Below w.heap.size w u → Calls Tryz.prog 47 #[.pointer (some ⟨s, 0, none⟩)] u fun e w' => e = .returned (.agg #[.int .i64 (hSp W), .int .i64 (f : Int), .int .i64 (hGc W), .int .i64 (hSc W)]) ∧ Below u.heap.size u w') := Lib.hid (fun u y => by have := spget_st (h.below y); rwa [m.fr] at this)
  have HGet : Hid (∀ B G u V, St B G u s H L V → ∀ k, k < z → Calls Tryz.prog 74 #[.pointer (some ⟨s, 0, none⟩), .int .i64 ((n : Int) + (k : Int))] u fun e w' => e = .returned (.int .i64 (V.getD (n + k) 0)) ∧ Below u.heap.size u w') := Lib.hid (fun B G u V x k hk => by
    have := st_get x ((n : Int) + (k : Int))
    rwa [wkC, if_pos (by omega), show ((n : Int) + (k : Int)).toNat = n + k by omega] at this)
  have HSet : Hid (∀ B G u V, St B G u s H L V → NumC V → ∀ k, k < z → Calls Tryz.prog 50 #[.pointer (some ⟨s, 0, none⟩), .int .i64 ((f : Int) + (k : Int)), .int .i64 (V.getD (n + k) 0)] u fun e w' => (∃ b, e = .returned (.bool b)) ∧ St B G w' s H L (V.set (f + k) (V.getD (n + k) 0)) ∧ Below B u w' ∧ KeptG G u w') := Lib.hid (fun B G u V x nc k hk => by
    have := st_set x ((f : Int) + (k : Int)) (V.getD (n + k) 0)
    rw [setW_in (i := f + k) (by omega) (by omega) (nc _).1 (nc _).2] at this
    exact this.mono fun e w' ⟨h1, h2⟩ => ⟨⟨_, h1⟩, h2⟩)
  have HSn : Hid (∀ B G u V, St B G u s H L V → Calls Tryz.prog 50 #[.pointer (some ⟨s, 0, none⟩), .int .i64 (n : Int), .int .i64 (33554432 + (f : Int))] u fun e w' => (∃ b, e = .returned (.bool b)) ∧ St B G w' s H L (V.set n (33554432 + (f : Int))) ∧ Below B u w' ∧ KeptG G u w') := Lib.hid (fun B G u V x => by
    have := st_set x (n : Int) (33554432 + (f : Int))
    rw [setW_in (i := n) rfl (by omega) (by omega) (by omega)] at this
    exact this.mono fun e w' ⟨h1, h2⟩ => ⟨⟨_, h1⟩, h2⟩)
  have HFo := Lib.hid (oforward_is (f : Int))
  rw [fdI, show plOk (f : Int) = true from decide_eq_true (by omega), if_pos rfl] at HFo
  have HCt := Lib.hid (fun B G u (x : St B G u s H L ((cpfill W n f z).set n (33554432 + (f : Int)))) => spset_yes x (hSp W) ((f : Int) + z) (hGc W) (hSc W) (mv_fine m hk))
  rw [mv_last m (by omega)] at HCt
  have HCp : Hid (∀ k, NumC (cpfill W n f k)) := Lib.hid (fun k => hnc.cpfill n f k)
  have HCn : Hid (∀ k, cpfill W n f (k + 1) = (cpfill W n f k).set (f + k) ((cpfill W n f k).getD (n + k) 0)) := Lib.hid (fun k => rfl)
  have HC0 : Hid (cpfill W n f 0 = W) := Lib.hid rfl
  have HH := Lib.hid h
  have HY0 := Lib.hid ((Below.refl w.heap.size w).alloc (Nat.le_refl _) (.cells #[.int .i64 (n : Int), .int .i64 (z : Int)] 237))
  have n1 : (n : Int) + (z : Int) ≤ 816 := by omega
  have n2 : (f : Int) + (z : Int) ≤ 816 := by omega
  clear hnc hWl hge hnl hfl hk h m
  generalize folW H L W a = WF at *
  generalize hSp W = x0 at *
  generalize hGc W = x2 at *
  generalize hSc W = x3 at *
  go_enter Tryz.func181, Tryz.ntmps181
  go_wp2_with (go_at_call 47; refine (HSp.out _ HY0.out).mono ?_; rintro e w2 ⟨rfl, b2⟩; have H2 := Lib.hid (MvK.start (sp := x0) (fr := (f : Int)) (gc := x2) (sc := x3) (t' := 84) HH.out b2); clear b2; have c4 := H2.out.1.x.r.c1; have p1 := H2.out.1.p1)
  clear c4 p1
  go_loopw [16] (fun i wr => ∃ k : Nat, k ≤ z ∧ i = .int .i64 (k : Int) ∧ Hid (MvK B G w w2 s H L n z x0 f x2 x3 (cpfill W n f k) wr)) (fun i _ => z - (intOf i).toNat)
  case atStart => exact ⟨0, Nat.zero_le _, rfl, Lib.hid (by rw [HC0.out]; exact H2.out.1)⟩
  case round =>
    obtain ⟨k, hk, rfl, HR⟩ := hrel
    by_cases hlt : k < z
    · have hi1 : (k : Int) < (z : Int) := by omega
      have y2 : (n : Int) + (k : Int) ≤ 816 := by omega
      have y3 : (f : Int) + (k : Int) ≤ 816 := by omega
      have p0 := HR.out.p0
      go_wp2_with (first
        | (go_at_call 74; refine (HGet.out _ _ _ _ HR.out.x.s k hlt).mono ?_; rintro e w3 ⟨rfl, b3⟩; have H3 := Lib.hid (HR.out.below b3); clear b3)
        | (go_at_call 50; refine (HSet.out _ _ _ _ H3.out.x.s (HCp.out k) k hlt).mono ?_; rintro e w4 ⟨⟨bb, rfl⟩, h4, b4, k4⟩; have H4 := Lib.hid (H3.out.step h4 b4 k4); clear h4 b4 k4 p0))
      refine ⟨⟨k + 1, by omega, by go_num, Lib.hid ?_⟩, by simp [intOf]; omega⟩
      rw [HCn.out]
      exact H4.out
    · obtain rfl : k = z := by omega
      have hnl : ¬ (k : Int) < (k : Int) := by omega
      have p0 := HR.out.p0
      have p1 := HR.out.p1
      clear HCn HCp HGet HSet HSp HY0
      go_wp2_with (first
        | (go_at_call 206; refine (HFo.out _).mono ?_; rintro e w' ⟨rfl, hw⟩; obtain rfl : wr = w' := hw.symm)
        | (go_at_call 50; refine (HSn.out _ _ _ _ HR.out.x.s).mono ?_; rintro e w4 ⟨⟨bb, rfl⟩, h4, b4, k4⟩; have H4 := Lib.hid (HR.out.step h4 b4 k4); clear h4 b4 k4 p0 p1; have p1 := H4.out.p1; obtain ⟨_, d0, d1, d2, d3, e0, e1, e2, e3⟩ := H4.out.x.r; have H5 := Lib.hid (H4.out.putFr (Nat.le_trans HH.out.le (Nat.le_of_lt H2.out.2)) H2.out.2 (fun q g => HH.out.lt q g) ((f : Int) + (k : Int))))
        | (go_at_call 69; refine (HCt.out _ _ _ H5.out.x.s).mono ?_; rintro e w6 ⟨rfl, h6, b6, k6⟩; have H6 := Lib.hid (H5.out.step h6 b6 k6); clear h6 b6 k6))
      go_ret
      exact ⟨rfl, H6.out.x.s.mono (fun q g => .inl (.inl g)), H6.out.b, H6.out.k⟩
end
end Go.Proofs.YtiiioeodanmieaaGreatDoor
-- FollowFo
namespace Go.Proofs.YtiiioeodanmieaaGreatDoor
open Go.RowKit Sec
open Go.Proofs.YtiiioeodanmieaaGreatDoor.Bk

structure FoK (B : Nat) (G : Nat → Prop) (w w1 : World) (s H L : Nat) (W : List Int) (a z : Int) (u : World) : Prop where
  g : GBox u w1.heap.size a z
  b : Below w.heap.size w u
  s : St B G u s H L W
theorem FoK.below {B : Nat} {G : Nat → Prop} {w w1 u u' : World} {s H L : Nat} {W : List Int} {a z : Int} (x : FoK B G w w1 s H L W a z u) (y : Below u.heap.size u u') : FoK B G w w1 s H L W a z u' := ⟨x.g.below y, geo_next x.b y, x.s.below y⟩
theorem FoK.cells {B : Nat} {G : Nat → Prop} {w w1 u : World} {s H L : Nat} {W : List Int} {a z : Int} (x : FoK B G w w1 s H L W a z u) : (u.cell? ⟨w1.heap.size, 0, none⟩ = some (.int .i64 a) ∧ u.cell? ⟨w1.heap.size, 1, none⟩ = some (.int .i64 z)) ∧ FoK B G w w1 s H L W a z u := ⟨⟨x.g.c0, x.g.c1⟩, x⟩
theorem FoK.start {B : Nat} {G : Nat → Prop} {w w1 : World} {s H L : Nat} {W : List Int} (h : St B G w s H L W) (b : Below w.heap.size w w1) (a z : Int) : FoK B G w w1 s H L W a z (w1.alloc (.cells #[.int .i64 a, .int .i64 z] 237)) := by
  have y : Below w1.heap.size w1 (w1.alloc (.cells #[.int .i64 a, .int .i64 z] 237)) := (Below.refl _ _).alloc (Nat.le_refl _) _
  exact ⟨GBox.made w1 a z _, geo_next b y, (h.below b).below y⟩
section
variable {B : Nat} {G : Nat → Prop} {w : World} {s H L : Nat} {W : List Int}
set_option maxRecDepth 100000 in
set_option maxHeartbeats 8000000 in
theorem ffollow_is (h : St B G w s H L W) (a : Int) : Calls Tryz.prog 158 #[.pointer (some ⟨s, 0, none⟩), .int .i64 a] w fun e w' => ∃ v, e = .returned (.tuple #[.int .i64 (folV H L W a), v]) ∧ ErrIs w' (folE H L W a) v ∧ St B G w' s H L (folW H L W a) ∧ Below B w w' ∧ KeptG G w w' := by
  have HF := Lib.hid (ffind_is h a)
  have HH := Lib.hid h
  by_cases c : fdX H L W a = 0
  · have c1 : hOk H L W = true := by
      cases q : hOk H L W
      · rw [fdX, if_pos q] at c
        exact absurd c (by decide)
      · rfl
    have c2 : (lk H L W a).2 = true := by
      cases q : (lk H L W a).2
      · rw [fdX, if_neg (by rw [c1]; decide), if_pos q] at c
        exact absurd c (by decide)
      · rfl
    rw [c] at HF
    by_cases d : folM H L W a = true
    · obtain ⟨n, hn, hn2, _⟩ := folM_at d
      have hge := h.ge
      obtain ⟨f1, f2, f3, f4, _⟩ := fine_yes c1
      have hp := shOk_yes (pr_range (W.getD a.toNat 0))
      have hz : folZ W a = 1 + prS (W.getD a.toNat 0) + prW (W.getD a.toNat 0) := rfl
      have l1 : (lk H L W a).1 = a := (folM_yes d).2.2.2.2
      have e2 : fdZ H L W a = folZ W a := if_pos d
      rw [l1, e2] at HF
      have HLe := Lib.hid (fun u (y : Below w.heap.size w u) => spleft_st (h.below y))
      simp only [c1, if_true] at HLe
      by_cases e : 16 + hSp W * (H : Int) + H - hFr W < folZ W a
      · have e3 : folE H L W a = 6 := by rw [folE, if_neg (by rw [c1]; decide), if_neg (by rw [c2]; decide), if_pos ⟨d, e⟩]
        have e4 : folV H L W a = 0 := by rw [folV, e3, if_neg (by decide)]
        have e5 : folW H L W a = W := by rw [folW, e3, if_neg (fun q => absurd q.1 (by decide))]
        rw [e3, e4, e5]
        have z0 : 1 ≤ folZ W a ∧ folZ W a ≤ 46 := by omega
        clear c c1 c2 d hn hn2 l1 e2 e3 e4 e5 hge hp hz f1 f2 f3 f4 h
        generalize folZ W a = z at *
        generalize 16 + hSp W * (H : Int) + H - hFr W = left at *
        go_enter Tryz.func158, Tryz.ntmps158
        go_wp2_with (go_at_call 180; refine HF.out.mono ?_; rintro e' w1 ⟨v1, rfl, he1, b1⟩; obtain rfl := he1.nil; have H1 := Lib.hid (FoK.start (H := H) (L := L) (s := s) (W := W) HH.out b1 (a) (z)); clear b1 he1; obtain ⟨⟨_, p0, p1⟩, _, _⟩ := H1.out)
        go_region_held3 (fun u => (u.cell? ⟨w1.heap.size, 0, none⟩ = some (.int .i64 a) ∧ u.cell? ⟨w1.heap.size, 1, none⟩ = some (.int .i64 (z))) ∧ FoK B G w w1 s H L W (a) (z) u) (first
            | assumption
            | exact H1.out.cells
            | exact (H1.out.below (Below.refl _ _).drew).cells
            | exact ((by assumption : _ ∧ FoK B G w w1 s H L W (a) (z) _).2.below b2).cells) (first
          | (go_at_call 44; refine (HLe.out _ (by first | exact H1.out.b | exact H1.out.b.drew)).mono ?_; rintro e' w2 ⟨rfl, b2⟩))
        rename_i hH
        replace H1 := Lib.hid hH.2
        clear hH p0 p1
        obtain ⟨⟨_, p0, p1⟩, _, _⟩ := H1.out
        go_wp2_with (first
          | (go_at_call 124; refine (new_err 6 a _).mono ?_; rintro e' w5 ⟨v5, rfl, b5, he5⟩; have H5 := Lib.hid (And.intro (H1.out.below b5) he5); clear b5 he5)
          | (go_at_call 123; refine (in_err 6 _ _ _ H5.out.2).mono ?_; rintro e' w6 ⟨v6, rfl, b6, he6⟩; have H6 := Lib.hid (And.intro (H5.out.1.below b6) he6); clear b6 he6))
        go_ret2
        exact ⟨_, rfl, H6.out.2, H6.out.1.s, H6.out.1.b.mono HH.out.le, HH.out.keptG H6.out.1.b⟩
      · have e3 : folE H L W a = 0 := by rw [folE, if_neg (by rw [c1]; decide), if_neg (by rw [c2]; decide), if_neg (fun q => e q.2)]
        have hWl : (W.length : Int) = 16 + 2 * (H : Int) := by have := h.len; omega
        obtain ⟨n', f', z', m⟩ := fol_mov hWl e3 d
        have HMv := Lib.hid (fun B G u (x : St B G u s H L W) => fmove_is x c1 m)
        have ea : a = (n' : Int) := m.ea
        have ez : folZ W a = (z' : Int) := m.sz.symm
        have ev : folV H L W a = (f' : Int) := m.ev
        have z0 : 1 ≤ (z' : Int) ∧ (z' : Int) ≤ 46 := by have := m.z1; have := m.z46; omega
        rw [e3, ev]
        rw [ez] at HF e
        rw [← ea] at HMv
        clear c c1 c2 d hn hn2 l1 e2 e3 hge hp hz f1 f2 f3 f4 h ev ez m hWl ea
        generalize folW H L W a = WF at *
        generalize (z' : Int) = z at *
        generalize 16 + hSp W * (H : Int) + H - hFr W = left at *
        go_enter Tryz.func158, Tryz.ntmps158
        go_wp2_with (go_at_call 180; refine HF.out.mono ?_; rintro e' w1 ⟨v1, rfl, he1, b1⟩; obtain rfl := he1.nil; have H1 := Lib.hid (FoK.start (H := H) (L := L) (s := s) (W := W) HH.out b1 (a) (z)); clear b1 he1; obtain ⟨⟨_, p0, p1⟩, _, _⟩ := H1.out)
        go_region_held3 (fun u => (u.cell? ⟨w1.heap.size, 0, none⟩ = some (.int .i64 a) ∧ u.cell? ⟨w1.heap.size, 1, none⟩ = some (.int .i64 (z))) ∧ FoK B G w w1 s H L W (a) (z) u) (first
            | assumption
            | exact H1.out.cells
            | exact (H1.out.below (Below.refl _ _).drew).cells
            | exact ((by assumption : _ ∧ FoK B G w w1 s H L W (a) (z) _).2.below b2).cells) (first
          | (go_at_call 44; refine (HLe.out _ (by first | exact H1.out.b | exact H1.out.b.drew)).mono ?_; rintro e' w2 ⟨rfl, b2⟩))
        rename_i hH
        replace H1 := Lib.hid hH.2
        clear hH p0 p1
        obtain ⟨⟨_, p0, p1⟩, _, _⟩ := H1.out
        go_wp2_with (go_at_call 181; refine (HMv.out _ _ _ H1.out.s).mono ?_; rintro e' w3 ⟨rfl, h3, b3, k3⟩; have H3 := Lib.hid (And.intro h3 (And.intro b3 k3)); clear h3 b3 k3)
        go_ret2
        exact ⟨_, rfl, errNil _, H3.out.1, (H1.out.b.mono HH.out.le).trans H3.out.2.1, (HH.out.keptG H1.out.b).trans H3.out.2.2⟩
    · have e3 : folE H L W a = 0 := by rw [folE, if_neg (by rw [c1]; decide), if_neg (by rw [c2]; decide), if_neg (fun q => d q.1)]
      have e4 : folV H L W a = (lk H L W a).1 := by rw [folV, if_pos e3, if_neg d]
      have e5 : folW H L W a = W := if_neg (fun q => d q.2)
      have e2 : fdZ H L W a = 0 := if_neg d
      rw [e3, e4, e5]
      rw [e2] at HF
      clear c c1 c2 d e2 e3 e4 e5 h
      generalize (lk H L W a).1 = pa at *
      go_enter Tryz.func158, Tryz.ntmps158
      go_wp2_with (go_at_call 180; refine HF.out.mono ?_; rintro e' w1 ⟨v1, rfl, he1, b1⟩; obtain rfl := he1.nil; have H1 := Lib.hid (FoK.start (H := H) (L := L) (s := s) (W := W) HH.out b1 (pa) (0)); clear b1 he1; obtain ⟨⟨_, p0, p1⟩, _, _⟩ := H1.out)
      go_ret2
      exact ⟨_, rfl, errNil _, H1.out.s, H1.out.b.mono HH.out.le, HH.out.keptG H1.out.b⟩
  · have e3 : folE H L W a = fdX H L W a := by
      cases q : hOk H L W
      · rw [folE, fdX, if_pos q, if_pos q]
      · cases r : (lk H L W a).2
        · have x1 : folE H L W a = 4 := by rw [folE, if_neg (by rw [q]; decide), if_pos r]
          have x2 : fdX H L W a = 4 := by rw [fdX, if_neg (by rw [q]; decide), if_pos r]
          rw [x1, x2]
        · rw [fdX, if_neg (by rw [q]; decide), if_neg (by rw [r]; decide)] at c
          exact absurd rfl c
    have e4 : folV H L W a = 0 := by rw [folV, e3, if_neg c]
    have e5 : folW H L W a = W := by rw [folW, e3, if_neg (fun q => c q.1)]
    rw [e3, e4, e5]
    clear e3 e4 e5 h
    generalize fdX H L W a = x at *
    generalize (lk H L W a).1 = pa at *
    generalize fdZ H L W a = pz at *
    go_enter Tryz.func158, Tryz.ntmps158
    go_wp2_with (first
      | (go_at_call 180; refine HF.out.mono ?_; rintro e' w1 ⟨v1, rfl, he1, b1⟩; obtain ⟨tv, vv, rfl⟩ := he1.iface c; have H1 := Lib.hid (And.intro (FoK.start (H := H) (L := L) (s := s) (W := W) HH.out b1 pa pz) (he1.below ((Below.refl _ _).alloc (Nat.le_refl _) (.cells #[.int .i64 pa, .int .i64 pz] 237)))); clear b1 he1)
      | (go_at_call 123; refine (in_err x _ _ _ H1.out.2).mono ?_; rintro e' w6 ⟨v6, rfl, b6, he6⟩; have H6 := Lib.hid (And.intro (H1.out.1.below b6) he6); clear b6 he6))
    go_ret2
    exact ⟨_, rfl, H6.out.2, H6.out.1.s, H6.out.1.b.mono HH.out.le, HH.out.keptG H6.out.1.b⟩
set_option maxRecDepth 100000 in
set_option maxHeartbeats 2000000 in
theorem fFollow_is (h : St B G w s H L W) (a : Int) : Calls Tryz.prog 132 #[.pointer (some ⟨s, 0, none⟩), .int .i64 a] w fun e w' => e = .returned (.tuple #[.int .i64 (folV H L W a), .int .i64 (folE H L W a)]) ∧ St B G w' s H L (folW H L W a) ∧ Below B w w' ∧ KeptG G w w' := by
  have HF := Lib.hid (ffollow_is h a)
  clear h
  generalize folW H L W a = WF at *
  generalize folE H L W a = x at *
  generalize folV H L W a = p at *
  go_enter Tryz.func132, Tryz.ntmps132
  go_wp2_with (first
    | (go_at_call 158; refine HF.out.mono ?_; rintro e' w1 ⟨v1, rfl, he1, h1, b1, k1⟩; have H1 := Lib.hid (And.intro h1 (And.intro b1 (And.intro k1 he1))); clear h1 b1 k1 he1)
    | (go_at_call 55; refine (errno_err x _ _ H1.out.2.2.2 H1.out.1.ty.1).mono ?_; rintro e' w2 ⟨rfl, b2⟩; have H2 := Lib.hid (And.intro (H1.out.1.below b2) (And.intro (H1.out.2.1.trans (b2.mono H1.out.1.le)) (H1.out.2.2.1.trans (H1.out.1.keptG b2)))); clear b2))
  go_ret2
  exact ⟨rfl, H2.out⟩
end
end Go.Proofs.YtiiioeodanmieaaGreatDoor
