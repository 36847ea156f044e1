/- Package follow: follow; Follow leaves what the document's Follow leaves. -/
import Derived.Test.YtjengjmhjccnoaaGreatDoorZFollowMv
set_option linter.unusedVariables false
set_option linter.unusedSimpArgs false
namespace Go.Proofs.YtjengjmhjccnoaaGreatDoor
open Go.RowKit Sec
open Go.Proofs.YtjengjmhjccnoaaGreatDoor.Bk

/-- What follow keeps: the place's box, the store as it was. -/
structure FoK (B : Nat) (G : Nat → Prop) (w w1 : World) (s H L : Nat) (W : List Int) (a z : Int) (u : World) : Prop where
  g : GBox u w1.heap.size a z
  b : Below w.heap.size w u
  s : St B G u s H L W
theorem FoK.below {B : Nat} {G : Nat → Prop} {w w1 u u' : World} {s H L : Nat} {W : List Int} {a z : Int} (x : FoK B G w w1 s H L W a z u) (y : Below u.heap.size u u') : FoK B G w w1 s H L W a z u' := ⟨x.g.below y, geo_next x.b y, x.s.below y⟩
theorem FoK.cells {B : Nat} {G : Nat → Prop} {w w1 u : World} {s H L : Nat} {W : List Int} {a z : Int} (x : FoK B G w w1 s H L W a z u) : (u.cell? ⟨w1.heap.size, 0, none⟩ = some (.int .i64 a) ∧ u.cell? ⟨w1.heap.size, 1, none⟩ = some (.int .i64 z)) ∧ FoK B G w w1 s H L W a z u := ⟨⟨x.g.c0, x.g.c1⟩, x⟩
theorem FoK.start {B : Nat} {G : Nat → Prop} {w w1 : World} {s H L : Nat} {W : List Int} (h : St B G w s H L W) (b : Below w.heap.size w w1) (a z : Int) : FoK B G w w1 s H L W a z (w1.alloc (.cells #[.int .i64 a, .int .i64 z] 158)) := by
  have y : Below w1.heap.size w1 (w1.alloc (.cells #[.int .i64 a, .int .i64 z] 158)) := (Below.refl _ _).alloc (Nat.le_refl _) _
  exact ⟨GBox.made w1 a z _, geo_next b y, (h.below b).below y⟩
section
variable {B : Nat} {G : Nat → Prop} {w : World} {s H L : Nat} {W : List Int}
set_option maxRecDepth 100000 in
set_option maxHeartbeats 8000000 in
theorem ffollow_is (h : St B G w s H L W) (a : Int) : Calls Tryz.prog 72 #[.pointer (some ⟨s, 0, none⟩), .int .i64 a] w fun e w' => ∃ v, e = .returned (.tuple #[.int .i64 (folV H L W a), v]) ∧ ErrIs w' (folE H L W a) v ∧ St B G w' s H L (folW H L W a) ∧ Below B w w' ∧ KeptG G w w' := by
  have HF := Lib.hid (ffind_is h a)
  have HH := Lib.hid h
  by_cases c : fdX H L W a = 0
  · have c1 : hOk H L W = true := by
      cases q : hOk H L W
      · rw [fdX, if_pos q] at c
        exact absurd c (by decide)
      · rfl
    have c2 : (lk H L W a).2 = true := by
      cases q : (lk H L W a).2
      · rw [fdX, if_neg (by rw [c1]; decide), if_pos q] at c
        exact absurd c (by decide)
      · rfl
    rw [c] at HF
    by_cases d : folM H L W a = true
    · obtain ⟨n, hn, hn2, _⟩ := folM_at d
      have hge := h.ge
      obtain ⟨f1, f2, f3, f4, _⟩ := fine_yes c1
      have hp := shOk_yes (pr_range (W.getD a.toNat 0))
      have hz : folZ W a = 1 + prS (W.getD a.toNat 0) + prW (W.getD a.toNat 0) := rfl
      have l1 : (lk H L W a).1 = a := (folM_yes d).2.2.2.2
      have e2 : fdZ H L W a = folZ W a := if_pos d
      rw [l1, e2] at HF
      have HLe := Lib.hid (fun u (y : Below w.heap.size w u) => spleft_st (h.below y))
      simp only [c1, if_true] at HLe
      by_cases e : 16 + hSp W * (H : Int) + H - hFr W < folZ W a
      · have e3 : folE H L W a = 6 := by rw [folE, if_neg (by rw [c1]; decide), if_neg (by rw [c2]; decide), if_pos ⟨d, e⟩]
        have e4 : folV H L W a = 0 := by rw [folV, e3, if_neg (by decide)]
        have e5 : folW H L W a = W := by rw [folW, e3, if_neg (fun q => absurd q.1 (by decide))]
        rw [e3, e4, e5]
        have z0 : 1 ≤ folZ W a ∧ folZ W a ≤ 46 := by omega
        clear c c1 c2 d hn hn2 l1 e2 e3 e4 e5 hge hp hz f1 f2 f3 f4 h
        generalize folZ W a = z at *
        generalize 16 + hSp W * (H : Int) + H - hFr W = left at *
        go_enter Tryz.func72, Tryz.ntmps72
        go_wp2_with (go_at_call 96; refine HF.out.mono ?_; rintro e' w1 ⟨v1, rfl, he1, b1⟩; obtain rfl := he1.nil; have H1 := Lib.hid (FoK.start (H := H) (L := L) (s := s) (W := W) HH.out b1 (a) (z)); clear b1 he1; obtain ⟨⟨_, p0, p1⟩, _, _⟩ := H1.out)
        go_region_held3 (fun u => (u.cell? ⟨w1.heap.size, 0, none⟩ = some (.int .i64 a) ∧ u.cell? ⟨w1.heap.size, 1, none⟩ = some (.int .i64 (z))) ∧ FoK B G w w1 s H L W (a) (z) u) (first
            | assumption
            | exact H1.out.cells
            | exact (H1.out.below (Below.refl _ _).drew).cells
            | exact ((by assumption : _ ∧ FoK B G w w1 s H L W (a) (z) _).2.below b2).cells) (first
          | (go_at_call 25; refine (HLe.out _ (by first | exact H1.out.b | exact H1.out.b.drew)).mono ?_; rintro e' w2 ⟨rfl, b2⟩))
        rename_i hH
        replace H1 := Lib.hid hH.2
        clear hH p0 p1
        obtain ⟨⟨_, p0, p1⟩, _, _⟩ := H1.out
        go_wp2_with (first
          | (go_at_call 49; refine (new_err 6 a _).mono ?_; rintro e' w5 ⟨v5, rfl, b5, he5⟩; have H5 := Lib.hid (And.intro (H1.out.below b5) he5); clear b5 he5)
          | (go_at_call 48; refine (in_err 6 _ _ _ H5.out.2).mono ?_; rintro e' w6 ⟨v6, rfl, b6, he6⟩; have H6 := Lib.hid (And.intro (H5.out.1.below b6) he6); clear b6 he6))
        go_ret2
        exact ⟨_, rfl, H6.out.2, H6.out.1.s, H6.out.1.b.mono HH.out.le, HH.out.keptG H6.out.1.b⟩
      · have e3 : folE H L W a = 0 := by rw [folE, if_neg (by rw [c1]; decide), if_neg (by rw [c2]; decide), if_neg (fun q => e q.2)]
        have hWl : (W.length : Int) = 16 + 2 * (H : Int) := by have := h.len; omega
        obtain ⟨n', f', z', m⟩ := fol_mov hWl e3 d
        have HMv := Lib.hid (fun B G u (x : St B G u s H L W) => fmove_is x c1 m)
        have ea : a = (n' : Int) := m.ea
        have ez : folZ W a = (z' : Int) := m.sz.symm
        have ev : folV H L W a = (f' : Int) := m.ev
        have z0 : 1 ≤ (z' : Int) ∧ (z' : Int) ≤ 46 := by have := m.z1; have := m.z46; omega
        rw [e3, ev]
        rw [ez] at HF e
        rw [← ea] at HMv
        clear c c1 c2 d hn hn2 l1 e2 e3 hge hp hz f1 f2 f3 f4 h ev ez m hWl ea
        generalize folW H L W a = WF at *
        generalize (z' : Int) = z at *
        generalize 16 + hSp W * (H : Int) + H - hFr W = left at *
        go_enter Tryz.func72, Tryz.ntmps72
        go_wp2_with (go_at_call 96; refine HF.out.mono ?_; rintro e' w1 ⟨v1, rfl, he1, b1⟩; obtain rfl := he1.nil; have H1 := Lib.hid (FoK.start (H := H) (L := L) (s := s) (W := W) HH.out b1 (a) (z)); clear b1 he1; obtain ⟨⟨_, p0, p1⟩, _, _⟩ := H1.out)
        go_region_held3 (fun u => (u.cell? ⟨w1.heap.size, 0, none⟩ = some (.int .i64 a) ∧ u.cell? ⟨w1.heap.size, 1, none⟩ = some (.int .i64 (z))) ∧ FoK B G w w1 s H L W (a) (z) u) (first
            | assumption
            | exact H1.out.cells
            | exact (H1.out.below (Below.refl _ _).drew).cells
            | exact ((by assumption : _ ∧ FoK B G w w1 s H L W (a) (z) _).2.below b2).cells) (first
          | (go_at_call 25; refine (HLe.out _ (by first | exact H1.out.b | exact H1.out.b.drew)).mono ?_; rintro e' w2 ⟨rfl, b2⟩))
        rename_i hH
        replace H1 := Lib.hid hH.2
        clear hH p0 p1
        obtain ⟨⟨_, p0, p1⟩, _, _⟩ := H1.out
        go_wp2_with (go_at_call 97; refine (HMv.out _ _ _ H1.out.s).mono ?_; rintro e' w3 ⟨rfl, h3, b3, k3⟩; have H3 := Lib.hid (And.intro h3 (And.intro b3 k3)); clear h3 b3 k3)
        go_ret2
        exact ⟨_, rfl, errNil _, H3.out.1, (H1.out.b.mono HH.out.le).trans H3.out.2.1, (HH.out.keptG H1.out.b).trans H3.out.2.2⟩
    · have e3 : folE H L W a = 0 := by rw [folE, if_neg (by rw [c1]; decide), if_neg (by rw [c2]; decide), if_neg (fun q => d q.1)]
      have e4 : folV H L W a = (lk H L W a).1 := by rw [folV, if_pos e3, if_neg d]
      have e5 : folW H L W a = W := if_neg (fun q => d q.2)
      have e2 : fdZ H L W a = 0 := if_neg d
      rw [e3, e4, e5]
      rw [e2] at HF
      clear c c1 c2 d e2 e3 e4 e5 h
      generalize (lk H L W a).1 = pa at *
      go_enter Tryz.func72, Tryz.ntmps72
      go_wp2_with (go_at_call 96; refine HF.out.mono ?_; rintro e' w1 ⟨v1, rfl, he1, b1⟩; obtain rfl := he1.nil; have H1 := Lib.hid (FoK.start (H := H) (L := L) (s := s) (W := W) HH.out b1 (pa) (0)); clear b1 he1; obtain ⟨⟨_, p0, p1⟩, _, _⟩ := H1.out)
      go_ret2
      exact ⟨_, rfl, errNil _, H1.out.s, H1.out.b.mono HH.out.le, HH.out.keptG H1.out.b⟩
  · have e3 : folE H L W a = fdX H L W a := by
      cases q : hOk H L W
      · rw [folE, fdX, if_pos q, if_pos q]
      · cases r : (lk H L W a).2
        · have x1 : folE H L W a = 4 := by rw [folE, if_neg (by rw [q]; decide), if_pos r]
          have x2 : fdX H L W a = 4 := by rw [fdX, if_neg (by rw [q]; decide), if_pos r]
          rw [x1, x2]
        · rw [fdX, if_neg (by rw [q]; decide), if_neg (by rw [r]; decide)] at c
          exact absurd rfl c
    have e4 : folV H L W a = 0 := by rw [folV, e3, if_neg c]
    have e5 : folW H L W a = W := by rw [folW, e3, if_neg (fun q => c q.1)]
    rw [e3, e4, e5]
    clear e3 e4 e5 h
    generalize fdX H L W a = x at *
    generalize (lk H L W a).1 = pa at *
    generalize fdZ H L W a = pz at *
    go_enter Tryz.func72, Tryz.ntmps72
    go_wp2_with (first
      | (go_at_call 96; refine HF.out.mono ?_; rintro e' w1 ⟨v1, rfl, he1, b1⟩; obtain ⟨tv, vv, rfl⟩ := he1.iface c; have H1 := Lib.hid (And.intro (FoK.start (H := H) (L := L) (s := s) (W := W) HH.out b1 pa pz) (he1.below ((Below.refl _ _).alloc (Nat.le_refl _) (.cells #[.int .i64 pa, .int .i64 pz] 158)))); clear b1 he1)
      | (go_at_call 48; refine (in_err x _ _ _ H1.out.2).mono ?_; rintro e' w6 ⟨v6, rfl, b6, he6⟩; have H6 := Lib.hid (And.intro (H1.out.1.below b6) he6); clear b6 he6))
    go_ret2
    exact ⟨_, rfl, H6.out.2, H6.out.1.s, H6.out.1.b.mono HH.out.le, HH.out.keptG H6.out.1.b⟩
set_option maxRecDepth 100000 in
set_option maxHeartbeats 2000000 in
theorem fFollow_is (h : St B G w s H L W) (a : Int) : Calls Tryz.prog 50 #[.pointer (some ⟨s, 0, none⟩), .int .i64 a] w fun e w' => e = .returned (.tuple #[.int .i64 (folV H L W a), .int .i64 (folE H L W a)]) ∧ St B G w' s H L (folW H L W a) ∧ Below B w w' ∧ KeptG G w w' := by
  have HF := Lib.hid (ffollow_is h a)
  clear h
  generalize folW H L W a = WF at *
  generalize folE H L W a = x at *
  generalize folV H L W a = p at *
  go_enter Tryz.func50, Tryz.ntmps50
  go_wp2_with (first
    | (go_at_call 72; refine HF.out.mono ?_; rintro e' w1 ⟨v1, rfl, he1, h1, b1, k1⟩; have H1 := Lib.hid (And.intro h1 (And.intro b1 (And.intro k1 he1))); clear h1 b1 k1 he1)
    | (go_at_call 32; refine (errno_err x _ _ H1.out.2.2.2 H1.out.1.ty.1).mono ?_; rintro e' w2 ⟨rfl, b2⟩; have H2 := Lib.hid (And.intro (H1.out.1.below b2) (And.intro (H1.out.2.1.trans (b2.mono H1.out.1.le)) (H1.out.2.2.1.trans (H1.out.1.keptG b2)))); clear b2))
  go_ret2
  exact ⟨rfl, H2.out⟩
end
end Go.Proofs.YtjengjmhjccnoaaGreatDoor
