import Derived.Test.YtbghglkplbnnkaaGreatDoorYFollowA
import Derived.Test.YtbghglkplbnnkaaGreatDoorYAllocA
import Derived.Test.YtbghglkplbnnkaaGreatDoorYHeapStart
import Derived.Test.YtbghglkplbnnkaaGreatDoorYAllocB
import Derived.Test.YtbghglkplbnnkaaGreatDoorYGcF
set_option linter.unusedVariables false
set_option linter.unusedSimpArgs false
-- GcIs
namespace Go.Proofs.YtbghglkplbnnkaaGreatDoor
open Go.RowKit Sec
open Go.Proofs.YtbghglkplbnnkaaGreatDoor.Bk

def scn (h l : Int) (W : List Int) : Int × List Int :=
  if hdOk (W.getD (hSc W).toNat 0) = false ∨ hFr W < hSc W + 1 + prS (W.getD (hSc W).toNat 0) + prW (W.getD (hSc W).toNat 0) then (4, W)
  else if (slotsGo h l W (hSc W).toNat (prS (W.getD (hSc W).toNat 0)).toNat).1 = 0 then
    (0, (slotsGo h l W (hSc W).toNat (prS (W.getD (hSc W).toNat 0)).toNat).2.set 3 (hSc W + 1 + prS (W.getD (hSc W).toNat 0) + prW (W.getD (hSc W).toNat 0)))
  else slotsGo h l W (hSc W).toNat (prS (W.getD (hSc W).toNat 0)).toNat
theorem stepGo_scn {h l : Int} {W : List Int} {n : Int} {k : Nat} (n1 : hSc W ≠ hFr W) (n2 : n ≠ 0) : stepGo h l (k + 1) W n = if (scn h l W).1 = 0 then stepGo h l k (scn h l W).2 (n - 1) else (false, (scn h l W).1, (scn h l W).2) := by
  rw [stepGo, if_neg n1, if_neg n2, scn]
  by_cases c : hdOk (W.getD (hSc W).toNat 0) = false ∨ hFr W < hSc W + 1 + prS (W.getD (hSc W).toNat 0) + prW (W.getD (hSc W).toNat 0)
  · rw [if_pos c, if_pos c, if_neg (show ¬ (4 : Int) = 0 by decide)]
  · rw [if_neg c, if_neg c]
    by_cases e : (slotsGo h l W (hSc W).toNat (prS (W.getD (hSc W).toNat 0)).toNat).1 = 0
    · rw [if_pos e, if_pos e, if_pos rfl]
    · rw [if_neg e, if_neg e, if_neg e]
theorem scn_keeps {h l : Int} {W V : List Int} (k : Keeps h l W V) (hWl : (W.length : Int) = 16 + 2 * h) (hgc : hGc W = 1) (h16 : 16 ≤ hSc V) (e : (scn h l V).1 = 0) : Keeps h l W (scn h l V).2 ∧ hSc V + 1 ≤ hSc (scn h l V).2 := by
  rw [scn] at e ⊢
  by_cases c : hdOk (V.getD (hSc V).toNat 0) = false ∨ hFr V < hSc V + 1 + prS (V.getD (hSc V).toNat 0) + prW (V.getD (hSc V).toNat 0)
  · rw [if_pos c] at e
    exact absurd (show (4 : Int) = 0 from e) (by decide)
  · rw [if_neg c] at e ⊢
    by_cases e2 : (slotsGo h l V (hSc V).toNat (prS (V.getD (hSc V).toNat 0)).toNat).1 = 0
    · rw [if_pos e2]
      have hp := shOk_yes (pr_range (V.getD (hSc V).toNat 0))
      obtain ⟨k1, k2, k3⟩ := slotsGo_keeps k hWl (a := (hSc V).toNat) (by omega) (prS (V.getD (hSc V).toNat 0)).toNat
      have nb : ¬ hFr V < hSc V + 1 + prS (V.getD (hSc V).toNat 0) + prW (V.getD (hSc V).toNat 0) := fun q => c (.inr q)
      obtain ⟨k4, k5⟩ := k1.scan hWl (x := hSc V + 1 + prS (V.getD (hSc V).toNat 0) + prW (V.getD (hSc V).toNat 0)) (k1.gc.trans hgc) (by rw [k2]; omega) (by omega)
      exact ⟨k4, by show hSc V + 1 ≤ hSc _; rw [k5]; omega⟩
    · rw [if_neg e2] at e
      exact absurd e e2
theorem ctl_three {U : List Int} {x : Int} (h : 4 ≤ U.length) : ctlW U (hSp U) (hFr U) (hGc U) x = U.set 3 x := by
  match U, h with
  | a :: b :: c :: d :: U, _ => rfl
theorem ctl_over {U : List Int} (h : 4 ≤ U.length) : ctlW U (hSp U) (hFr U) 0 0 = (U.set 2 0).set 3 0 := by
  match U, h with
  | a :: b :: c :: d :: U, _ => rfl
theorem ctl_turned {h : Int} {U : List Int} (hl : 4 ≤ U.length) : ctlW U (1 - hSp U) (16 + (1 - hSp U) * h) 1 (16 + (1 - hSp U) * h) = turned h U := by
  match U, hl with
  | a :: b :: c :: d :: U, _ => rfl
section
variable {B : Nat} {G : Nat → Prop} {w u u' : World} {s H L : Nat} {V : List Int} {sp fr gc sc sp' fr' gc' sc' : Int}
theorem NwS.turn (x : NwS B G w s H L sp fr gc sc V u) (hB : B ≤ w.heap.size) (hG : ¬ G w.heap.size) (b : Below B u u') (hb : ∀ k, k ≠ w.heap.size → u'.heap[k]? = u.heap[k]?) (r : Row4 u' w.heap.size (.int .i64 sp') (.int .i64 fr') (.int .i64 gc') (.int .i64 sc')) : NwS B G w s H L sp' fr' gc' sc' V u' :=
  ⟨r, x.s.own b (fun k hn _ => hb k (fun e => hn (.inr e))), x.b.trans b, x.k.trans (fun k g => hb k (fun e => hG (e ▸ g)))⟩
theorem NwS.put4 (x : NwS B G w s H L sp fr gc sc V u) (hB : B ≤ w.heap.size) (hG : ¬ G w.heap.size) : NwS B G w s H L sp' fr' gc' sc' V ((((u.setCell ⟨w.heap.size, 0, none⟩ (.int .i64 sp')).setCell ⟨w.heap.size, 1, none⟩ (.int .i64 fr')).setCell ⟨w.heap.size, 2, none⟩ (.int .i64 gc')).setCell ⟨w.heap.size, 3, none⟩ (.int .i64 sc')) :=
  x.turn hB hG (Row4.kept (Below.refl _ _) hB) (fun k hk => by
    rw [heap_setCell_other _ _ _ _ hk, heap_setCell_other _ _ _ _ hk, heap_setCell_other _ _ _ _ hk, heap_setCell_other _ _ _ _ hk]) (x.r.set4 _ _ _ _)
theorem Row4.setSc {u : World} {g : Nat} {z0 z1 z2 z3 : Value} (h : Row4 u g z0 z1 z2 z3) (v : Value) : Row4 (u.setCell ⟨g, 3, none⟩ v) g z0 z1 z2 v := by
  obtain ⟨l0, c0, c1, c2, c3, f0, f1, f2, f3⟩ := h
  refine ⟨?_, ?_, ?_, ?_, ?_, ?_, ?_, ?_, ?_⟩ <;> (first | exact (by simpa using l0) | (simp only [World.frozen?_setCell]; assumption) | simp [go_sem, set_same, c0, c1, c2, c3])
theorem Row4.setGc {u : World} {g : Nat} {z0 z1 z2 z3 : Value} (h : Row4 u g z0 z1 z2 z3) (v : Value) : Row4 (u.setCell ⟨g, 2, none⟩ v) g z0 z1 v z3 := by
  obtain ⟨l0, c0, c1, c2, c3, f0, f1, f2, f3⟩ := h
  refine ⟨?_, ?_, ?_, ?_, ?_, ?_, ?_, ?_, ?_⟩ <;> (first | exact (by simpa using l0) | (simp only [World.frozen?_setCell]; assumption) | simp [go_sem, set_same, c0, c1, c2, c3])
theorem NwS.putSc (x : NwS B G w s H L sp fr gc sc V u) (hB : B ≤ w.heap.size) (hG : ¬ G w.heap.size) (v : Int) : NwS B G w s H L sp fr gc v V (u.setCell ⟨w.heap.size, 3, none⟩ (.int .i64 v)) :=
  x.turn hB hG ((Below.refl B u).setCell (p := ⟨w.heap.size, 3, none⟩) hB _) (fun k hk => heap_setCell_other _ ⟨w.heap.size, 3, none⟩ _ _ hk) (x.r.setSc _)
theorem NwS.putGc (x : NwS B G w s H L sp fr gc sc V u) (hB : B ≤ w.heap.size) (hG : ¬ G w.heap.size) (v : Int) : NwS B G w s H L sp fr v sc V (u.setCell ⟨w.heap.size, 2, none⟩ (.int .i64 v)) :=
  x.turn hB hG ((Below.refl B u).setCell (p := ⟨w.heap.size, 2, none⟩) hB _) (fun k hk => heap_setCell_other _ ⟨w.heap.size, 2, none⟩ _ _ hk) (x.r.setGc _)
end
section
variable {B : Nat} {G : Nat → Prop} {w : World} {s H L : Nat} {W : List Int}
theorem St.off (h : St B G w s H L W) {w' : World} (y : Below w.heap.size w w') : ¬ G w'.heap.size := fun g => by
  have := h.lt _ g
  have := y.size
  omega
theorem St.on (h : St B G w s H L W) {u : World} (y : Below w.heap.size w u) : St B G u s H L W ∧ Below B w u ∧ KeptG G w u := ⟨h.below y, y.mono h.le, h.keptG y⟩
theorem spset_scan {U : List Int} {y : Int} (x : St B G w s H L U) (ok : hOk H L (U.set 3 y) = true) : Calls Tryz.prog 54 #[.pointer (some ⟨s, 0, none⟩), .agg #[.int .i64 (hSp U), .int .i64 (hFr U), .int .i64 (hGc U), .int .i64 y]] w fun e w' => e = .returned (.bool true) ∧ St B G w' s H L (U.set 3 y) ∧ Below B w w' ∧ KeptG G w w' := by
  have hx := x.len
  have e1 : hSp (U.set 3 y) = hSp U := getD_set_ne (by decide)
  have e2 : hFr (U.set 3 y) = hFr U := getD_set_ne (by decide)
  have e3 : hGc (U.set 3 y) = hGc U := getD_set_ne (by decide)
  have e4 : hSc (U.set 3 y) = y := getD_set_eq (by omega)
  rw [hOk, e1, e2, e3, e4] at ok
  have := spset_yes x _ _ _ _ ok
  rwa [ctl_three (by omega)] at this
set_option maxRecDepth 100000 in
set_option maxHeartbeats 2000000 in
theorem gcurrent_is (h : St B G w s H L W) (a : Int) : Calls Tryz.prog 91 #[.pointer (some ⟨s, 0, none⟩), .int .i64 a] w fun e w' => ∃ v, e = .returned (.tuple #[.int .i64 (folV H L W a), v]) ∧ ErrIs w' (folE H L W a) v ∧ St B G w' s H L (folW H L W a) ∧ Below B w w' ∧ KeptG G w w' := by
  have HF := Lib.hid (fFollow_is h a)
  clear h
  generalize folW H L W a = WF at *
  generalize folE H L W a = x at *
  generalize folV H L W a = p at *
  go_enter Tryz.func91, Tryz.ntmps91
  go_wp2_with (first
    | (go_at_call 111; refine HF.out.mono ?_; rintro e w1 ⟨rfl, h1, b1, k1⟩; have H1 := Lib.hid (And.intro h1 (And.intro b1 k1)); clear h1 b1 k1)
    | (go_at_call 65; refine (new_err x a _).mono ?_; rintro e w2 ⟨v2, rfl, b2, he2⟩; have H2 := Lib.hid (And.intro he2 b2); clear b2 he2)
    | (go_at_call 64; refine (in_err x _ _ _ H2.out.1).mono ?_; rintro e w3 ⟨v3, rfl, b3, he3⟩; have H3 := Lib.hid (And.intro he3 (geo_next H2.out.2 b3)); clear b3 he3))
  go_ret2
  obtain ⟨q1, q2, q3⟩ := H1.out.1.on H3.out.2
  exact ⟨v3, rfl, H3.out.1, q1, H1.out.2.1.trans q2, H1.out.2.2.trans q3⟩
set_option maxRecDepth 100000 in
set_option maxHeartbeats 4000000 in
theorem grenew_is (h : St B G w s H L W) (a n : Nat) (c : Int) (hc : c = (a : Int) + 1) (hn : a + 1 + n ≤ 16 + 2 * H) : Calls Tryz.prog 66 #[.pointer (some ⟨s, 0, none⟩), .int .i64 c, .int .i64 (n : Int)] w fun e w' => ∃ v, e = .returned v ∧ ErrIs w' (slotsGo H L W a n).1 v ∧ St B G w' s H L (slotsGo H L W a n).2 ∧ Below B w w' ∧ KeptG G w w' := by
  have hge := h.ge
  obtain ⟨X, hX⟩ : ∃ X, X = slotsGo (H : Int) (L : Int) W a n := ⟨_, rfl⟩
  rw [← hX]
  have HX := Lib.hid hX
  have H0 : Hid (slotsGo (H : Int) (L : Int) W a 0 = (0, W)) := Lib.hid rfl
  have HSt := Lib.hid (h.on (Below.refl _ _))
  have HGet : Hid (∀ u U (k : Nat), k < n → St B G u s H L U → Calls Tryz.prog 35 #[.pointer (some ⟨s, 0, none⟩), .int .i64 (c + (k : Int))] u fun e w' => e = .returned (.int .i64 (U.getD (a + 1 + k) 0)) ∧ Below u.heap.size u w') := Lib.hid (fun u U k hk x => by
    have := st_get x (c + (k : Int))
    rwa [wk_at x.len (by omega), show (c + (k : Int)).toNat = a + 1 + k by omega] at this)
  have HSet : Hid (∀ u0 u U (k : Nat), k < n → St B G u0 s H L U → St B G u s H L (folW H L U (U.getD (a + 1 + k) 0)) → Calls Tryz.prog 82 #[.pointer (some ⟨s, 0, none⟩), .int .i64 (c + (k : Int)), .int .i64 (folV H L U (U.getD (a + 1 + k) 0))] u fun e w' => (∃ b, e = .returned (.bool b)) ∧ St B G w' s H L ((folW H L U (U.getD (a + 1 + k) 0)).set (a + 1 + k) (folV H L U (U.getD (a + 1 + k) 0))) ∧ Below B u w' ∧ KeptG G u w') := Lib.hid (fun u0 u U k hk x0 x => by
    have hl := x0.len
    have hv := fol_v (l := (L : Int)) (show (U.length : Int) = 16 + 2 * (H : Int) by omega) (show NumC U from fun i => x0.num i) (U.getD (a + 1 + k) 0) (x0.num _).1 (x0.num _).2
    have := st_set x (c + (k : Int)) (folV H L U (U.getD (a + 1 + k) 0))
    rw [setW_in (i := a + 1 + k) (by omega) (by omega) hv.1 hv.2] at this
    exact this.mono fun e w' ⟨h1, h2⟩ => ⟨⟨_, h1⟩, h2⟩)
  have HNx : Hid (∀ k U, slotsGo (H : Int) (L : Int) W a k = (0, U) → slotsGo (H : Int) (L : Int) W a (k + 1) = (celE H L U (a + 1 + k), celW H L U (a + 1 + k))) := Lib.hid (fun k U e => by
    rw [slotsGo, e]
    exact if_pos rfl)
  have HEr : Hid (∀ k U e, k < n → slotsGo (H : Int) (L : Int) W a (k + 1) = (e, U) → e ≠ 0 → X = (e, U)) := Lib.hid (fun k U e hk q ne => by
    rw [hX, slotsGo_err (i := k + 1) (by rw [q]; exact ne) n (by omega), q])
  have c0 : 0 ≤ c := by omega
  have c1 : c + (n : Int) ≤ 816 := by omega
  have n1 : (n : Int) ≤ 816 := by omega
  clear h hX hc hn hge
  go_enter Tryz.func66, Tryz.ntmps66
  go_wp2_with fail
  go_loopw [7] (fun i wr => ∃ (k : Nat) (U : List Int), k ≤ n ∧ i = .int .i64 (c + (k : Int)) ∧ Hid (slotsGo (H : Int) (L : Int) W a k = (0, U)) ∧ Hid (St B G wr s H L U ∧ Below B w wr ∧ KeptG G w wr)) (fun i _ => (c + (n : Int) - intOf i).toNat)
  case atStart => exact ⟨0, W, Nat.zero_le _, by simp, H0, HSt⟩
  case round =>
    clear H0 HSt
    obtain ⟨k, U, hk, rfl, HK, HR⟩ := hrel
    by_cases hlt : k < n
    · have hi1 : c + (k : Int) < c + (n : Int) := by omega
      have hk0 : (k : Int) ≤ 816 := by omega
      have HG := Lib.hid (HGet.out wr U k hlt HR.out.1)
      have HN := Lib.hid (HNx.out k U HK.out)
      have HSe := Lib.hid (fun u x => HSet.out wr u U k hlt HR.out.1 x)
      have HC := Lib.hid (fun u (y : Below wr.heap.size wr u) => gcurrent_is (HR.out.1.below y) (U.getD (a + 1 + k) 0))
      have HErr := Lib.hid (fun U e => HEr.out k U e hlt)
      by_cases e0 : folE H L U (U.getD (a + 1 + k) 0) = 0
      · have HN2 : Hid (slotsGo (H : Int) (L : Int) W a (k + 1) = (0, (folW H L U (U.getD (a + 1 + k) 0)).set (a + 1 + k) (folV H L U (U.getD (a + 1 + k) 0)))) := Lib.hid (by
          rw [HN.out, celW, celV, celE, if_pos e0, e0])
        rw [e0] at HC
        clear HN HGet HSet HNx HEr HK e0 HErr
        generalize (folW H L U (U.getD (a + 1 + k) 0)).set (a + 1 + k) (folV H L U (U.getD (a + 1 + k) 0)) = U2 at *
        generalize folW H L U (U.getD (a + 1 + k) 0) = Wf at *
        generalize folV H L U (U.getD (a + 1 + k) 0) = fv at *
        generalize U.getD (a + 1 + k) 0 = z at *
        go_wp2_with (first
          | (go_at_call 35; refine HG.out.mono ?_; rintro e w1 ⟨rfl, b1⟩; have H1 := Lib.hid b1; clear b1)
          | (go_at_call 91; refine (HC.out _ H1.out).mono ?_; rintro e w2 ⟨v2, rfl, he2, h2, b2, k2⟩; obtain rfl := he2.nil; have H2 := Lib.hid (And.intro h2 (And.intro ((HR.out.2.1.trans (H1.out.mono HR.out.1.le)).trans b2) ((HR.out.2.2.trans (HR.out.1.keptG H1.out)).trans k2))); clear he2 h2 b2 k2)
          | (go_at_call 82; refine (HSe.out _ H2.out.1).mono ?_; rintro e w3 ⟨⟨t3, rfl⟩, h3, b3, k3⟩; have H3 := Lib.hid (And.intro h3 (And.intro (H2.out.2.1.trans b3) (H2.out.2.2.trans k3))); clear h3 b3 k3))
        exact ⟨⟨k + 1, U2, by omega, by go_num, HN2, H3⟩, by simp [intOf]; omega⟩
      · have eW := folW_no e0
        have HN2 : Hid (X = (folE H L U (U.getD (a + 1 + k) 0), U)) := Lib.hid (HErr.out U _ (by rw [HN.out, celW, celE, if_neg e0]) e0)
        rw [eW] at HC
        clear HN HGet HSet HNx HEr HK eW HErr HSe
        generalize folE H L U (U.getD (a + 1 + k) 0) = x at *
        generalize folV H L U (U.getD (a + 1 + k) 0) = fv at *
        generalize U.getD (a + 1 + k) 0 = z at *
        go_wp2_with (first
          | (go_at_call 35; refine HG.out.mono ?_; rintro e w1 ⟨rfl, b1⟩; have H1 := Lib.hid b1; clear b1)
          | (go_at_call 91; refine (HC.out _ H1.out).mono ?_; rintro e w2 ⟨v2, rfl, he2, h2, b2, k2⟩; have HE := Lib.hid he2; obtain ⟨tv, vv, rfl⟩ := he2.iface e0; have H2 := Lib.hid (And.intro h2 (And.intro ((HR.out.2.1.trans (H1.out.mono HR.out.1.le)).trans b2) ((HR.out.2.2.trans (HR.out.1.keptG H1.out)).trans k2))); clear he2 h2 b2 k2)
          | (go_at_call 64; refine (in_err x _ _ _ HE.out).mono ?_; rintro e w3 ⟨v3, rfl, b3, he3⟩; have H3 := Lib.hid (And.intro he3 (H2.out.1.on b3)); clear b3 he3))
        go_ret
        rw [HN2.out]
        exact ⟨v3, rfl, H3.out.1, H3.out.2.1, H2.out.2.1.trans H3.out.2.2.1, H2.out.2.2.trans H3.out.2.2.2⟩
    · obtain rfl : k = n := by omega
      have hnl : ¬ c + (k : Int) < c + (k : Int) := by omega
      go_wp2_with fail
      go_ret
      rw [HX.out, HK.out]
      exact ⟨.nilIface, rfl, errNil _, HR.out⟩
end
end Go.Proofs.YtbghglkplbnnkaaGreatDoor
-- GcRen
namespace Go.Proofs.YtbghglkplbnnkaaGreatDoor
open Go.RowKit Sec
open Go.Proofs.YtbghglkplbnnkaaGreatDoor.Bk

structure Lent (B : Nat) (G : Nat → Prop) (w : World) (q : Option Addr) (rs : List Int) : Prop where
  l : LiesAt w q (vals rs)
  g : ∀ x : Addr, q = some x → x.block < B ∨ G x.block
  n : rs.length ≤ 1000
theorem Lent.turn {B : Nat} {G : Nat → Prop} {w w' : World} {q : Option Addr} {rs : List Int} (x : Lent B G w q rs) (b : Below B w w') (k : KeptG G w w') : Lent B G w' q rs :=
  ⟨x.l.of_blocks b.size (fun a e => (x.g a e).elim (fun h => b.block _ h) (fun h => k _ h)), x.g, x.n⟩
theorem Lent.nil (B : Nat) (G : Nat → Prop) (w : World) : Lent B G w none [] := ⟨fun j u hu => (by cases hu), fun _ q => (by cases q), by decide⟩
theorem gl_flat : ∀ l : List Int, vals l = flat (fun z : Int => [Value.int .i64 z]) l
  | [] => rfl
  | z :: l => by
    show Value.int .i64 z :: vals l = [Value.int .i64 z] ++ flat _ l
    rw [gl_flat l]
    rfl
theorem gl_lies {w : World} {a : Option Addr} {l : List Int} (h : LiesAt w a (vals l)) {k : Nat} (hk : k < l.length) : ∃ g o : Nat, a = some ⟨g, o, none⟩ ∧ g < w.heap.size ∧ w.cell? ⟨g, o + k, none⟩ = some (.int .i64 (l.getD k 0)) := by
  rw [gl_flat] at h
  obtain ⟨g, o, h1, h2, h3⟩ := h.elem (k := 1) (fun _ => rfl) (by decide) (List.getElem?_eq_getElem hk)
  have := h3 0 _ rfl
  rw [Nat.mul_one, Nat.add_zero] at this
  exact ⟨g, o, h1, h2, by rw [this, List.getD_eq_getElem?_getD, List.getElem?_eq_getElem hk]; rfl⟩
structure RnS (B : Nat) (G : Nat → Prop) (w : World) (g s H L n : Nat) (V R : List Int) (u : World) : Prop where
  st : St B (fun k => G k ∨ k = g) u s H L V
  b : Below B w u
  k : KeptG G w u
  o : u.ownsRow w.heap.size 3 1 (.slice (some ⟨g, 0, none⟩) n n) n (vals R)
  ge : w.heap.size ≤ g
  gn : ¬ G g
section
variable {B : Nat} {G : Nat → Prop} {w u u' : World} {g s H L n : Nat} {W V V' R : List Int}
theorem RnS.start (h : St B G w s H L W) (bm : Below w.heap.size w u) (om : u.ownsRow w.heap.size 3 1 (.slice (some ⟨w.heap.size, 0, none⟩) n n) n (vals R)) : RnS B G w w.heap.size s H L n W R u := by
  have hl := (om.lt _ rfl).2
  obtain ⟨q1, q2, q3⟩ := h.on bm
  exact ⟨(h.more bm).mono (fun k q => q.elim .inl (fun e => .inr (by subst e; exact ⟨Nat.le_refl _, hl⟩))), q2, q3, om, Nat.le_refl _, h.off (Below.refl _ _)⟩
theorem RnS.new (x : RnS B G w g s H L n V R u) (h1 : St B (fun k => G k ∨ k = g) u' s H L V') (h2 : Below B u u') (h3 : KeptG (fun k => G k ∨ k = g) u u') : RnS B G w g s H L n V' R u' :=
  ⟨h1, x.b.trans h2, x.k.trans (h3.mono fun _ q => .inl q), hb_same x.o (fun k hk => by
    obtain rfl : g = k := by simpa [Value.ownBlock] using hk
    exact h3 g (.inr rfl)), x.ge, x.gn⟩
theorem RnS.below (x : RnS B G w g s H L n V R u) (y : Below u.heap.size u u') : RnS B G w g s H L n V R u' :=
  have z := x.st.on y
  x.new z.1 z.2.1 z.2.2
theorem RnS.put (x : RnS B G w g s H L n V R u) (hB : B ≤ w.heap.size) (k : Nat) (z : Int) : RnS B G w g s H L n V (R.set k z) (u.setCell ⟨g, k, none⟩ (.int .i64 z)) := by
  have hg := x.ge
  have y : Below B u (u.setCell ⟨g, k, none⟩ (.int .i64 z)) := (Below.refl B u).setCell (p := ⟨g, k, none⟩) (Nat.le_trans hB hg) _
  have same : ∀ j, j ≠ g → (u.setCell ⟨g, k, none⟩ (.int .i64 z)).heap[j]? = u.heap[j]? := fun j q => heap_setCell_other _ _ _ _ q
  refine ⟨x.st.own y (fun j hn _ => same j (fun e => hn (.inr e))), x.b.trans y, x.k.trans (fun j q => same j (fun e => x.gn (e ▸ q))), ?_, hg, x.gn⟩
  rw [vals, List.map_set]
  exact owns_set x.o k _
end
theorem fill_next {out : List Int} {k n : Nat} (hl : out.length = k) (hk : k < n) (z : Int) : (out ++ List.replicate (n - k) 0).set k z = (out ++ [z]) ++ List.replicate (n - (k + 1)) 0 := by
  obtain ⟨m, hm⟩ : ∃ m, n - k = m + 1 := ⟨n - k - 1, by omega⟩
  rw [hm, show n - (k + 1) = m by omega, List.replicate_succ, List.set_append_right _ _ (by omega), hl, Nat.sub_self, List.set_cons_zero, List.append_assoc]
  rfl
section
variable {B : Nat} {G : Nat → Prop} {w : World} {s H L : Nat} {W : List Int}
def regO (X : Int × List Int × List Int) : List Int := if X.1 = 0 then X.2.1 else []
set_option maxRecDepth 100000 in
set_option maxHeartbeats 4000000 in
theorem grenewed_is (h : St B G w s H L W) (q : Option Addr) (rs : List Int) (ca : Nat) (hq : Lent B G w q rs) : Calls Tryz.prog 67 #[.pointer (some ⟨s, 0, none⟩), .slice q rs.length ca] w fun e w' => ∃ r v, e = .returned (.tuple #[r, v]) ∧ ErrIs w' (regsGo H L W rs rs.length).1 v ∧ St B (fun k => G k ∨ r.ownBlock = some k) w' s H L (regsGo H L W rs rs.length).2.2 ∧ Below B w w' ∧ KeptG G w w' ∧ w'.ownsRow w.heap.size 3 1 r (regO (regsGo H L W rs rs.length)).length (vals (regO (regsGo H L W rs rs.length))) := by
  obtain ⟨X, hX⟩ : ∃ X, X = regsGo (H : Int) (L : Int) W rs rs.length := ⟨_, rfl⟩
  rw [← hX]
  have HX := Lib.hid hX
  have HLe := Lib.hid h.le
  have HQ := Lib.hid hq
  have hn := hq.n
  obtain ⟨wm, hmk, bm, om⟩ := st_make_ints w rs.length (by omega)
  have HS := Lib.hid (RnS.start h bm om)
  have H0 : Hid (regsGo (H : Int) (L : Int) W rs 0 = (0, [], W)) := Lib.hid rfl
  have HNx : Hid (∀ k out V, regsGo (H : Int) (L : Int) W rs k = (0, out, V) → regsGo (H : Int) (L : Int) W rs (k + 1) = (folE H L V (rs.getD k 0), out ++ [folV H L V (rs.getD k 0)], folW H L V (rs.getD k 0))) := Lib.hid (fun k out V e => by
    rw [regsGo, e]
    exact if_pos rfl)
  have HEr : Hid (∀ k e out V, k < rs.length → regsGo (H : Int) (L : Int) W rs (k + 1) = (e, out, V) → e ≠ 0 → X = (e, out, V)) := Lib.hid (fun k e out V hk q ne => by
    rw [hX, regsGo_err (i := k + 1) (by rw [q]; exact ne) rs.length (by omega), q])
  have HLen : Hid (∀ k out V, regsGo (H : Int) (L : Int) W rs k = (0, out, V) → out.length = k) := Lib.hid (fun k out V e => by
    have := regsGo_len (h := (H : Int)) (l := (L : Int)) (W := W) (rs := rs) k (by rw [e])
    rwa [e] at this)
  clear h hX hq bm om
  have HV0 : Hid (∀ k out V u, RnS B G w w.heap.size s H L rs.length V (out ++ List.replicate (rs.length - k) 0) u → out.length = k → k < rs.length → u.cell? ⟨w.heap.size, k, none⟩ = some (.int .i64 0) ∧ u.frozen? ⟨w.heap.size, k, none⟩ = false) := Lib.hid (fun k out V u x hl hk => owns_cell x.o (by
    obtain ⟨m, hm⟩ : ∃ m, rs.length - k = m + 1 := ⟨rs.length - k - 1, by omega⟩
    rw [vals, List.map_append, hm, List.replicate_succ, List.map_cons, List.getElem?_append_right (by simp [hl]), List.length_map, hl, Nat.sub_self]
    rfl))
  have hn2 : (rs.length : Int) ≤ 1000 := by omega
  go_enter Tryz.func67, Tryz.ntmps67
  go_wp2_with fail
  clear hmk
  go_loopw [16] (fun i wr => ∃ (k : Nat) (out V : List Int), k ≤ rs.length ∧ i = .int .i64 (k : Int) ∧ Hid (regsGo (H : Int) (L : Int) W rs k = (0, out, V)) ∧ Hid (RnS B G w w.heap.size s H L rs.length V (out ++ List.replicate (rs.length - k) 0) wr)) (fun i _ => rs.length - (intOf i).toNat)
  case atStart => exact ⟨0, [], W, Nat.zero_le _, rfl, H0, HS⟩
  case round =>
    clear HS H0
    obtain ⟨k, out, V, hk, rfl, HK, HR⟩ := hrel
    have hk0 : (k : Int) ≤ 1000 := by omega
    by_cases hlt : k < rs.length
    · obtain ⟨g1, o1, rfl, hg1, d1⟩ := gl_lies (HQ.out.turn HR.out.b HR.out.k).l hlt
      have hi1 : (k : Int) < (rs.length : Int) := by omega
      have HN := Lib.hid (HNx.out k out V HK.out)
      have HL := Lib.hid (HLen.out k out V HK.out)
      have HErr := Lib.hid (fun e out V => HEr.out k e out V hlt)
      have HC := Lib.hid (fun u (y : Below wr.heap.size wr u) => gcurrent_is (HR.out.below y).st (rs.getD k 0))
      by_cases e0 : folE H L V (rs.getD k 0) = 0
      · rw [e0] at HC
        have HN2 : Hid (regsGo (H : Int) (L : Int) W rs (k + 1) = (0, out ++ [folV H L V (rs.getD k 0)], folW H L V (rs.getD k 0))) := Lib.hid (by rw [HN.out, e0])
        clear HN HErr HNx HEr HK e0
        generalize folW H L V (rs.getD k 0) = Wf at *
        generalize folV H L V (rs.getD k 0) = fv at *
        generalize rs.getD k 0 = z at *
        go_wp2_with (first
          | (go_at_call 91; refine (HC.out _ (Below.refl _ _)).mono ?_; rintro e w2 ⟨v2, rfl, he2, h2, b2, k2⟩; obtain rfl := he2.nil; have H2 := Lib.hid (HR.out.new h2 b2 k2); obtain ⟨x1, x2⟩ := HV0.out k out Wf _ H2.out HL.out hlt; have H3 := Lib.hid (H2.out.put HLe.out k fv); clear he2 h2 b2 k2))
        have H4 : Hid (RnS B G w w.heap.size s H L rs.length Wf ((out ++ [fv]) ++ List.replicate (rs.length - (k + 1)) 0) (w2.setCell ⟨w.heap.size, k, none⟩ (.int .i64 fv))) := Lib.hid (by
          rw [← fill_next HL.out hlt fv]
          exact H3.out)
        exact ⟨⟨k + 1, out ++ [fv], Wf, by omega, by go_num, HN2, H4⟩, by simp [intOf]; omega⟩
      · have eW := folW_no e0
        have HN2 : Hid (X = (folE H L V (rs.getD k 0), out ++ [folV H L V (rs.getD k 0)], V)) := Lib.hid (HErr.out _ _ _ (by rw [HN.out, eW]) e0)
        rw [eW] at HC
        clear HN HErr HNx HEr HK eW
        generalize folE H L V (rs.getD k 0) = x at *
        generalize folV H L V (rs.getD k 0) = fv at *
        generalize rs.getD k 0 = z at *
        go_wp2_with (first
          | (go_at_call 91; refine (HC.out _ (Below.refl _ _)).mono ?_; rintro e w2 ⟨v2, rfl, he2, h2, b2, k2⟩; have HE := Lib.hid he2; obtain ⟨tv, vv, rfl⟩ := he2.iface e0; have H2 := Lib.hid (HR.out.new h2 b2 k2); clear he2 h2 b2 k2)
          | (go_at_call 64; refine (in_err x _ _ _ HE.out).mono ?_; rintro e w3 ⟨v3, rfl, b3, he3⟩; have H3 := Lib.hid (And.intro he3 (H2.out.below b3)); clear b3 he3))
        go_ret2
        rw [HN2.out]
        refine ⟨.slice none 0 0, v3, rfl, H3.out.1, H3.out.2.st.mono (fun j q => .inl (q.elim id (fun e => by cases e))), H3.out.2.b, H3.out.2.k, ?_⟩
        rw [regO, if_neg e0]
        exact World.ownsRow_nil _ _ _ _
    · obtain rfl : k = rs.length := by omega
      have hnl : ¬ (rs.length : Int) < (rs.length : Int) := by omega
      have HL := Lib.hid (HLen.out _ out V HK.out)
      go_wp2_with fail
      go_ret2
      rw [HX.out, HK.out]
      have ho := HR.out.o
      rw [Nat.sub_self, List.replicate_zero, List.append_nil] at ho
      refine ⟨_, .nilIface, rfl, errNil _, HR.out.st.mono (fun j q => q.imp id (fun e => by simpa [Value.ownBlock] using e.symm)), HR.out.b, HR.out.k, ?_⟩
      rw [regO, if_pos rfl]
      show wr.ownsRow w.heap.size 3 1 _ out.length (vals out)
      rw [HL.out]
      exact ho
theorem own_base {u : World} {b b' : Nat} {e : TypeId} {m n : Nat} {v : Value} {xs : List Value} (o : u.ownsRow b e m v n xs) (h : b' ≤ b) : u.ownsRow b' e m v n xs :=
  ⟨o.1, o.2.imp id (fun ⟨g, cap, cur, h1, h2, h3⟩ => ⟨g, cap, cur, h1, Nat.le_trans h h2, h3⟩)⟩
structure SaK (B : Nat) (G : Nat → Prop) (w : World) (s H L : Nat) (sp fr gc sc : Int) (V : List Int) (u : World) : Prop where
  c : u.cell? ⟨w.heap.size, 0, none⟩ = some (.int .i64 (H : Int)) ∧ u.cell? ⟨w.heap.size, 1, none⟩ = some (.int .i64 (L : Int)) ∧ u.cell? ⟨w.heap.size + 1, 0, none⟩ = some (.int .i64 sp) ∧ u.cell? ⟨w.heap.size + 1, 1, none⟩ = some (.int .i64 fr) ∧ u.cell? ⟨w.heap.size + 1, 2, none⟩ = some (.int .i64 gc) ∧ u.cell? ⟨w.heap.size + 1, 3, none⟩ = some (.int .i64 sc)
  lt : w.heap.size + 1 < u.heap.size
  x : St B G u s H L V ∧ Below B w u ∧ KeptG G w u
theorem SaK.made (h : St B G w s H L W) (sp fr gc sc : Int) : SaK B G w s H L sp fr gc sc W ((w.alloc (.cells #[.int .i64 (H : Int), .int .i64 (L : Int)] 23)).alloc (.cells #[.int .i64 sp, .int .i64 fr, .int .i64 gc, .int .i64 sc] 56)) := by
  have m := Row4.made (w.alloc (.cells #[.int .i64 (H : Int), .int .i64 (L : Int)] 23)) (.int .i64 sp) (.int .i64 fr) (.int .i64 gc) (.int .i64 sc) 56
  rw [size_alloc] at m
  have k := (GBox.made w (H : Int) (L : Int) 23).below ((Below.refl _ _).alloc (Nat.le_refl _) (.cells #[.int .i64 sp, .int .i64 fr, .int .i64 gc, .int .i64 sc] 56))
  exact ⟨⟨k.c0, k.c1, m.c0, m.c1, m.c2, m.c3⟩, by simp, h.on (((Below.refl _ _).alloc (Nat.le_refl _) _).alloc (by simp) _)⟩
theorem SaK.below {sp fr gc sc : Int} {V : List Int} {u u' : World} (k : SaK B G w s H L sp fr gc sc V u) (y : Below u.heap.size u u') : SaK B G w s H L sp fr gc sc V u' := by
  obtain ⟨⟨x0, x1, x2, x3, x4, x5⟩, x6, x7⟩ := k
  have c : ∀ k o, k < u.heap.size → u'.cell? ⟨k, o, none⟩ = u.cell? ⟨k, o, none⟩ := fun k o q => y.cell (p := ⟨k, o, none⟩) q
  obtain ⟨q1, q2, q3⟩ := x7.1.on y
  exact ⟨⟨(c _ _ (by omega)).trans x0, (c _ _ (by omega)).trans x1, (c _ _ x6).trans x2, (c _ _ x6).trans x3, (c _ _ x6).trans x4, (c _ _ x6).trans x5⟩, Nat.lt_of_lt_of_le x6 y.size, q1, x7.2.1.trans q2, x7.2.2.trans q3⟩
theorem SaK.end {sp fr gc sc : Int} {V : List Int} {u u' w0 : World} (k : SaK B G w s H L sp fr gc sc V u) (h0 : St B G w0 s H L W) (y : Below w0.heap.size w0 w) (z : Below u.heap.size u u') : St B G u' s H L V ∧ Below B w0 u' ∧ KeptG G w0 u' := by
  obtain ⟨q1, q2, q3⟩ := k.x.1.on z
  obtain ⟨r1, r2, r3⟩ := h0.on y
  exact ⟨q1, (r2.trans k.x.2.1).trans q2, (r3.trans k.x.2.2).trans q3⟩
theorem St.noRow (h : St B G w s H L W) : St B (fun k => G k ∨ (Value.slice none 0 0).ownBlock = some k) w s H L W := h.mono (fun _ q => q.elim id (fun e => by cases e))
set_option maxRecDepth 100000 in
set_option maxHeartbeats 8000000 in
theorem gstart_no (h : St B G w s H L W) (q : Option Addr) (rs : List Int) (ca : Nat) (hno : hOk H L W = false ∨ (hOk H L W = true ∧ hGc W = 1)) : Calls Tryz.prog 33 #[.pointer (some ⟨s, 0, none⟩), .slice q rs.length ca] w fun e w' => ∃ v, e = .returned (.tuple #[.slice none 0 0, v]) ∧ ErrIs w' (str H L W rs).1 v ∧ St B G w' s H L W ∧ Below B w w' ∧ KeptG G w w' := by
  have HH := Lib.hid h
  have HQg := Lib.hid (st_geo h)
  have HGet := Lib.hid (fun u (y : Below w.heap.size w u) => spget_st (h.below y))
  have HR := Lib.hid (fun u => spright_is H L (hSp W) (hFr W) (hGc W) (hSc W) u)
  rw [show fineB H L (hSp W) (hFr W) (hGc W) (hSc W) = hOk H L W from rfl] at HR
  have hcase : (hOk H L W = false ∧ (str H L W rs).1 = 1) ∨ (hOk H L W = true ∧ hGc W = 1 ∧ (str H L W rs).1 = 9) := by
    rcases hno with e | ⟨e, f⟩
    · exact .inl ⟨e, by rw [str, if_pos e]⟩
    · exact .inr ⟨e, f, by rw [str, if_neg (by rw [e]; decide), if_pos f]⟩
  clear h hno
  generalize (str H L W rs).1 = ee at *
  generalize hOk H L W = t at *
  generalize hSp W = x0 at *
  generalize hFr W = x1 at *
  generalize hGc W = x2 at *
  generalize hSc W = x3 at *
  rcases hcase with ⟨rfl, rfl⟩ | ⟨rfl, rfl, rfl⟩
  · go_enter Tryz.func33, Tryz.ntmps33
    go_wp2_with (first
      | (go_at_call 37; refine HQg.out.mono ?_; rintro e w1 ⟨rfl, b1⟩; have H1 := Lib.hid b1; clear b1)
      | (go_at_call 28; refine (HGet.out _ H1.out).mono ?_; rintro e w2 ⟨rfl, b2⟩; have H2 := Lib.hid (geo_next H1.out b2); have HS := Lib.hid (SaK.made (HH.out.below H2.out) x0 x1 x2 x3); obtain ⟨c0, c1, c2, c3, c4, c5⟩ := HS.out.c; clear b2)
      | (go_at_call 43; refine (HR.out _).mono ?_; rintro e w3 ⟨rfl, b3⟩; replace HS := Lib.hid (HS.out.below b3); clear b3 c0 c1 c2 c3 c4 c5; obtain ⟨c0, c1, c2, c3, c4, c5⟩ := HS.out.c)
      | (go_at_call 65; refine (new_err 1 x0 _).mono ?_; rintro e w4 ⟨v4, rfl, b4, he4⟩; have H4 := Lib.hid (And.intro he4 b4); clear b4 he4)
      | (go_at_call 64; refine (in_err 1 _ _ _ H4.out.1).mono ?_; rintro e w5 ⟨v5, rfl, b5, he5⟩; have H5 := Lib.hid (And.intro he5 (geo_next H4.out.2 b5)); clear b5 he5))
    go_ret2
    exact ⟨v5, rfl, H5.out.1, HS.out.end HH.out H2.out H5.out.2⟩
  · go_enter Tryz.func33, Tryz.ntmps33
    go_wp2_with (first
      | (go_at_call 37; refine HQg.out.mono ?_; rintro e w1 ⟨rfl, b1⟩; have H1 := Lib.hid b1; clear b1)
      | (go_at_call 28; refine (HGet.out _ H1.out).mono ?_; rintro e w2 ⟨rfl, b2⟩; have H2 := Lib.hid (geo_next H1.out b2); have HS := Lib.hid (SaK.made (HH.out.below H2.out) x0 x1 1 x3); obtain ⟨c0, c1, c2, c3, c4, c5⟩ := HS.out.c; clear b2)
      | (go_at_call 43; refine (HR.out _).mono ?_; rintro e w3 ⟨rfl, b3⟩; replace HS := Lib.hid (HS.out.below b3); clear b3 c0 c1 c2 c3 c4 c5; obtain ⟨c0, c1, c2, c3, c4, c5⟩ := HS.out.c)
      | (go_at_call 65; refine (new_err 9 x3 _).mono ?_; rintro e w4 ⟨v4, rfl, b4, he4⟩; have H4 := Lib.hid (And.intro he4 b4); clear b4 he4)
      | (go_at_call 64; refine (in_err 9 _ _ _ H4.out.1).mono ?_; rintro e w5 ⟨v5, rfl, b5, he5⟩; have H5 := Lib.hid (And.intro he5 (geo_next H4.out.2 b5)); clear b5 he5))
    go_ret2
    exact ⟨v5, rfl, H5.out.1, HS.out.end HH.out H2.out H5.out.2⟩
end
end Go.Proofs.YtbghglkplbnnkaaGreatDoor
-- GcStr
namespace Go.Proofs.YtbghglkplbnnkaaGreatDoor
open Go.RowKit Sec
open Go.Proofs.YtbghglkplbnnkaaGreatDoor.Bk

section
variable {B : Nat} {G : Nat → Prop} {w : World} {s H L : Nat} {W : List Int}
set_option maxRecDepth 100000 in
set_option maxHeartbeats 8000000 in
theorem gstart_yes (h : St B G w s H L W) (q : Option Addr) (rs : List Int) (ca : Nat) (hq : Lent B G w q rs) (hk : hOk H L W = true) (hg : ¬ hGc W = 1) : Calls Tryz.prog 33 #[.pointer (some ⟨s, 0, none⟩), .slice q rs.length ca] w fun e w' => ∃ r v, e = .returned (.tuple #[r, v]) ∧ ErrIs w' (str H L W rs).1 v ∧ St B (fun k => G k ∨ r.ownBlock = some k) w' s H L (str H L W rs).2.2 ∧ Below B w w' ∧ KeptG G w w' ∧ w'.ownsRow w.heap.size 3 1 r (str H L W rs).2.1.length (vals (str H L W rs).2.1) := by
  obtain ⟨f1, f2, f3, f4, f5⟩ := fine_yes hk
  have hge := geOk_yes f1
  have hl := h.len
  have hWl : (W.length : Int) = 16 + 2 * (H : Int) := by omega
  have HH := Lib.hid h
  have HQ := Lib.hid hq
  have HLe := Lib.hid h.le
  have HQg := Lib.hid (st_geo h)
  have HGet := Lib.hid (fun u (y : Below w.heap.size w u) => spget_st (h.below y))
  have HR := Lib.hid (fun u => spright_is H L (hSp W) (hFr W) (hGc W) (hSc W) u)
  rw [show fineB H L (hSp W) (hFr W) (hGc W) (hSc W) = hOk H L W from rfl, hk] at HR
  have f6 : (1 - hSp W) = 0 ∨ (1 - hSp W) = 1 := by omega
  have HBs := Lib.hid (fun u => gbase_is H L (1 - hSp W) u)
  rw [ge_base f1 f6] at HBs
  have kt := (turned_keeps (l := (L : Int)) hWl hk (fun i => h.num i)).1.ok
  have HSet : Hid (∀ u, St B G u s H L W → Calls Tryz.prog 54 #[.pointer (some ⟨s, 0, none⟩), .agg #[.int .i64 (1 - hSp W), .int .i64 (16 + (1 - hSp W) * (H : Int)), .int .i64 1, .int .i64 (16 + (1 - hSp W) * (H : Int))]] u fun e w' => e = .returned (.bool true) ∧ St B G w' s H L (turned H W) ∧ Below B u w' ∧ KeptG G u w') := Lib.hid (fun u x => by
    obtain ⟨e1, e2, e3, e4⟩ := ctl_at (W := W) (sp := 1 - hSp W) (fr := 16 + (1 - hSp W) * (H : Int)) (gc := 1) (sc := 16 + (1 - hSp W) * (H : Int)) (by omega)
    have ok := kt
    rw [← ctl_turned (by omega), hOk, e1, e2, e3, e4] at ok
    have := spset_yes x _ _ _ _ ok
    rwa [ctl_turned (by omega)] at this)
  have hlt : (turned H W).length = 16 + 2 * H := by rw [(turned_keeps (l := (L : Int)) hWl hk (fun i => h.num i)).2]; exact hl
  have HRen : Hid (∀ u, St B G u s H L (turned H W) → Calls Tryz.prog 66 #[.pointer (some ⟨s, 0, none⟩), .int .i64 8, .int .i64 8] u fun e w' => ∃ v, e = .returned v ∧ ErrIs w' (slotsGo H L (turned H W) 7 8).1 v ∧ St B G w' s H L (slotsGo H L (turned H W) 7 8).2 ∧ Below B u w' ∧ KeptG G u w') := Lib.hid (fun u x => grenew_is x 7 8 8 (by decide) (by omega))
  have HRgs := Lib.hid (fun u U (x : St B G u s H L U) (y : Lent B G u q rs) => grenewed_is x q rs ca y)
  have hwx : IntKind.i64.wrap (1 - hSp W) = 1 - hSp W := by rw [IntKind.wrap_i64]; omega
  have hstr : str H L W rs = if (slotsGo H L (turned H W) 7 8).1 = 0 then ((regsGo H L (slotsGo H L (turned H W) 7 8).2 rs rs.length).1, regO (regsGo H L (slotsGo H L (turned H W) 7 8).2 rs rs.length), (regsGo H L (slotsGo H L (turned H W) 7 8).2 rs rs.length).2.2) else ((slotsGo H L (turned H W) 7 8).1, [], (slotsGo H L (turned H W) 7 8).2) := by
    rw [str, if_neg (by rw [hk]; decide), if_neg hg]
    by_cases e : (slotsGo H L (turned H W) 7 8).1 = 0
    · rw [if_pos e, if_pos e]
      by_cases e2 : (regsGo H L (slotsGo H L (turned H W) 7 8).2 rs rs.length).1 = 0
      · rw [if_pos e2, regO, if_pos e2]
      · rw [if_neg e2, regO, if_neg e2]
    · rw [if_neg e, if_neg e]
  rw [hstr]
  clear hstr h hq hk f1 f2 f3 f4 f5 f6 hge hl hWl kt hlt
  generalize turned (H : Int) W = U0 at *
  generalize slotsGo (H : Int) (L : Int) U0 7 8 = X at *
  obtain ⟨x, U1⟩ := X
  have HRen : Hid (∀ u, St B G u s H L U0 → Calls Tryz.prog 66 #[.pointer (some ⟨s, 0, none⟩), .int .i64 8, .int .i64 8] u fun e w' => ∃ v, e = .returned v ∧ ErrIs w' x v ∧ St B G w' s H L U1 ∧ Below B u w' ∧ KeptG G u w') := HRen
  show Calls _ _ _ _ fun e w' => ∃ r v, e = .returned (.tuple #[r, v]) ∧ ErrIs w' (if x = 0 then ((regsGo H L U1 rs rs.length).1, regO (regsGo H L U1 rs rs.length), (regsGo H L U1 rs rs.length).2.2) else (x, [], U1)).1 v ∧ St B (fun k => G k ∨ r.ownBlock = some k) w' s H L (if x = 0 then ((regsGo H L U1 rs rs.length).1, regO (regsGo H L U1 rs rs.length), (regsGo H L U1 rs rs.length).2.2) else (x, [], U1)).2.2 ∧ Below B w w' ∧ KeptG G w w' ∧ w'.ownsRow w.heap.size 3 1 r (if x = 0 then ((regsGo H L U1 rs rs.length).1, regO (regsGo H L U1 rs rs.length), (regsGo H L U1 rs rs.length).2.2) else (x, [], U1)).2.1.length (vals (if x = 0 then ((regsGo H L U1 rs rs.length).1, regO (regsGo H L U1 rs rs.length), (regsGo H L U1 rs rs.length).2.2) else (x, [], U1)).2.1)
  by_cases e0 : x = 0
  · subst e0
    rw [if_pos rfl]
    have HRgs := Lib.hid (fun u (x : St B G u s H L U1) (y : Lent B G u q rs) => HRgs.out u U1 x y)
    generalize regsGo (H : Int) (L : Int) U1 rs rs.length = Y at *
    generalize regO Y = out at *
    obtain ⟨y1, y2, y3⟩ := Y
    show Calls _ _ _ _ fun e w' => ∃ r v, e = .returned (.tuple #[r, v]) ∧ ErrIs w' y1 v ∧ St B (fun k => G k ∨ r.ownBlock = some k) w' s H L y3 ∧ Below B w w' ∧ KeptG G w w' ∧ w'.ownsRow w.heap.size 3 1 r out.length (vals out)
    generalize 16 + (1 - hSp W) * (H : Int) = bs at *
    generalize hSp W = x0 at *
    generalize hFr W = x1 at *
    generalize hGc W = x2 at *
    generalize hSc W = x3 at *
    go_enter Tryz.func33, Tryz.ntmps33
    go_wp2_with (first
      | (go_at_call 37; refine HQg.out.mono ?_; rintro e w1 ⟨rfl, b1⟩; have H1 := Lib.hid b1; clear b1)
      | (go_at_call 28; refine (HGet.out _ H1.out).mono ?_; rintro e w2 ⟨rfl, b2⟩; have H2 := Lib.hid (geo_next H1.out b2); have HS := Lib.hid (SaK.made (HH.out.below H2.out) x0 x1 x2 x3); obtain ⟨c0, c1, c2, c3, c4, c5⟩ := HS.out.c; clear b2)
      | (go_at_call 43; refine (HR.out _).mono ?_; rintro e w3 ⟨rfl, b3⟩; replace HS := Lib.hid (HS.out.below b3); clear b3 c0 c1 c2 c3 c4 c5; obtain ⟨c0, c1, c2, c3, c4, c5⟩ := HS.out.c)
      | (go_at_call 44; refine (HBs.out _).mono ?_; rintro e w4 ⟨rfl, b4⟩; have H4 := Lib.hid (HS.out.end HH.out H2.out b4); clear b4 c0 c1 c2 c3 c4 c5)
      | (go_at_call 54; refine (HSet.out _ H4.out.1).mono ?_; rintro e w5 ⟨rfl, h5, b5, k5⟩; have H5 := Lib.hid (And.intro h5 (And.intro (H4.out.2.1.trans b5) (H4.out.2.2.trans k5))); clear h5 b5 k5)
      | (go_at_call 66; refine (HRen.out _ H5.out.1).mono ?_; rintro e w6 ⟨v6, rfl, he6, h6, b6, k6⟩; obtain rfl := he6.nil; have H6 := Lib.hid (And.intro h6 (And.intro (H5.out.2.1.trans b6) (H5.out.2.2.trans k6))); clear he6 h6 b6 k6)
      | (go_at_call 67; refine (HRgs.out _ H6.out.1 (HQ.out.turn H6.out.2.1 H6.out.2.2)).mono ?_; rintro e w7 ⟨r7, v7, rfl, he7, h7, b7, k7, o7⟩; have H7 := Lib.hid (And.intro he7 (And.intro h7 (And.intro (H6.out.2.1.trans b7) (And.intro (H6.out.2.2.trans k7) (own_base o7 H6.out.2.1.size))))); clear he7 h7 b7 k7 o7)
      | (go_at_call 64; refine (in_err y1 _ _ _ H7.out.1).mono ?_; rintro e w8 ⟨v8, rfl, b8, he8⟩; have H8 := Lib.hid (And.intro he8 b8); clear b8 he8))
    go_ret2
    obtain ⟨q1, q2, q3⟩ := H7.out.2.1.on H8.out.2
    exact ⟨_, v8, rfl, H8.out.1, q1, H7.out.2.2.1.trans q2, H7.out.2.2.2.1.trans (q3.mono (fun k g => .inl g)), own_below H7.out.2.2.2.2 H8.out.2⟩
  · rw [if_neg e0]
    clear HRgs
    show Calls _ _ _ _ fun e w' => ∃ r v, e = .returned (.tuple #[r, v]) ∧ ErrIs w' x v ∧ St B (fun k => G k ∨ r.ownBlock = some k) w' s H L U1 ∧ Below B w w' ∧ KeptG G w w' ∧ w'.ownsRow w.heap.size 3 1 r 0 []
    generalize 16 + (1 - hSp W) * (H : Int) = bs at *
    generalize hSp W = x0 at *
    generalize hFr W = x1 at *
    generalize hGc W = x2 at *
    generalize hSc W = x3 at *
    go_enter Tryz.func33, Tryz.ntmps33
    go_wp2_with (first
      | (go_at_call 37; refine HQg.out.mono ?_; rintro e w1 ⟨rfl, b1⟩; have H1 := Lib.hid b1; clear b1)
      | (go_at_call 28; refine (HGet.out _ H1.out).mono ?_; rintro e w2 ⟨rfl, b2⟩; have H2 := Lib.hid (geo_next H1.out b2); have HS := Lib.hid (SaK.made (HH.out.below H2.out) x0 x1 x2 x3); obtain ⟨c0, c1, c2, c3, c4, c5⟩ := HS.out.c; clear b2)
      | (go_at_call 43; refine (HR.out _).mono ?_; rintro e w3 ⟨rfl, b3⟩; replace HS := Lib.hid (HS.out.below b3); clear b3 c0 c1 c2 c3 c4 c5; obtain ⟨c0, c1, c2, c3, c4, c5⟩ := HS.out.c)
      | (go_at_call 44; refine (HBs.out _).mono ?_; rintro e w4 ⟨rfl, b4⟩; have H4 := Lib.hid (HS.out.end HH.out H2.out b4); clear b4 c0 c1 c2 c3 c4 c5)
      | (go_at_call 54; refine (HSet.out _ H4.out.1).mono ?_; rintro e w5 ⟨rfl, h5, b5, k5⟩; have H5 := Lib.hid (And.intro h5 (And.intro (H4.out.2.1.trans b5) (H4.out.2.2.trans k5))); clear h5 b5 k5)
      | (go_at_call 66; refine (HRen.out _ H5.out.1).mono ?_; rintro e w6 ⟨v6, rfl, he6, h6, b6, k6⟩; have HE := Lib.hid he6; obtain ⟨tv, vv, rfl⟩ := he6.iface e0; have H6 := Lib.hid (And.intro h6 (And.intro (H5.out.2.1.trans b6) (H5.out.2.2.trans k6))); clear he6 h6 b6 k6)
      | (go_at_call 64; refine (in_err x _ _ _ HE.out).mono ?_; rintro e w8 ⟨v8, rfl, b8, he8⟩; have H8 := Lib.hid (And.intro he8 (H6.out.1.on b8)); clear b8 he8))
    go_ret2
    exact ⟨.slice none 0 0, v8, rfl, H8.out.1, H8.out.2.1.noRow, H6.out.2.1.trans H8.out.2.2.1, H6.out.2.2.trans H8.out.2.2.2, World.ownsRow_nil _ _ _ _⟩
theorem gstart_is (h : St B G w s H L W) (q : Option Addr) (rs : List Int) (ca : Nat) (hq : Lent B G w q rs) : Calls Tryz.prog 33 #[.pointer (some ⟨s, 0, none⟩), .slice q rs.length ca] w fun e w' => ∃ r v, e = .returned (.tuple #[r, v]) ∧ ErrIs w' (str H L W rs).1 v ∧ St B (fun k => G k ∨ r.ownBlock = some k) w' s H L (str H L W rs).2.2 ∧ Below B w w' ∧ KeptG G w w' ∧ w'.ownsRow w.heap.size 3 1 r (str H L W rs).2.1.length (vals (str H L W rs).2.1) := by
  by_cases hk : hOk H L W = true
  · by_cases hg : hGc W = 1
    · have e : (str H L W rs).2 = ([], W) := by rw [str, if_neg (by rw [hk]; decide), if_pos hg]
      rw [e]
      exact (gstart_no h q rs ca (.inr ⟨hk, hg⟩)).mono fun e w' ⟨v, h1, h2, h3, h4, h5⟩ => ⟨_, v, h1, h2, h3.noRow, h4, h5, World.ownsRow_nil _ _ _ _⟩
    · exact gstart_yes h q rs ca hq hk hg
  · have hk0 : hOk H L W = false := by simpa using hk
    have e : (str H L W rs).2 = ([], W) := by rw [str, if_pos hk0]
    rw [e]
    exact (gstart_no h q rs ca (.inl hk0)).mono fun e w' ⟨v, h1, h2, h3, h4, h5⟩ => ⟨_, v, h1, h2, h3.noRow, h4, h5, World.ownsRow_nil _ _ _ _⟩
end
end Go.Proofs.YtbghglkplbnnkaaGreatDoor
-- GcScan
namespace Go.Proofs.YtbghglkplbnnkaaGreatDoor
open Go.RowKit Sec
open Go.Proofs.YtbghglkplbnnkaaGreatDoor.Bk

section
variable {B : Nat} {G : Nat → Prop} {w : World} {s H L : Nat} {W : List Int}
set_option maxRecDepth 100000 in
set_option maxHeartbeats 8000000 in
theorem gscan_is (h : St B G w s H L W) (hk : hOk H L W = true) (hg : hGc W = 1) : Calls Tryz.prog 70 #[.pointer (some ⟨s, 0, none⟩)] w fun e w' => ∃ v, e = .returned v ∧ ErrIs w' (scn H L W).1 v ∧ St B G w' s H L (scn H L W).2 ∧ Below B w w' ∧ KeptG G w w' := by
  obtain ⟨f1, f2, f3, ⟨f4, f4'⟩, f5⟩ := fine_yes hk
  have hq := geOk_yes f1
  have hl := h.len
  have hb : 0 ≤ hSp W * (H : Int) ∧ hSp W * (H : Int) ≤ H := by rcases f2 with e | e <;> rw [e] <;> omega
  have h5 : 16 + hSp W * (H : Int) ≤ hSc W ∧ hSc W ≤ hFr W := by
    rcases f5 with f5 | f5
    · omega
    · exact f5.2
  obtain ⟨a, ha⟩ := Int.eq_ofNat_of_zero_le (show 0 ≤ hSc W by omega)
  have hp := shOk_yes (pr_range (W.getD a 0))
  have hnum := h.num a
  have HH := Lib.hid h
  have HGet := Lib.hid (spget_st h)
  have HCell : Hid (∀ B G u, St B G u s H L W → Calls Tryz.prog 35 #[.pointer (some ⟨s, 0, none⟩), .int .i64 (a : Int)] u fun e w' => e = .returned (.int .i64 (W.getD a 0)) ∧ Below u.heap.size u w') := Lib.hid (fun B G u x => by
    have := st_get x (a : Int)
    rwa [wk_at x.len (by omega), Int.toNat_natCast] at this)
  have HPa := Lib.hid (oparse_is (W.getD a 0) (by omega) (by omega))
  have HSz := Lib.hid (fun u => osize_is (prS (W.getD a 0)) (prW (W.getD a 0)) u)
  rw [szI, if_pos (pr_range (W.getD a 0))] at HSz
  have hscn : scn H L W = if hdOk (W.getD a 0) = false ∨ hFr W < (a : Int) + 1 + prS (W.getD a 0) + prW (W.getD a 0) then (4, W) else if (slotsGo H L W a (prS (W.getD a 0)).toNat).1 = 0 then (0, (slotsGo H L W a (prS (W.getD a 0)).toNat).2.set 3 ((a : Int) + 1 + prS (W.getD a 0) + prW (W.getD a 0))) else slotsGo H L W a (prS (W.getD a 0)).toNat := by
    rw [scn, ha, Int.toNat_natCast]
  rw [hscn]
  rw [ha] at HGet h5
  have ha16 : 16 ≤ (a : Int) := by omega
  have haf : (a : Int) ≤ 816 := by omega
  by_cases bad : hdOk (W.getD a 0) = false ∨ hFr W < (a : Int) + 1 + prS (W.getD a 0) + prW (W.getD a 0)
  · rw [if_pos bad]
    have hcase : hdOk (W.getD a 0) = false ∨ (hdOk (W.getD a 0) = true ∧ hFr W < (a : Int) + (1 + prS (W.getD a 0) + prW (W.getD a 0))) := by
      cases q : hdOk (W.getD a 0)
      · exact .inl rfl
      · exact .inr ⟨rfl, by rcases bad with e | e; rw [q] at e; cases e; omega⟩
    clear h f1 f2 f3 f4 f4' f5 hq hl hb h5 hnum hscn bad ha hk hg
    generalize hSp W = x0 at *
    generalize hFr W = x1 at *
    generalize hGc W = x2 at *
    generalize prS (W.getD a 0) = ps at *
    generalize prW (W.getD a 0) = pw at *
    generalize hdOk (W.getD a 0) = t at *
    generalize W.getD a 0 = cv at *
    rcases hcase with rfl | ⟨rfl, hbad⟩
    all_goals
      go_enter Tryz.func70, Tryz.ntmps70
      go_wp2_with (first
        | (go_at_call 28; refine HGet.out.mono ?_; rintro e w1 ⟨rfl, b1⟩; have H1 := Lib.hid b1; have HN := Lib.hid (NwS.made (HH.out.below b1) x0 x1 x2 (a : Int)); obtain ⟨p0, p1, p2, p3⟩ := HN.out.1; clear b1)
        | (go_at_call 35; refine (HCell.out _ _ _ HN.out.2.s).mono ?_; rintro e w2 ⟨rfl, b2⟩; replace HN := Lib.hid (NwS.keep HN.out b2); clear b2 p0 p1 p2 p3; obtain ⟨p0, p1, p2, p3⟩ := HN.out.1)
        | (go_at_call 94; refine (HPa.out _).mono ?_; rintro e w3 ⟨rfl, hw⟩; obtain rfl := hw.symm))
      go_quiet (first | (go_at_call 52; with_reducible exact Calls.quiet_of_same (HSz.out _)))
      have HP := Lib.hid (NwS.keep HN.out (bel_drewN (Below.refl _ _) nq))
      clear HN p0 p1 p2 p3
      obtain ⟨p0, p1, p2, p3⟩ := HP.out.1
      go_wp2_with (first
        | (go_at_call 65; refine (new_err 4 (a : Int) _).mono ?_; rintro e w5 ⟨v5, rfl, b5, he5⟩; have H5 := Lib.hid (And.intro he5 b5); clear b5 he5)
        | (go_at_call 64; refine (in_err 4 _ _ _ H5.out.1).mono ?_; rintro e w6 ⟨v6, rfl, b6, he6⟩; have H6 := Lib.hid (And.intro he6 (geo_next H5.out.2 b6)); clear b6 he6))
      go_ret
      exact ⟨v6, rfl, H6.out.1, (HP.out.2.below H6.out.2).end HH.out H1.out⟩
  · rw [if_neg bad]
    have hd : hdOk (W.getD a 0) = true := by
      cases q : hdOk (W.getD a 0)
      · exact absurd (.inl q) bad
      · rfl
    have hr : ¬ hFr W < (a : Int) + (1 + prS (W.getD a 0) + prW (W.getD a 0)) := fun q => bad (.inr (by omega))
    obtain ⟨P, hP⟩ := Int.eq_ofNat_of_zero_le hp.1
    rw [hP, Int.toNat_natCast]
    rw [hP] at HPa HSz hr
    rw [hd] at HPa
    have hWl : (W.length : Int) = 16 + 2 * (H : Int) := by omega
    have kp : Keeps H L W W := ⟨rfl, hk, fun i => h.num i, rfl, rfl, Int.le_refl _⟩
    obtain ⟨k1, k2, k3⟩ := slotsGo_keeps kp hWl (a := a) (by omega) P
    have k4 := k1.scan hWl (x := (a : Int) + (1 + (P : Int) + prW (W.getD a 0))) (k1.gc.trans hg) (by rw [k2, ha]; omega) (by omega)
    have hPb : (P : Int) ≤ 15 := by omega
    have hn1 : a + 1 + P ≤ 16 + 2 * H := by omega
    have HRen : Hid (∀ B G u, St B G u s H L W → Calls Tryz.prog 66 #[.pointer (some ⟨s, 0, none⟩), .int .i64 ((a : Int) + 1), .int .i64 (P : Int)] u fun e w' => ∃ v, e = .returned v ∧ ErrIs w' (slotsGo H L W a P).1 v ∧ St B G w' s H L (slotsGo H L W a P).2 ∧ Below B u w' ∧ KeptG G u w') := Lib.hid (fun B G u x => grenew_is x a P _ rfl hn1)
    generalize slotsGo (H : Int) (L : Int) W a P = X at *
    have hwb : 0 ≤ prW (W.getD a 0) ∧ prW (W.getD a 0) ≤ 30 := ⟨hp.2.2.1, hp.2.2.2⟩
    by_cases e0 : X.1 = 0
    · rw [if_pos e0]
      rw [e0] at HRen
      have HSet : Hid (∀ B G u, St B G u s H L X.2 → Calls Tryz.prog 54 #[.pointer (some ⟨s, 0, none⟩), .agg #[.int .i64 (hSp X.2), .int .i64 (hFr X.2), .int .i64 (hGc X.2), .int .i64 ((a : Int) + (1 + (P : Int) + prW (W.getD a 0)))]] u fun e w' => e = .returned (.bool true) ∧ St B G w' s H L (X.2.set 3 ((a : Int) + 1 + (P : Int) + prW (W.getD a 0))) ∧ Below B u w' ∧ KeptG G u w') := Lib.hid (fun B G u x => by
        have := spset_scan x k4.1.ok
        rwa [show (a : Int) + (1 + (P : Int) + prW (W.getD a 0)) = (a : Int) + 1 + (P : Int) + prW (W.getD a 0) by omega] at this ⊢)
      have HGe2 : Hid (∀ B G u, St B G u s H L X.2 → Calls Tryz.prog 28 #[.pointer (some ⟨s, 0, none⟩)] u fun e w' => e = .returned (.agg #[.int .i64 (hSp X.2), .int .i64 (hFr X.2), .int .i64 (hGc X.2), .int .i64 (hSc X.2)]) ∧ Below u.heap.size u w') := Lib.hid (fun B G u x => spget_st x)
      clear h f1 f2 f3 f4 f4' f5 hq hl hb h5 hnum hscn bad ha hk hg hp hP hd hWl kp k1 k2 k3 k4 e0
      generalize X.2.set 3 ((a : Int) + 1 + (P : Int) + prW (W.getD a 0)) = U2 at *
      generalize X.2 = U at *
      generalize hSp U = y0 at *
      generalize hFr U = y1 at *
      generalize hGc U = y2 at *
      generalize hSc U = y3 at *
      generalize hSp W = x0 at *
      generalize hFr W = x1 at *
      generalize hGc W = x2 at *
      generalize prW (W.getD a 0) = pw at *
      generalize W.getD a 0 = cv at *
      go_enter Tryz.func70, Tryz.ntmps70
      go_wp2_with (first
        | (go_at_call 28; refine HGet.out.mono ?_; rintro e w1 ⟨rfl, b1⟩; have H1 := Lib.hid b1; have HN := Lib.hid (NwS.made (HH.out.below b1) x0 x1 x2 (a : Int)); obtain ⟨p0, p1, p2, p3⟩ := HN.out.1; clear b1)
        | (go_at_call 35; refine (HCell.out _ _ _ HN.out.2.s).mono ?_; rintro e w2 ⟨rfl, b2⟩; replace HN := Lib.hid (NwS.keep HN.out b2); clear b2 p0 p1 p2 p3; obtain ⟨p0, p1, p2, p3⟩ := HN.out.1)
        | (go_at_call 94; refine (HPa.out _).mono ?_; rintro e w3 ⟨rfl, hw⟩; obtain rfl := hw.symm))
      go_quiet (first | (go_at_call 52; with_reducible exact Calls.quiet_of_same (HSz.out _)))
      have HP := Lib.hid (NwS.keep HN.out (bel_drewN (Below.refl _ _) nq))
      clear HN p0 p1 p2 p3 HPa HSz HCell HGet
      obtain ⟨p0, p1, p2, p3⟩ := HP.out.1
      have HB1 := Lib.hid (And.intro (Nat.le_trans HH.out.le H1.out.size) (HH.out.off H1.out))
      go_upto_region 11 with (first
        | (go_at_call 66; refine (HRen.out _ _ _ HP.out.2.s).mono ?_; rintro e w5 ⟨v5, rfl, he5, h5, b5, k5⟩; obtain rfl := he5.nil; have HP2 := Lib.hid (HP.out.2.step h5 b5 k5); clear he5 h5 b5 k5 p0 p1 p2 p3 HP HRen)
        | (go_at_call 28; refine (HGe2.out _ _ _ HP2.out.s).mono ?_; rintro e w6 ⟨rfl, b6⟩; have HP3 := Lib.hid (HP2.out.below b6); obtain ⟨_, p0, p1, p2, p3, q0, q1, q2, q3⟩ := HP3.out.r; clear b6 HP2))
      have HP4 := Lib.hid (HP3.out.put4 (sp' := y0) (fr' := y1) (gc' := y2) (sc' := y3) HB1.out.1 HB1.out.2)
      clear p0 p1 p2 p3 q0 q1 q2 q3 HP3
      generalize (((w6.setCell ⟨w1.heap.size, 0, none⟩ (.int .i64 y0)).setCell ⟨w1.heap.size, 1, none⟩ (.int .i64 y1)).setCell ⟨w1.heap.size, 2, none⟩ (.int .i64 y2)).setCell ⟨w1.heap.size, 3, none⟩ (.int .i64 y3) = wx at *
      obtain ⟨_, _, _, _, p3, _, _, _, q3⟩ := HP4.out.r
      go_upto_region 12 with fail
      have HP5 := Lib.hid (HP4.out.putSc HB1.out.1 HB1.out.2 ((a : Int) + (1 + (P : Int) + pw)))
      clear p3 q3 HP4
      generalize wx.setCell ⟨w1.heap.size, 3, none⟩ (.int .i64 ((a : Int) + (1 + (P : Int) + pw))) = wy at *
      obtain ⟨_, p0, p1, p2, p3, _⟩ := HP5.out.r
      go_wp2_with (first
        | (go_at_call 54; refine (HSet.out _ _ _ HP5.out.s).mono ?_; rintro e w7 ⟨rfl, h7, b7, k7⟩; have HP6 := Lib.hid (HP5.out.step h7 b7 k7); clear h7 b7 k7))
      go_ret
      exact ⟨.nilIface, rfl, errNil _, HP6.out.end HH.out H1.out⟩
    · rw [if_neg e0]
      clear h f1 f2 f3 f4 f4' f5 hq hl hb h5 hnum hscn bad ha hk hg hp hP hd hWl kp k1 k2 k3 k4
      generalize X.2 = U at *
      generalize X.1 = x at *
      generalize hSp W = x0 at *
      generalize hFr W = x1 at *
      generalize hGc W = x2 at *
      generalize prW (W.getD a 0) = pw at *
      generalize W.getD a 0 = cv at *
      go_enter Tryz.func70, Tryz.ntmps70
      go_wp2_with (first
        | (go_at_call 28; refine HGet.out.mono ?_; rintro e w1 ⟨rfl, b1⟩; have H1 := Lib.hid b1; have HN := Lib.hid (NwS.made (HH.out.below b1) x0 x1 x2 (a : Int)); obtain ⟨p0, p1, p2, p3⟩ := HN.out.1; clear b1)
        | (go_at_call 35; refine (HCell.out _ _ _ HN.out.2.s).mono ?_; rintro e w2 ⟨rfl, b2⟩; replace HN := Lib.hid (NwS.keep HN.out b2); clear b2 p0 p1 p2 p3; obtain ⟨p0, p1, p2, p3⟩ := HN.out.1)
        | (go_at_call 94; refine (HPa.out _).mono ?_; rintro e w3 ⟨rfl, hw⟩; obtain rfl := hw.symm))
      go_quiet (first | (go_at_call 52; with_reducible exact Calls.quiet_of_same (HSz.out _)))
      have HP := Lib.hid (NwS.keep HN.out (bel_drewN (Below.refl _ _) nq))
      clear HN p0 p1 p2 p3 HPa HSz HCell HGet
      obtain ⟨p0, p1, p2, p3⟩ := HP.out.1
      go_wp2_with (first
        | (go_at_call 66; refine (HRen.out _ _ _ HP.out.2.s).mono ?_; rintro e w5 ⟨v5, rfl, he5, h5, b5, k5⟩; have HE := Lib.hid he5; obtain ⟨tv, vv, rfl⟩ := he5.iface e0; have HP2 := Lib.hid (HP.out.2.step h5 b5 k5); clear he5 h5 b5 k5 p0 p1 p2 p3 HP HRen)
        | (go_at_call 64; refine (in_err x _ _ _ HE.out).mono ?_; rintro e w6 ⟨v6, rfl, b6, he6⟩; have HP3 := Lib.hid (And.intro he6 (HP2.out.below b6)); clear b6 he6))
      go_ret
      exact ⟨v6, rfl, HP3.out.1, HP3.out.2.end HH.out H1.out⟩
end
end Go.Proofs.YtbghglkplbnnkaaGreatDoor
-- GcStp
namespace Go.Proofs.YtbghglkplbnnkaaGreatDoor
open Go.RowKit Sec
open Go.Proofs.YtbghglkplbnnkaaGreatDoor.Bk

section
variable {B : Nat} {G : Nat → Prop} {w : World} {s H L : Nat} {W : List Int}
set_option maxRecDepth 100000 in
set_option maxHeartbeats 8000000 in
theorem gstep_no (h : St B G w s H L W) (n : Int) (hno : n < 0 ∨ (0 ≤ n ∧ hOk H L W = false) ∨ (0 ≤ n ∧ hOk H L W = true ∧ hGc W = 0)) : Calls Tryz.prog 36 #[.pointer (some ⟨s, 0, none⟩), .int .i64 n] w fun e w' => ∃ v, e = .returned (.tuple #[.bool (stp H L W n).1, v]) ∧ ErrIs w' (stp H L W n).2.1 v ∧ St B G w' s H L W ∧ Below B w w' ∧ KeptG G w w' := by
  have HH := Lib.hid h
  have HQ := Lib.hid (fun B G u (x : St B G u s H L W) => st_geo x)
  have HGet := Lib.hid (spget_st h)
  have HR := Lib.hid (fun u => spright_is H L (hSp W) (hFr W) (hGc W) (hSc W) u)
  rw [show fineB H L (hSp W) (hFr W) (hGc W) (hSc W) = hOk H L W from rfl] at HR
  have hcase : (n < 0 ∧ (stp H L W n).1 = false ∧ (stp H L W n).2.1 = 1) ∨ (¬ n < 0 ∧ hOk H L W = false ∧ (stp H L W n).1 = false ∧ (stp H L W n).2.1 = 1) ∨ (¬ n < 0 ∧ hOk H L W = true ∧ hGc W = 0 ∧ (stp H L W n).1 = true ∧ (stp H L W n).2.1 = 0) := by
    rcases hno with e | ⟨e, f⟩ | ⟨e, f, g⟩
    · have : stp H L W n = (false, 1, W) := if_pos (.inr e)
      rw [this]
      exact .inl ⟨e, rfl, rfl⟩
    · have : stp H L W n = (false, 1, W) := if_pos (.inl f)
      rw [this]
      exact .inr (.inl ⟨by omega, f, rfl, rfl⟩)
    · have : stp H L W n = (true, 0, W) := by rw [stp, if_neg (by rw [f]; simp; omega), if_pos g]
      rw [this]
      exact .inr (.inr ⟨by omega, f, g, rfl, rfl⟩)
  have HS0 := Lib.hid (h.on (Below.refl _ _))
  clear h hno
  generalize (stp H L W n).1 = o at *
  generalize (stp H L W n).2.1 = ee at *
  generalize hOk H L W = t at *
  generalize hSp W = x0 at *
  generalize hFr W = x1 at *
  generalize hGc W = x2 at *
  generalize hSc W = x3 at *
  rcases hcase with ⟨hn, rfl, rfl⟩ | ⟨hn, rfl, rfl, rfl⟩ | ⟨hn, rfl, rfl, rfl, rfl⟩
  · go_enter Tryz.func36, Tryz.ntmps36
    go_wp2_with fail
    go_loopw [1] (fun i wr => i = .int .i64 n ∧ wr = w) (fun _ _ => 0)
    case atStart => exact ⟨rfl, rfl⟩
    case round =>
      obtain ⟨rfl, rfl⟩ := hrel
      go_wp2_with (first
        | (go_at_call 28; refine HGet.out.mono ?_; rintro e w1 ⟨rfl, b1⟩; have H1 := Lib.hid b1; have HN := Lib.hid (NwS.made (HH.out.below b1) x0 x1 x2 x3); clear b1)
        | (go_at_call 65; refine (new_err 1 n _).mono ?_; rintro e w4 ⟨v4, rfl, b4, he4⟩; have H4 := Lib.hid (And.intro he4 b4); clear b4 he4)
        | (go_at_call 64; refine (in_err 1 _ _ _ H4.out.1).mono ?_; rintro e w5 ⟨v5, rfl, b5, he5⟩; have H5 := Lib.hid (And.intro he5 (geo_next H4.out.2 b5)); clear b5 he5))
      go_ret2
      exact ⟨v5, rfl, H5.out.1, (HN.out.2.below H5.out.2).end HH.out H1.out⟩
  · go_enter Tryz.func36, Tryz.ntmps36
    go_wp2_with fail
    go_loopw [1] (fun i wr => i = .int .i64 n ∧ wr = w) (fun _ _ => 0)
    case atStart => exact ⟨rfl, rfl⟩
    case round =>
      obtain ⟨rfl, rfl⟩ := hrel
      go_wp2_with (first
        | (go_at_call 28; refine HGet.out.mono ?_; rintro e w1 ⟨rfl, b1⟩; have H1 := Lib.hid b1; have HN := Lib.hid (NwS.made (HH.out.below b1) x0 x1 x2 x3); clear b1))
      go_region_held3 (fun u => (u.cell? ⟨w1.heap.size, 0, none⟩ = some (.int .i64 x0) ∧ u.cell? ⟨w1.heap.size, 1, none⟩ = some (.int .i64 x1) ∧ u.cell? ⟨w1.heap.size, 2, none⟩ = some (.int .i64 x2) ∧ u.cell? ⟨w1.heap.size, 3, none⟩ = some (.int .i64 x3)) ∧ NwS B G w1 s H L x0 x1 x2 x3 W u) (first
          | assumption
          | exact HN.out
          | exact NwS.keep HN.out (Below.refl _ _).drew
          | exact NwS.keep (by assumption) b4
          | exact NwS.keep (by assumption) b5) (first
        | (go_at_call 37; refine (HQ.out _ _ _ (by first | exact HN.out.2.s | exact (HN.out.2.below (Below.refl _ _).drew).s)).mono ?_; rintro e w4 ⟨rfl, b4⟩)
        | (go_at_call 43; refine (HR.out _).mono ?_; rintro e w5 ⟨rfl, b5⟩))
      rename_i hH
      have HP := Lib.hid hH
      clear hH HN
      obtain ⟨p0, p1, p2, p3⟩ := HP.out.1
      go_wp2_with (first
        | (go_at_call 65; refine (new_err 1 n _).mono ?_; rintro e w6 ⟨v6, rfl, b6, he6⟩; have H6 := Lib.hid (And.intro he6 b6); clear b6 he6)
        | (go_at_call 64; refine (in_err 1 _ _ _ H6.out.1).mono ?_; rintro e w7 ⟨v7, rfl, b7, he7⟩; have H7 := Lib.hid (And.intro he7 (geo_next H6.out.2 b7)); clear b7 he7))
      go_ret2
      exact ⟨v7, rfl, H7.out.1, (HP.out.2.below H7.out.2).end HH.out H1.out⟩
  · go_enter Tryz.func36, Tryz.ntmps36
    go_wp2_with fail
    go_loopw [1] (fun i wr => i = .int .i64 n ∧ wr = w) (fun _ _ => 0)
    case atStart => exact ⟨rfl, rfl⟩
    case round =>
      obtain ⟨rfl, rfl⟩ := hrel
      go_wp2_with (first
        | (go_at_call 28; refine HGet.out.mono ?_; rintro e w1 ⟨rfl, b1⟩; have H1 := Lib.hid b1; have HN := Lib.hid (NwS.made (HH.out.below b1) x0 x1 0 x3); clear b1))
      go_region_held3 (fun u => (u.cell? ⟨w1.heap.size, 0, none⟩ = some (.int .i64 x0) ∧ u.cell? ⟨w1.heap.size, 1, none⟩ = some (.int .i64 x1) ∧ u.cell? ⟨w1.heap.size, 2, none⟩ = some (.int .i64 0) ∧ u.cell? ⟨w1.heap.size, 3, none⟩ = some (.int .i64 x3)) ∧ NwS B G w1 s H L x0 x1 0 x3 W u) (first
          | assumption
          | exact HN.out
          | exact NwS.keep HN.out (Below.refl _ _).drew
          | exact NwS.keep (by assumption) b4
          | exact NwS.keep (by assumption) b5) (first
        | (go_at_call 37; refine (HQ.out _ _ _ (by first | exact HN.out.2.s | exact (HN.out.2.below (Below.refl _ _).drew).s)).mono ?_; rintro e w4 ⟨rfl, b4⟩)
        | (go_at_call 43; refine (HR.out _).mono ?_; rintro e w5 ⟨rfl, b5⟩))
      rename_i hH
      have HP := Lib.hid hH
      clear hH HN
      obtain ⟨p0, p1, p2, p3⟩ := HP.out.1
      go_wp2_with fail
      go_ret2
      exact ⟨.nilIface, rfl, errNil _, HP.out.2.end HH.out H1.out⟩
set_option maxRecDepth 100000 in
set_option maxHeartbeats 16000000 in
theorem gstep_on (h : St B G w s H L W) (n : Int) (hn0 : 0 ≤ n) (hnm : n ≤ 9223372036854775807) (hk : hOk H L W = true) (hg : hGc W = 1) : Calls Tryz.prog 36 #[.pointer (some ⟨s, 0, none⟩), .int .i64 n] w fun e w' => ∃ v, e = .returned (.tuple #[.bool (stp H L W n).1, v]) ∧ ErrIs w' (stp H L W n).2.1 v ∧ St B G w' s H L (stp H L W n).2.2 ∧ Below B w w' ∧ KeptG G w w' := by
  have hl := h.len
  have hWl : (W.length : Int) = 16 + 2 * (H : Int) := by omega
  obtain ⟨Z, hZ⟩ : ∃ Z, Z = stp (H : Int) (L : Int) W n := ⟨_, rfl⟩
  rw [← hZ]
  have HZ : Hid (Z = stepGo H L 1000 W n) := Lib.hid (by rw [hZ, stp, if_neg (by rw [hk]; simp; omega), if_neg (by rw [hg]; decide)])
  have HW := Lib.hid (And.intro hWl hg)
  have HKe : Hid (Keeps H L W W) := Lib.hid ⟨rfl, hk, fun i => h.num i, rfl, rfl, Int.le_refl _⟩
  have HSc : Hid (16 + hSp W * (H : Int) + (1000 - ((1000 : Nat) : Int)) ≤ hSc W) := Lib.hid (by
    obtain ⟨f1, f2, f3, f4, f5⟩ := fine_yes hk
    rcases f5 with f5 | f5
    · omega
    · have := f5.2.1
      omega)
  have HQ := Lib.hid (fun B G V u (x : St B G u s H L V) => st_geo x)
  have HS0 := Lib.hid (h.on (Below.refl _ _))
  clear h hk hg hZ hl hWl
  go_enter Tryz.func36, Tryz.ntmps36
  go_wp2_with fail
  go_loopw [1] (fun i wr => ∃ (V : List Int) (m : Int) (j : Nat), i = .int .i64 m ∧ 0 ≤ m ∧ m ≤ 9223372036854775807 ∧ Hid (Z = stepGo H L j V m) ∧ Hid (Keeps H L W V) ∧ Hid (16 + hSp W * (H : Int) + (1000 - (j : Int)) ≤ hSc V) ∧ Hid (St B G wr s H L V ∧ Below B w wr ∧ KeptG G w wr)) (fun i _ => (intOf i).toNat)
  case atStart => exact ⟨W, n, 1000, rfl, hn0, hnm, HZ, HKe, HSc, HS0⟩
  case round =>
    clear HZ HKe HSc HS0 hn0 hnm
    obtain ⟨V, m, j, rfl, hm0, hmm, HZ, HKe, HF, HS⟩ := hrel
    obtain ⟨a, fr, ha, hfr, a16, af, frl, hgV, hj⟩ := step_facts HW.out.1 HW.out.2 HKe.out HF.out
    obtain ⟨j, rfl⟩ : ∃ j', j = j' + 1 := ⟨j - 1, by omega⟩
    have okV := HKe.out.ok
    have HGet := Lib.hid (spget_st HS.out.1)
    have HR := Lib.hid (fun u => spright_is H L (hSp V) (hFr V) (hGc V) (hSc V) u)
    rw [show fineB H L (hSp V) (hFr V) (hGc V) (hSc V) = hOk H L V from rfl, okV] at HR
    rw [hgV] at HR HGet
    have hmn : ¬ m < 0 := by omega
    by_cases n1 : hSc V = hFr V
    · have HZ1 : Hid (Z = (true, 0, (V.set 2 0).set 3 0)) := Lib.hid (by rw [HZ.out, stepGo, if_pos n1])
      have HSet : Hid (∀ B G u, St B G u s H L V → Calls Tryz.prog 54 #[.pointer (some ⟨s, 0, none⟩), .agg #[.int .i64 (hSp V), .int .i64 (hFr V), .int .i64 0, .int .i64 0]] u fun e w' => e = .returned (.bool true) ∧ St B G w' s H L ((V.set 2 0).set 3 0) ∧ Below B u w' ∧ KeptG G u w') := Lib.hid (fun B G u x => by
        have hx := x.len
        obtain ⟨f1, f2, f3, f4, f5⟩ := fine_yes okV
        have ok : fineB H L (hSp V) (hFr V) 0 0 = true := by
          rw [fineB, f1, Bool.true_and, decide_eq_true (show 0 ≤ hSp V ∧ hSp V ≤ 1 ∧ (0 : Int) ≤ 0 ∧ (0 : Int) ≤ 1 by omega), Bool.true_and, decide_eq_true f4, Bool.true_and, decide_eq_true (show (0 : Int) = 0 ∧ (0 : Int) = 0 from ⟨rfl, rfl⟩), Bool.true_or]
        have := spset_yes x _ _ _ _ ok
        rwa [ctl_over (by omega)] at this)
      have HH := Lib.hid HS.out.1
      rw [n1] at HR HGet
      clear ha hfr a16 af frl hgV hj okV n1 HF HKe HZ
      generalize (V.set 2 0).set 3 0 = V2 at *
      generalize hSp V = x0 at *
      generalize hFr V = x1 at *
      go_wp2_with (first
        | (go_at_call 28; refine HGet.out.mono ?_; rintro e w1 ⟨rfl, b1⟩; have H1 := Lib.hid b1; have HN := Lib.hid (NwS.made (HH.out.below b1) x0 x1 1 x1); clear b1))
      go_region_held3 (fun u => (u.cell? ⟨w1.heap.size, 0, none⟩ = some (.int .i64 x0) ∧ u.cell? ⟨w1.heap.size, 1, none⟩ = some (.int .i64 x1) ∧ u.cell? ⟨w1.heap.size, 2, none⟩ = some (.int .i64 1) ∧ u.cell? ⟨w1.heap.size, 3, none⟩ = some (.int .i64 x1)) ∧ NwS B G w1 s H L x0 x1 1 x1 V u) (first
          | assumption
          | exact HN.out
          | exact NwS.keep HN.out (Below.refl _ _).drew
          | exact NwS.keep (by assumption) b4
          | exact NwS.keep (by assumption) b5) (first
        | (go_at_call 37; refine (HQ.out _ _ _ _ (by first | exact HN.out.2.s | exact (HN.out.2.below (Below.refl _ _).drew).s)).mono ?_; rintro e w4 ⟨rfl, b4⟩)
        | (go_at_call 43; refine (HR.out _).mono ?_; rintro e w5 ⟨rfl, b5⟩))
      rename_i hH
      have HP := Lib.hid hH
      clear hH HN
      obtain ⟨p0, p1, p2, p3⟩ := HP.out.1
      have HB1 := Lib.hid (And.intro (Nat.le_trans HH.out.le H1.out.size) (HH.out.off H1.out))
      obtain ⟨_, _, _, _, _, _, _, q2, q3⟩ := HP.out.2.r
      go_upto_region 10 with fail
      have HP4 := Lib.hid ((HP.out.2.putGc HB1.out.1 HB1.out.2 0).putSc HB1.out.1 HB1.out.2 0)
      generalize (w5.setCell ⟨w1.heap.size, 2, none⟩ (.int .i64 0)).setCell ⟨w1.heap.size, 3, none⟩ (.int .i64 0) = wy at *
      clear p0 p1 p2 p3 q2 q3 HP
      obtain ⟨_, p0, p1, p2, p3, _⟩ := HP4.out.r
      go_wp2_with (first
        | (go_at_call 54; refine (HSet.out _ _ _ HP4.out.s).mono ?_; rintro e w7 ⟨rfl, h7, b7, k7⟩; have HP5 := Lib.hid (HP4.out.step h7 b7 k7); clear h7 b7 k7))
      go_ret2
      rw [HZ1.out]
      obtain ⟨e1, e2, e3⟩ := HP5.out.end HH.out H1.out
      exact ⟨.nilIface, rfl, errNil _, e1, HS.out.2.1.trans e2, HS.out.2.2.trans e3⟩
    · have HH := Lib.hid HS.out.1
      by_cases m0 : m = 0
      · have HZ1 : Hid (Z = (false, 0, V)) := Lib.hid (by rw [HZ.out, stepGo, if_neg n1, if_pos m0])
        subst m0
        clear ha hfr a16 af frl hgV hj okV HF HKe HZ hm0 hmm
        generalize hSp V = x0 at *
        generalize hFr V = x1 at *
        generalize hSc V = x3 at *
        go_wp2_with (first
          | (go_at_call 28; refine HGet.out.mono ?_; rintro e w1 ⟨rfl, b1⟩; have H1 := Lib.hid b1; have HN := Lib.hid (NwS.made (HH.out.below b1) x0 x1 1 x3); clear b1))
        go_region_held3 (fun u => (u.cell? ⟨w1.heap.size, 0, none⟩ = some (.int .i64 x0) ∧ u.cell? ⟨w1.heap.size, 1, none⟩ = some (.int .i64 x1) ∧ u.cell? ⟨w1.heap.size, 2, none⟩ = some (.int .i64 1) ∧ u.cell? ⟨w1.heap.size, 3, none⟩ = some (.int .i64 x3)) ∧ NwS B G w1 s H L x0 x1 1 x3 V u) (first
            | assumption
            | exact HN.out
            | exact NwS.keep HN.out (Below.refl _ _).drew
            | exact NwS.keep (by assumption) b4
            | exact NwS.keep (by assumption) b5) (first
          | (go_at_call 37; refine (HQ.out _ _ _ _ (by first | exact HN.out.2.s | exact (HN.out.2.below (Below.refl _ _).drew).s)).mono ?_; rintro e w4 ⟨rfl, b4⟩)
          | (go_at_call 43; refine (HR.out _).mono ?_; rintro e w5 ⟨rfl, b5⟩))
        rename_i hH
        have HP := Lib.hid hH
        clear hH HN
        obtain ⟨p0, p1, p2, p3⟩ := HP.out.1
        go_wp2_with fail
        go_ret2
        rw [HZ1.out]
        obtain ⟨e1, e2, e3⟩ := HP.out.2.end HH.out H1.out
        exact ⟨.nilIface, rfl, errNil _, e1, HS.out.2.1.trans e2, HS.out.2.2.trans e3⟩
      · have HZ2 := Lib.hid (HZ.out.trans (stepGo_scn n1 m0))
        have HScn := Lib.hid (fun u (x : St B G u s H L V) => gscan_is x okV hgV)
        have HNext : Hid ((scn H L V).1 = 0 → Keeps H L W (scn H L V).2 ∧ 16 + hSp W * (H : Int) + (1000 - (j : Int)) ≤ hSc (scn H L V).2) := Lib.hid (fun e => by
          obtain ⟨k1, k2⟩ := scn_keeps HKe.out HW.out.1 HW.out.2 (by omega) e
          refine ⟨k1, ?_⟩
          have := HF.out
          omega)
        have hm1 : 1 ≤ m := by omega
        clear ha hfr a16 af frl hgV hj okV HF HKe HZ hm0
        generalize scn (H : Int) (L : Int) V = Y at *
        obtain ⟨y1, y2⟩ := Y
        have HZ2 : Hid (Z = if y1 = 0 then stepGo H L j y2 (m - 1) else (false, y1, y2)) := HZ2
        have HScn : Hid (∀ u, St B G u s H L V → Calls Tryz.prog 70 #[.pointer (some ⟨s, 0, none⟩)] u fun e w' => ∃ v, e = .returned v ∧ ErrIs w' y1 v ∧ St B G w' s H L y2 ∧ Below B u w' ∧ KeptG G u w') := HScn
        have HNext : Hid (y1 = 0 → Keeps H L W y2 ∧ 16 + hSp W * (H : Int) + (1000 - (j : Int)) ≤ hSc y2) := HNext
        generalize hSp V = x0 at *
        generalize hFr V = x1 at *
        generalize hSc V = x3 at *
        go_wp2_with (first
          | (go_at_call 28; refine HGet.out.mono ?_; rintro e w1 ⟨rfl, b1⟩; have H1 := Lib.hid b1; have HN := Lib.hid (NwS.made (HH.out.below b1) x0 x1 1 x3); clear b1))
        go_region_held3 (fun u => (u.cell? ⟨w1.heap.size, 0, none⟩ = some (.int .i64 x0) ∧ u.cell? ⟨w1.heap.size, 1, none⟩ = some (.int .i64 x1) ∧ u.cell? ⟨w1.heap.size, 2, none⟩ = some (.int .i64 1) ∧ u.cell? ⟨w1.heap.size, 3, none⟩ = some (.int .i64 x3)) ∧ NwS B G w1 s H L x0 x1 1 x3 V u) (first
            | assumption
            | exact HN.out
            | exact NwS.keep HN.out (Below.refl _ _).drew
            | exact NwS.keep (by assumption) b4
            | exact NwS.keep (by assumption) b5) (first
          | (go_at_call 37; refine (HQ.out _ _ _ _ (by first | exact HN.out.2.s | exact (HN.out.2.below (Below.refl _ _).drew).s)).mono ?_; rintro e w4 ⟨rfl, b4⟩)
          | (go_at_call 43; refine (HR.out _).mono ?_; rintro e w5 ⟨rfl, b5⟩))
        rename_i hH
        have HP := Lib.hid hH
        clear hH HN
        obtain ⟨p0, p1, p2, p3⟩ := HP.out.1
        have HE := Lib.hid (HP.out.2.end HH.out H1.out)
        by_cases e0 : y1 = 0
        · subst e0
          have HZ3 := Lib.hid (HZ2.out.trans (if_pos rfl))
          have HN3 := Lib.hid (HNext.out rfl)
          clear HZ2 HNext
          go_wp2_with (first
            | (go_at_call 70; refine (HScn.out _ HE.out.1).mono ?_; rintro e w6 ⟨v6, rfl, he6, h6, b6, k6⟩; obtain rfl := he6.nil; have H6 := Lib.hid (And.intro h6 (And.intro ((HS.out.2.1.trans HE.out.2.1).trans b6) ((HS.out.2.2.trans HE.out.2.2).trans k6))); clear he6 h6 b6 k6))
          exact ⟨⟨y2, m - 1, j, by go_num, by omega, by omega, HZ3, Lib.hid HN3.out.1, Lib.hid HN3.out.2, H6⟩, by simp [intOf]; omega⟩
        · go_wp2_with (first
            | (go_at_call 70; refine (HScn.out _ HE.out.1).mono ?_; rintro e w6 ⟨v6, rfl, he6, h6, b6, k6⟩; have HEr := Lib.hid he6; obtain ⟨tv, vv, rfl⟩ := he6.iface e0; have H6 := Lib.hid (And.intro h6 (And.intro ((HS.out.2.1.trans HE.out.2.1).trans b6) ((HS.out.2.2.trans HE.out.2.2).trans k6))); clear he6 h6 b6 k6)
            | (go_at_call 64; refine (in_err y1 _ _ _ HEr.out).mono ?_; rintro e w7 ⟨v7, rfl, b7, he7⟩; have H7 := Lib.hid (And.intro he7 (H6.out.1.on b7)); clear b7 he7))
          go_ret2
          rw [HZ2.out, if_neg e0]
          exact ⟨v7, rfl, H7.out.1, H7.out.2.1, H6.out.2.1.trans H7.out.2.2.1, H6.out.2.2.trans H7.out.2.2.2⟩
theorem gstep_is (h : St B G w s H L W) (n : Int) (hnm : n ≤ 9223372036854775807) : Calls Tryz.prog 36 #[.pointer (some ⟨s, 0, none⟩), .int .i64 n] w fun e w' => ∃ v, e = .returned (.tuple #[.bool (stp H L W n).1, v]) ∧ ErrIs w' (stp H L W n).2.1 v ∧ St B G w' s H L (stp H L W n).2.2 ∧ Below B w w' ∧ KeptG G w w' := by
  have go : (n < 0 ∨ (0 ≤ n ∧ hOk H L W = false) ∨ (0 ≤ n ∧ hOk H L W = true ∧ hGc W = 0)) ∨ (0 ≤ n ∧ hOk H L W = true ∧ hGc W = 1) := by
    by_cases hn : n < 0
    · exact .inl (.inl hn)
    · cases hk : hOk H L W
      · exact .inl (.inr (.inl ⟨by omega, rfl⟩))
      · obtain ⟨f1, f2, f3, f4, f5⟩ := fine_yes hk
        rcases f5 with f5 | f5
        · exact .inl (.inr (.inr ⟨by omega, rfl, f5.1⟩))
        · exact .inr ⟨by omega, rfl, f5.1⟩
  rcases go with e | ⟨e1, e2, e3⟩
  · have e4 : (stp H L W n).2.2 = W := by
      rcases e with e | ⟨_, e⟩ | ⟨e0, e, e1⟩
      · rw [stp, if_pos (.inr e)]
      · rw [stp, if_pos (.inl e)]
      · rw [stp, if_neg (by rw [e]; simp; omega), if_pos e1]
    rw [e4]
    exact gstep_no h n e
  · exact gstep_on h n e1 hnm e2 e3
end
end Go.Proofs.YtbghglkplbnnkaaGreatDoor
-- GcCalls
namespace Go.Proofs.YtbghglkplbnnkaaGreatDoor
open Go.RowKit Sec
open Go.Proofs.YtbghglkplbnnkaaGreatDoor.Bk

theorem run_some_nil (w : World) (a : Addr) (n c : Nat) : (binOp .eql 24 (.slice (some a) n c) (.slice none 0 0)).run Tryz.prog w = .ok (.bool false) w := by
  simp [binOp, run_equal_slice_nil w 24 3 (some a) n c Tryz.underlying24]
theorem run_nil_nil (w : World) : (binOp .eql 24 (.slice none 0 0) (.slice none 0 0)).run Tryz.prog w = .ok (.bool true) w := by
  simp [binOp, run_equal_slice_nil w 24 3 none 0 0 Tryz.underlying24]
set_option maxRecDepth 100000 in
set_option maxHeartbeats 4000000 in
theorem gclone_is {w : World} (q : Option Addr) (rs : List Int) (ca : Nat) (hl : LiesAt w q (vals rs)) (hn : rs.length ≤ 1000) (hc : q = none → ca = 0) : Calls Tryz.prog 74 #[.slice q rs.length ca] w fun e w' => ∃ r, e = .returned r ∧ Below w.heap.size w w' ∧ w'.ownsRow w.heap.size 3 1 r rs.length (vals rs) := by
  cases q with
  | none =>
    obtain rfl := hc rfl
    obtain rfl : rs = [] := by
      cases rs with
      | nil => rfl
      | cons z l =>
        obtain ⟨b, e, _⟩ := hl 0 (.int .i64 z) rfl
        cases e
    clear hl hn
    have hr := run_nil_nil
    go_enter Tryz.func74, Tryz.ntmps74
    go_wp2_with fail
    go_ret
    exact ⟨_, rfl, Below.refl _ _, World.ownsRow_nil _ _ _ _⟩
  | some a =>
    obtain ⟨i0, hi, hz0, hz1, hz2⟩ := info_parts (show (Tryz.prog.info? 3).map (fun i => (i.zero, i.size, i.bytes)) = some (some (.int .i64 0), 1, 8) by kernel_rfl)
    have HI := Lib.hid (And.intro hi (And.intro hz0 (And.intro hz1 hz2)))
    clear hi hz0 hz1 hz2
    have y : Below w.heap.size w (w.alloc (.cells #[] 3)) := (Below.refl _ _).alloc (Nat.le_refl _) _
    have HL := Lib.hid (hl.below y)
    have HO : Hid ((w.alloc (.cells #[] 3)).ownsRow w.heap.size 3 1 (.slice (some ⟨w.heap.size, 0, none⟩) 0 0) 0 []) := Lib.hid ⟨rfl, .inr ⟨w.heap.size, 0, #[], rfl, Nat.le_refl _, heap_alloc_new w _, Nat.le_refl _, Nat.zero_le _, rfl, rfl⟩⟩
    have HY := Lib.hid y
    have HV : Hid (∀ u ∈ vals rs, u.oneCell' = true) := Lib.hid (fun u hu => by
      obtain ⟨z, _, rfl⟩ := List.mem_map.1 hu
      rfl)
    have hm1 : 0 + rs.length ≤ maxLen := by unfold maxLen; omega
    have hm2 : (0 + rs.length) * 8 ≤ 140737488355328 := by omega
    have HVl : Hid ((vals rs).length = rs.length * 1) := Lib.hid (by simp [vals])
    clear hl y hc
    have hr := fun u => run_some_nil u a rs.length ca
    generalize rs.length = m at *
    generalize vals rs = vs at *
    go_enter Tryz.func74, Tryz.ntmps74
    go_wp2_with (first
      | (refine wpList_append_row rfl (.tmp 5) (.tmp 6) 24 rfl w.heap.size 3 i0 _ 1 8 Tryz.underlying24 HI.out.1 HI.out.2.1 HI.out.2.2.1 HI.out.2.2.2 rfl (by decide) _ 0 [] rfl HO.out (some a) m ca vs rfl HVl.out HL.out HV.out hm1 hm2 HY.out.size ?_
         intro v5 w5 own5 gr5
         have H5 := Lib.hid (And.intro own5 gr5)
         clear own5 gr5))
    go_ret
    refine ⟨v5, rfl, HY.out.grown H5.out.2 HY.out.size (fun k q => (HO.out.lt k q).1), ?_⟩
    have := H5.out.1
    rwa [Nat.zero_add, List.nil_append] at this
section
variable {B : Nat} {G : Nat → Prop} {w : World} {s H L : Nat} {W : List Int}
set_option maxRecDepth 100000 in
set_option maxHeartbeats 2000000 in
theorem gOn_is (h : St B G w s H L W) : Calls Tryz.prog 12 #[.pointer (some ⟨s, 0, none⟩)] w fun e w' => e = .returned (.bool (decide (hGc W = 1))) ∧ Below w.heap.size w w' := by
  have hl := h.len
  have HG : Hid (Calls Tryz.prog 35 #[.pointer (some ⟨s, 0, none⟩), .int .i64 2] w fun e w' => e = .returned (.int .i64 (hGc W)) ∧ Below w.heap.size w w') := Lib.hid (by
    have := st_get h 2
    rwa [(wk_ctl (W := W) (N := 16 + 2 * H) (by omega)).2.2.1] at this)
  clear h hl
  generalize hGc W = x at *
  by_cases c : x = 1
  · rw [decide_eq_true c]
    subst c
    go_enter Tryz.func12, Tryz.ntmps12
    go_wp2_with (go_at_call 35; refine HG.out.mono ?_; rintro e w1 ⟨rfl, b1⟩; have H1 := Lib.hid b1; clear b1)
    go_ret
    exact ⟨rfl, H1.out⟩
  · rw [decide_eq_false c]
    go_enter Tryz.func12, Tryz.ntmps12
    go_wp2_with (go_at_call 35; refine HG.out.mono ?_; rintro e w1 ⟨rfl, b1⟩; have H1 := Lib.hid b1; clear b1)
    go_ret
    exact ⟨by simp [c], H1.out⟩
set_option maxRecDepth 100000 in
set_option maxHeartbeats 2000000 in
theorem gStart_is (h : St B G w s H L W) (q : Option Addr) (rs : List Int) (ca : Nat) (hq : Lent B G w q rs) : Calls Tryz.prog 11 #[.pointer (some ⟨s, 0, none⟩), .slice q rs.length ca] w fun e w' => ∃ r, e = .returned (.tuple #[r, .int .i64 (str H L W rs).1]) ∧ St B (fun k => G k ∨ r.ownBlock = some k) w' s H L (str H L W rs).2.2 ∧ Below B w w' ∧ KeptG G w w' ∧ w'.ownsRow w.heap.size 3 1 r (str H L W rs).2.1.length (vals (str H L W rs).2.1) := by
  have HF := Lib.hid (gstart_is h q rs ca hq)
  clear h hq
  generalize str (H : Int) (L : Int) W rs = X at *
  go_enter Tryz.func11, Tryz.ntmps11
  go_wp2_with (first
    | (go_at_call 33; refine HF.out.mono ?_; rintro e w1 ⟨r1, v1, rfl, he1, h1, b1, k1, o1⟩; have H1 := Lib.hid (And.intro h1 (And.intro b1 (And.intro k1 (And.intro o1 he1)))); clear h1 b1 k1 o1 he1)
    | (go_at_call 34; refine (errno_err X.1 _ _ H1.out.2.2.2.2 H1.out.1.ty.1).mono ?_; rintro e w2 ⟨rfl, b2⟩; have H2 := Lib.hid b2; clear b2))
  go_ret2
  obtain ⟨q1, q2, q3⟩ := H1.out.1.on H2.out
  exact ⟨_, rfl, q1, H1.out.2.1.trans q2, H1.out.2.2.1.trans (q3.mono fun _ g => .inl g), own_below H1.out.2.2.2.1 H2.out⟩
set_option maxRecDepth 100000 in
set_option maxHeartbeats 2000000 in
theorem gStep_is (h : St B G w s H L W) (n : Int) (hnm : n ≤ 9223372036854775807) : Calls Tryz.prog 13 #[.pointer (some ⟨s, 0, none⟩), .int .i64 n] w fun e w' => e = .returned (.tuple #[.bool (stp H L W n).1, .int .i64 (stp H L W n).2.1]) ∧ St B G w' s H L (stp H L W n).2.2 ∧ Below B w w' ∧ KeptG G w w' := by
  have HF := Lib.hid (gstep_is h n hnm)
  clear h hnm
  generalize stp (H : Int) (L : Int) W n = X at *
  go_enter Tryz.func13, Tryz.ntmps13
  go_wp2_with (first
    | (go_at_call 36; refine HF.out.mono ?_; rintro e w1 ⟨v1, rfl, he1, h1, b1, k1⟩; have H1 := Lib.hid (And.intro h1 (And.intro b1 (And.intro k1 he1))); clear h1 b1 k1 he1)
    | (go_at_call 34; refine (errno_err X.2.1 _ _ H1.out.2.2.2 H1.out.1.ty.1).mono ?_; rintro e w2 ⟨rfl, b2⟩; have H2 := Lib.hid b2; clear b2))
  go_ret2
  obtain ⟨q1, q2, q3⟩ := H1.out.1.on H2.out
  exact ⟨rfl, q1, H1.out.2.1.trans q2, H1.out.2.2.1.trans q3⟩
theorem alg_off {h l : Int} {W rs : List Int} (hoff : ¬ hGc W = 1) : alg h l W rs = if (str h l W rs).1 = 0 then (if (stp h l (str h l W rs).2.2 10000).2.1 = 0 then (0, (str h l W rs).2.1, (stp h l (str h l W rs).2.2 10000).2.2) else ((stp h l (str h l W rs).2.2 10000).2.1, [], (stp h l (str h l W rs).2.2 10000).2.2)) else ((str h l W rs).1, [], (str h l W rs).2.2) := by
  rw [alg, if_neg hoff]
set_option maxRecDepth 100000 in
set_option maxHeartbeats 8000000 in
theorem gall_off (h : St B G w s H L W) (q : Option Addr) (rs : List Int) (ca : Nat) (hq : Lent B G w q rs) (hc : q = none → ca = 0) (hoff : ¬ hGc W = 1) : Calls Tryz.prog 59 #[.pointer (some ⟨s, 0, none⟩), .slice q rs.length ca] w fun e w' => ∃ r v, e = .returned (.tuple #[r, v]) ∧ ErrIs w' (alg H L W rs).1 v ∧ St B (fun k => G k ∨ r.ownBlock = some k) w' s H L (alg H L W rs).2.2 ∧ Below B w w' ∧ KeptG G w w' ∧ w'.ownsRow w.heap.size 3 1 r (alg H L W rs).2.1.length (vals (alg H L W rs).2.1) := by
  rw [alg_off hoff]
  have HLe := Lib.hid h.le
  have HC := Lib.hid (gclone_is q rs ca hq.l hq.n hc)
  have HOn := Lib.hid (fun u (y : Below w.heap.size w u) => gOn_is (h.below y))
  rw [decide_eq_false hoff] at HOn
  have HSt := Lib.hid (fun u (y : Below w.heap.size w u) => gstart_is (h.below y) q rs ca (hq.turn (h.on y).2.1 (h.on y).2.2))
  have HK := Lib.hid (fun u (y : Below w.heap.size w u) => h.on y)
  have HSp := Lib.hid (fun B G u U (x : St B G u s H L U) => gstep_is x 10000 (by decide))
  clear h hq hoff hc
  generalize str (H : Int) (L : Int) W rs = X at *
  obtain ⟨x, o1, U1⟩ := X
  have HSt : Hid (∀ u, Below w.heap.size w u → Calls Tryz.prog 33 #[.pointer (some ⟨s, 0, none⟩), .slice q rs.length ca] u fun e w' => ∃ r v, e = .returned (.tuple #[r, v]) ∧ ErrIs w' x v ∧ St B (fun k => G k ∨ r.ownBlock = some k) w' s H L U1 ∧ Below B u w' ∧ KeptG G u w' ∧ w'.ownsRow u.heap.size 3 1 r o1.length (vals o1)) := HSt
  show Calls _ _ _ _ fun e w' => ∃ r v, e = .returned (.tuple #[r, v]) ∧ ErrIs w' (if x = 0 then (if (stp H L U1 10000).2.1 = 0 then (0, o1, (stp H L U1 10000).2.2) else ((stp H L U1 10000).2.1, [], (stp H L U1 10000).2.2)) else (x, [], U1)).1 v ∧ St B (fun k => G k ∨ r.ownBlock = some k) w' s H L (if x = 0 then (if (stp H L U1 10000).2.1 = 0 then (0, o1, (stp H L U1 10000).2.2) else ((stp H L U1 10000).2.1, [], (stp H L U1 10000).2.2)) else (x, [], U1)).2.2 ∧ Below B w w' ∧ KeptG G w w' ∧ w'.ownsRow w.heap.size 3 1 r (if x = 0 then (if (stp H L U1 10000).2.1 = 0 then (0, o1, (stp H L U1 10000).2.2) else ((stp H L U1 10000).2.1, [], (stp H L U1 10000).2.2)) else (x, [], U1)).2.1.length (vals (if x = 0 then (if (stp H L U1 10000).2.1 = 0 then (0, o1, (stp H L U1 10000).2.2) else ((stp H L U1 10000).2.1, [], (stp H L U1 10000).2.2)) else (x, [], U1)).2.1)
  by_cases e0 : x = 0
  · subst e0
    rw [if_pos rfl]
    have HSp := Lib.hid (fun B G u (x : St B G u s H L U1) => HSp.out B G u U1 x)
    generalize stp (H : Int) (L : Int) U1 10000 = Y at *
    obtain ⟨y0, y1, U2⟩ := Y
    have HSp : Hid (∀ B G u, St B G u s H L U1 → Calls Tryz.prog 36 #[.pointer (some ⟨s, 0, none⟩), .int .i64 10000] u fun e w' => ∃ v, e = .returned (.tuple #[.bool y0, v]) ∧ ErrIs w' y1 v ∧ St B G w' s H L U2 ∧ Below B u w' ∧ KeptG G u w') := HSp
    show Calls _ _ _ _ fun e w' => ∃ r v, e = .returned (.tuple #[r, v]) ∧ ErrIs w' (if y1 = 0 then (0, o1, U2) else (y1, [], U2)).1 v ∧ St B (fun k => G k ∨ r.ownBlock = some k) w' s H L (if y1 = 0 then (0, o1, U2) else (y1, [], U2)).2.2 ∧ Below B w w' ∧ KeptG G w w' ∧ w'.ownsRow w.heap.size 3 1 r (if y1 = 0 then (0, o1, U2) else (y1, [], U2)).2.1.length (vals (if y1 = 0 then (0, o1, U2) else (y1, [], U2)).2.1)
    by_cases e1 : y1 = 0
    · subst e1
      rw [if_pos rfl]
      show Calls _ _ _ _ fun e w' => ∃ r v, e = .returned (.tuple #[r, v]) ∧ ErrIs w' 0 v ∧ St B (fun k => G k ∨ r.ownBlock = some k) w' s H L U2 ∧ Below B w w' ∧ KeptG G w w' ∧ w'.ownsRow w.heap.size 3 1 r o1.length (vals o1)
      go_enter Tryz.func59, Tryz.ntmps59
      go_wp2_with (first
        | (go_at_call 74; refine HC.out.mono ?_; rintro e w1 ⟨r1, rfl, b1, _⟩; have H1 := Lib.hid b1; clear b1)
        | (go_at_call 12; refine (HOn.out _ H1.out).mono ?_; rintro e w2 ⟨rfl, b2⟩; have H2 := Lib.hid (geo_next H1.out b2); clear b2)
        | (go_at_call 33; refine (HSt.out _ H2.out).mono ?_; rintro e w3 ⟨r3, v3, rfl, he3, h3, b3, k3, o3⟩; obtain rfl := he3.nil; have H3 := Lib.hid (And.intro h3 (And.intro ((HK.out _ H2.out).2.1.trans b3) (And.intro ((HK.out _ H2.out).2.2.trans k3) (own_base o3 H2.out.size)))); clear he3 h3 b3 k3 o3)
        | (go_at_call 36; refine (HSp.out _ _ _ H3.out.1).mono ?_; rintro e w4 ⟨v4, rfl, he4, h4, b4, k4⟩; obtain rfl := he4.nil; have H4 := Lib.hid (And.intro h4 (And.intro (H3.out.2.1.trans b4) (And.intro (H3.out.2.2.1.trans (k4.mono fun _ g => .inl g)) (hb_same H3.out.2.2.2 (fun g hg => k4 g (.inr hg)))))); clear he4 h4 b4 k4))
      go_ret2
      exact ⟨_, .nilIface, rfl, errNil _, H4.out⟩
    · rw [if_neg e1]
      show Calls _ _ _ _ fun e w' => ∃ r v, e = .returned (.tuple #[r, v]) ∧ ErrIs w' y1 v ∧ St B (fun k => G k ∨ r.ownBlock = some k) w' s H L U2 ∧ Below B w w' ∧ KeptG G w w' ∧ w'.ownsRow w.heap.size 3 1 r 0 []
      go_enter Tryz.func59, Tryz.ntmps59
      go_wp2_with (first
        | (go_at_call 74; refine HC.out.mono ?_; rintro e w1 ⟨r1, rfl, b1, _⟩; have H1 := Lib.hid b1; clear b1)
        | (go_at_call 12; refine (HOn.out _ H1.out).mono ?_; rintro e w2 ⟨rfl, b2⟩; have H2 := Lib.hid (geo_next H1.out b2); clear b2)
        | (go_at_call 33; refine (HSt.out _ H2.out).mono ?_; rintro e w3 ⟨r3, v3, rfl, he3, h3, b3, k3, o3⟩; obtain rfl := he3.nil; have H3 := Lib.hid (And.intro h3 (And.intro ((HK.out _ H2.out).2.1.trans b3) ((HK.out _ H2.out).2.2.trans k3))); clear he3 h3 b3 k3 o3)
        | (go_at_call 36; refine (HSp.out _ _ _ H3.out.1).mono ?_; rintro e w4 ⟨v4, rfl, he4, h4, b4, k4⟩; have HE := Lib.hid he4; obtain ⟨tv, vv, rfl⟩ := he4.iface e1; have H4 := Lib.hid (And.intro h4 (And.intro (H3.out.2.1.trans b4) (H3.out.2.2.trans (k4.mono fun _ g => .inl g)))); clear he4 h4 b4 k4)
        | (go_at_call 64; refine (in_err y1 _ _ _ HE.out).mono ?_; rintro e w5 ⟨v5, rfl, b5, he5⟩; have H5 := Lib.hid (And.intro he5 (H4.out.1.on b5)); clear b5 he5))
      go_ret2
      exact ⟨.slice none 0 0, v5, rfl, H5.out.1, (H5.out.2.1.mono (fun _ g => .inl g) : St B G _ s H L U2).noRow, H4.out.2.1.trans H5.out.2.2.1, H4.out.2.2.trans (H5.out.2.2.2.mono fun _ g => .inl g), World.ownsRow_nil _ _ _ _⟩
  · rw [if_neg e0]
    clear HSp
    show Calls _ _ _ _ fun e w' => ∃ r v, e = .returned (.tuple #[r, v]) ∧ ErrIs w' x v ∧ St B (fun k => G k ∨ r.ownBlock = some k) w' s H L U1 ∧ Below B w w' ∧ KeptG G w w' ∧ w'.ownsRow w.heap.size 3 1 r 0 []
    go_enter Tryz.func59, Tryz.ntmps59
    go_wp2_with (first
      | (go_at_call 74; refine HC.out.mono ?_; rintro e w1 ⟨r1, rfl, b1, _⟩; have H1 := Lib.hid b1; clear b1)
      | (go_at_call 12; refine (HOn.out _ H1.out).mono ?_; rintro e w2 ⟨rfl, b2⟩; have H2 := Lib.hid (geo_next H1.out b2); clear b2)
      | (go_at_call 33; refine (HSt.out _ H2.out).mono ?_; rintro e w3 ⟨r3, v3, rfl, he3, h3, b3, k3, o3⟩; have HE := Lib.hid he3; obtain ⟨tv, vv, rfl⟩ := he3.iface e0; have H3 := Lib.hid (And.intro (h3.mono (fun _ g => .inl g) : St B G _ s H L U1) (And.intro ((HK.out _ H2.out).2.1.trans b3) ((HK.out _ H2.out).2.2.trans k3))); clear he3 h3 b3 k3 o3)
      | (go_at_call 64; refine (in_err x _ _ _ HE.out).mono ?_; rintro e w5 ⟨v5, rfl, b5, he5⟩; have H5 := Lib.hid (And.intro he5 (H3.out.1.on b5)); clear b5 he5))
    go_ret2
    exact ⟨.slice none 0 0, v5, rfl, H5.out.1, H5.out.2.1.noRow, H3.out.2.1.trans H5.out.2.2.1, H3.out.2.2.trans H5.out.2.2.2, World.ownsRow_nil _ _ _ _⟩
set_option maxRecDepth 100000 in
set_option maxHeartbeats 2000000 in
theorem gAll_of {x : Int} {out V : List Int} {q : Option Addr} {n ca : Nat} (hF : Calls Tryz.prog 59 #[.pointer (some ⟨s, 0, none⟩), .slice q n ca] w fun e w' => ∃ r v, e = .returned (.tuple #[r, v]) ∧ ErrIs w' x v ∧ St B (fun k => G k ∨ r.ownBlock = some k) w' s H L V ∧ Below B w w' ∧ KeptG G w w' ∧ w'.ownsRow w.heap.size 3 1 r out.length (vals out)) :
    Calls Tryz.prog 29 #[.pointer (some ⟨s, 0, none⟩), .slice q n ca] w fun e w' => ∃ r, e = .returned (.tuple #[r, .int .i64 x]) ∧ St B (fun k => G k ∨ r.ownBlock = some k) w' s H L V ∧ Below B w w' ∧ KeptG G w w' ∧ w'.ownsRow w.heap.size 3 1 r out.length (vals out) := by
  have HF := Lib.hid hF
  clear hF
  go_enter Tryz.func29, Tryz.ntmps29
  go_wp2_with (first
    | (go_at_call 59; refine HF.out.mono ?_; rintro e w1 ⟨r1, v1, rfl, he1, h1, b1, k1, o1⟩; have H1 := Lib.hid (And.intro h1 (And.intro b1 (And.intro k1 (And.intro o1 he1)))); clear h1 b1 k1 o1 he1)
    | (go_at_call 34; refine (errno_err x _ _ H1.out.2.2.2.2 H1.out.1.ty.1).mono ?_; rintro e w2 ⟨rfl, b2⟩; have H2 := Lib.hid b2; clear b2))
  go_ret2
  obtain ⟨q1, q2, q3⟩ := H1.out.1.on H2.out
  exact ⟨_, rfl, q1, H1.out.2.1.trans q2, H1.out.2.2.1.trans (q3.mono fun _ g => .inl g), own_below H1.out.2.2.2.1 H2.out⟩
theorem gAll_off (h : St B G w s H L W) (q : Option Addr) (rs : List Int) (ca : Nat) (hq : Lent B G w q rs) (hc : q = none → ca = 0) (hoff : ¬ hGc W = 1) : Calls Tryz.prog 29 #[.pointer (some ⟨s, 0, none⟩), .slice q rs.length ca] w fun e w' => ∃ r, e = .returned (.tuple #[r, .int .i64 (alg H L W rs).1]) ∧ St B (fun k => G k ∨ r.ownBlock = some k) w' s H L (alg H L W rs).2.2 ∧ Below B w w' ∧ KeptG G w w' ∧ w'.ownsRow w.heap.size 3 1 r (alg H L W rs).2.1.length (vals (alg H L W rs).2.1) :=
  gAll_of (gall_off h q rs ca hq hc hoff)
end
end Go.Proofs.YtbghglkplbnnkaaGreatDoor
