import Derived.Test.YtbghglkplbnnkaaGreatDoorYGcG
import Derived.Test.YtbghglkplbnnkaaGreatDoorYGcC
import Derived.Test.YtbghglkplbnnkaaGreatDoorYAllocA
import Derived.Test.YtbghglkplbnnkaaGreatDoorYGcF
import Derived.Test.YtbghglkplbnnkaaGreatDoorYMadeA
import Derived.Test.YtbghglkplbnnkaaGreatDoorYHeapCheck
import Derived.Test.YtbghglkplbnnkaaGreatDoorYMade
import Derived.Test.YtbghglkplbnnkaaGreatDoorYEightA
import Derived.Test.YtbghglkplbnnkaaGreatDoorYFollowA
set_option linter.unusedVariables false
set_option linter.unusedSimpArgs false
-- GcMakesM
namespace Go.Proofs.YtbghglkplbnnkaaGreatDoor
open Go.RowKit

section
variable {H L : Nat} {V T O : List Int} {Z : Int → Int}
def MkI (H L : Nat) (V T : List Int) : Prop := (∃ O Z, Pr0 H L V T O Z) ∨ ∃ Z, Fin H L V T Z
theorem MkI.gi (x : MkI H L V T) : ∃ O Z, Gi H L V T O Z := by
  rcases x with ⟨O, Z, p⟩ | ⟨Z, f⟩
  · exact ⟨O, Z, p.gi⟩
  · exact ⟨[], Z, f.gi⟩
theorem MkI.ref (x : MkI H L V T) {c : Nat} (hc : IsRef V T c) {k : Int} (kv : k = 0 ∨ k ∈ T) : MkI H L (V.set c k) T := by
  rcases x with ⟨O, Z, p⟩ | ⟨Z, f⟩
  · exact .inl ⟨O, Z, p.setr hc kv⟩
  · refine .inr ⟨Z, f.gi.setr hc (kv.imp id .inl), ?_⟩
    have hc0 := f.gi.refC hc
    rw [← f.off, hGc, hGc, getD_set_ne (by omega)]
theorem MkI.word (x : MkI H L V T) {c : Nat} (hc : IsWord V T c) {v : Int} (h0 : 0 ≤ v) (h1 : v < 4294967296) : MkI H L (V.set c v) T := by
  rcases x with ⟨O, Z, p⟩ | ⟨Z, f⟩
  · exact .inl ⟨O, Z, p.setw hc h0 h1⟩
  · refine .inr ⟨Z, f.gi.setw hc h0 h1, ?_⟩
    have hc0 := f.gi.wordC hc
    rw [← f.off, hGc, hGc, getD_set_ne (by omega)]
theorem MkI.new (x : MkI H L V T) : (newE H L V 1 1 = 6 ∧ newW H L V 1 1 = V) ∨ (newE H L V 1 1 = 0 ∧ MkI H L (newW H L V 1 1) (T ++ [newA H L V 1 1]) ∧ prS ((newW H L V 1 1).getD (newA H L V 1 1).toNat 0) = 1 ∧ prW ((newW H L V 1 1).getD (newA H L V 1 1).toNat 0) = 1) := by
  obtain ⟨O, Z, g⟩ := x.gi
  have hg := g.geo
  rcases newE_three H L V 1 1 with ⟨_, q⟩ | ⟨e, _⟩ | ⟨e, ok, sh, room⟩
  · rw [g.ok] at q
    exact absurd q (by decide)
  · exact .inl ⟨e, (new_no (by rw [e]; decide)).1⟩
  · obtain ⟨a, n, m⟩ := new_yes (h := (H : Int)) (l := (L : Int)) (by have := g.len; omega) e
    obtain ⟨_, _, hd, _⟩ := g.new m
    have hb := hd_back sh
    refine .inr ⟨e, ?_, ?_, ?_⟩
    · rcases x with ⟨O, Z, p⟩ | ⟨Z, f⟩
      · have := p.new m
        rw [m.fr, ← m.ad] at this
        exact .inl ⟨O, Z, this⟩
      · rcases f.make 1 1 with ⟨_, f2⟩ | ⟨q, _⟩
        · exact .inr ⟨Z, f2⟩
        · exact absurd e q
    · rw [m.ad, Int.toNat_natCast, hd]
      exact hb.2.1
    · rw [m.ad, Int.toNat_natCast, hd]
      exact hb.2.2
theorem MkI.link (x : MkI H L V T) {a last k : Int} (ha : a ∈ T) (h1 : prS (V.getD a.toNat 0) = 1) (h2 : prW (V.getD a.toNat 0) = 1) (hl : last = 0 ∨ last ∈ T) (k0 : 0 ≤ k) (k1 : k < 4294967296) :
    ptE H L V a 0 last = 0 ∧ swE H L (ptW H L V a 0 last) a 0 k = 0 ∧ srE H L (swW H L (ptW H L V a 0 last) a 0 k) 7 a = 0 ∧ MkI H L (srW H L (swW H L (ptW H L V a 0 last) a 0 k) 7 a) T := by
  obtain ⟨O, Z, g⟩ := x.gi
  have a16 := (g.inT ha).2.1
  obtain ⟨e1, w1, r1⟩ := g.put (i := 0) ha (Int.le_refl _) (by rw [h1]; decide) hl
  have x1 := x.ref r1 hl
  rw [← w1] at x1
  obtain ⟨O1, Z1, g1⟩ := x1.gi
  have hh : (ptW H L V a 0 last).getD a.toNat 0 = V.getD a.toNat 0 := by rw [w1, getD_set_ne (by omega)]
  obtain ⟨e2, w2, r2⟩ := g1.sword (i := 0) (v := k) ha (Int.le_refl _) (by rw [hh, h2]; decide) (by unfold hbNum; simp; omega)
  have x2 := x1.word r2 k0 k1
  rw [← w2] at x2
  obtain ⟨O2, Z2, g2⟩ := x2.gi
  obtain ⟨e3, w3, r3⟩ := g2.sroot (i := 7) (by decide) (by decide) (.inr ha)
  have x3 := x2.ref r3 (.inr ha)
  rw [← w3] at x3
  exact ⟨e1, e2, e3, x3⟩
theorem Gi.slots6 (g : Gi H L V T O Z) {a n : Nat} (hc : ∀ j, j < n → IsRef V T (a + 1 + j)) : ∀ i, i ≤ n → ∃ T2, Gi H L (slotsGo H L V a i).2 T2 O Z
  | 0, _ => ⟨T, g⟩
  | i + 1, hi => by
    obtain ⟨_, _, ex⟩ := g.slots_go hc i (by omega)
    obtain ⟨_, _, ey⟩ := g.slots_go hc (i + 1) hi
    by_cases e1 : (slotsGo H L V a (i + 1)).1 = 0
    · obtain ⟨T2, r⟩ := ey e1
      exact ⟨T2, r.gi⟩
    · by_cases e0 : (slotsGo H L V a i).1 = 0
      · obtain ⟨T2, r⟩ := ex e0
        rw [slotsGo, if_pos e0] at e1 ⊢
        refine ⟨T2, ?_⟩
        rw [show celW H L (slotsGo H L V a i).2 (a + 1 + i) = (slotsGo H L V a i).2 from if_neg e1]
        exact r.gi
      · rw [slotsGo, if_neg e0]
        exact g.slots6 hc i (by omega)
theorem Pr0.go6 : ∀ (k : Nat) {V T : List Int} (_ : Pr0 H L V T O Z) {n : Int} (_ : 0 ≤ n) (_ : 16 + hSp V * (H : Int) + H - hSc V < (k : Int)), ∃ T2 O2, Gi H L (stepGo H L k V n).2.2 T2 O2 Z
  | 0, V, T, p, n, hn, hk => by
    have hg := p.gi.geo
    obtain ⟨_, _, _, _, f5⟩ := fine_yes p.gi.ok
    have := p.on
    omega
  | k + 1, V, T, p, n, hn, hk => by
    rw [stepGo]
    by_cases n1 : hSc V = hFr V
    · rw [if_pos n1]
      exact ⟨T, [], (p.over n1).1.gi⟩
    · rw [if_neg n1]
      by_cases n2 : n = 0
      · rw [if_pos n2]
        exact ⟨T, O, p.gi⟩
      · rw [if_neg n2]
        obtain ⟨h1, h2, e6, er, ex⟩ := p.step n1
        rw [if_neg (show ¬ (hdOk (V.getD (hSc V).toNat 0) = false ∨ hFr V < hSc V + 1 + prS (V.getD (hSc V).toNat 0) + prW (V.getD (hSc V).toNat 0)) from fun h => h.elim (fun e => by rw [h1] at e; exact absurd e (by decide)) h2)]
        by_cases e0 : (slotsGo H L V (hSc V).toNat (prS (V.getD (hSc V).toNat 0)).toNat).1 = 0
        · rw [if_pos e0]
          obtain ⟨T2, _, p2, rm2, re2, r2, s2, sc2⟩ := ex e0
          have oz := osz_pos V (hSc V)
          exact Pr0.go6 k p2 (n := n - 1) (by omega) (by rw [s2, sc2]; omega)
        · rw [if_neg e0]
          have ha : hSc V ∈ T := p.scan.resolve_left n1
          have a16 := (p.gi.inT ha).2.1
          have hq := shOk_yes (pr_range (V.getD (hSc V).toNat 0))
          obtain ⟨T2, g2⟩ := p.gi.slots6 (a := (hSc V).toNat) (n := (prS (V.getD (hSc V).toNat 0)).toNat) (fun j hj => .inr ⟨hSc V, ha, by omega, by omega⟩) _ (Nat.le_refl _)
          exact ⟨T2, O, g2⟩
theorem MkI.stp (x : MkI H L V T) : ∃ o c V2, Go.Proofs.YtbghglkplbnnkaaGreatDoor.stp H L V 10000 = (o, c, V2) ∧ (∃ T2 O Z, Gi H L V2 T2 O Z) ∧ (c = 6 ∨ (c = 0 ∧ o = true ∧ gr H L V2 = gr H L V ∧ chkB H L V2 = true)) := by
  rcases x with ⟨O, Z, p⟩ | ⟨Z, f⟩
  · obtain ⟨e, hb⟩ := p.stp (n := 10000) (by decide)
    obtain ⟨c6, _, hx⟩ := Pr0.go 1000 p (n := 10000) (by decide) hb
    obtain ⟨T2, O2, g2⟩ := Pr0.go6 1000 p (n := 10000) (by decide) hb
    have ov := go_over 1000 p (n := 10000) (by omega) hb
    rw [← e] at c6 hx g2 ov
    refine ⟨_, _, _, rfl, ⟨T2, O2, Z, g2⟩, ?_⟩
    rcases c6 with c | c
    · obtain ⟨r, _, T3, _, y⟩ := hx c
      have o1 := ov c
      rcases y with ⟨q, _⟩ | ⟨_, f⟩
      · rw [o1] at q
        cases q
      · exact .inr ⟨c, o1, r, f.check⟩
    · exact .inl c
  · exact ⟨true, 0, V, f.stp (by decide), ⟨T, [], Z, f.gi⟩, .inr ⟨rfl, rfl, rfl, f.check⟩⟩
theorem MkI.start (f : Fin H L V T Z) {n : Int} (hn : 0 ≤ n) : ∃ V1 o V2 T2, str H L V [] = (0, [], V1) ∧ Go.Proofs.YtbghglkplbnnkaaGreatDoor.stp H L V1 n = (o, 0, V2) ∧ MkI H L V2 T2 := by
  obtain ⟨V1, T1, e1, p, _⟩ := f.start
  obtain ⟨o, V2, T2, e2, _, _, _, x⟩ := p.stp hn
  refine ⟨V1, o, V2, T2, e1, e2, ?_⟩
  rcases x with ⟨_, p2⟩ | ⟨_, f2⟩
  · exact .inl ⟨_, _, p2.p⟩
  · exact .inr ⟨_, f2⟩
end
end Go.Proofs.YtbghglkplbnnkaaGreatDoor
-- GcHeaps
namespace Go.Proofs.YtbghglkplbnnkaaGreatDoor
open Go.RowKit Sec
open Go.Proofs.YtbghglkplbnnkaaGreatDoor.Bk

theorem lk_heap {W : World} {B s H L : Nat} {V T O : List Int} {Z : Int → Int} {Gw : GArg} {kb : Nat} {u : World} (x : LkS W B s H L V Gw kb u) (g : Gi H L V T O Z) :
    Calls Tryz.prog 14 #[.pointer (some ⟨s, 0, none⟩)] u fun r w' => ∃ b x c, r = .returned (.pointer (some ⟨b, 0, none⟩)) ∧ Below u.heap.size u w' ∧
      (∀ u, Below w'.heap.size w' u → Calls Tryz.prog 16 #[.pointer (some ⟨b, 0, none⟩)] u fun e w2 => e = .returned (.slice (some ⟨x, 8, none⟩) 8 (c - 8)) ∧ w2 = u) ∧
      (∀ u, Below w'.heap.size w' u → Calls Tryz.prog 15 #[.pointer (some ⟨b, 0, none⟩), .slice (some ⟨x, 8, none⟩) 8 (c - 8)] u fun e w2 => ∃ G2 : GArg, e = .returned (.tuple #[.agg #[.slice G2.r.a G2.r.l.length G2.r.c, .slice G2.a G2.n.length G2.c], .bool true]) ∧ (G2.At w2 ∧ G2.In (fun k => u.heap.size ≤ k ∧ k < w2.heap.size)) ∧ gr H L V = some (G2.r.l, G2.n.map NArg.data) ∧ Below u.heap.size u w2) ∧
      (∀ u, Below w'.heap.size w' u → Calls Tryz.prog 20 #[.pointer (some ⟨b, 0, none⟩)] u fun e w2 => e = .returned (.bool (chkB H L V)) ∧ Below u.heap.size u w2) := by
  obtain ⟨K, h⟩ := x.st
  refine (heap_reads h g).mono ?_
  rintro r w' ⟨b, x, c, rfl, y, k, hR, hF⟩
  refine ⟨b, x, c, rfl, y, hR, hF, fun u1 y1 => ?_⟩
  have hl := h.len
  exact rcheck_is (k.below y1) (by omega) (fun i => by have := h.num i; omega)
end Go.Proofs.YtbghglkplbnnkaaGreatDoor
-- GcMakes
namespace Go.Proofs.YtbghglkplbnnkaaGreatDoor
open Go.RowKit Sec
open Go.Proofs.YtbghglkplbnnkaaGreatDoor.Bk

section
variable {W : World}
set_option maxRecDepth 100000 in
set_option maxHeartbeats 4000000 in
theorem Makes_no (ht : TyOk W.heap.size W) (h l : Int) (G : GArg) (hG : G.At W) (n : Int) (m : Int) (no : ¬ (geOk h l = true ∧ 60 ≤ h ∧ h ≤ 200 ∧ liB G = true ∧ 0 ≤ n ∧ n ≤ 40 ∧ 0 ≤ m ∧ m ≤ 5)) :
    Calls Tryz.prog 4 #[.agg #[.int .i64 h, .int .i64 l], G.val, .int .i64 n, .int .i64 m] W fun e w' => e = .returned (.bool true) ∧ Below W.heap.size W w' := by
  have HR := Lib.hid (fun u => rgeo_is h l u)
  have HLt : Hid (∀ u, Below W.heap.size W u → Calls Tryz.prog 21 #[.agg #[G.r.val, .slice G.a G.n.length G.c]] u fun e w' => e = .returned (.bool (liB G)) ∧ Below u.heap.size u w') := Lib.hid (fun u y => light_is G u (hG.of_below y))
  have HAl : Hid (∀ u, Below W.heap.size W u → Calls Tryz.prog 9 #[] u fun e w' => e = .returned (.bool true) ∧ Below u.heap.size u w') := Lib.hid (fun u y => gcalive_is ((ht.below y).more y.size))
  have HB := Lib.hid (fun u => two_boxes W h l G.r.val (.slice G.a G.n.length G.c) u)
  have cases : geOk h l = false ∨ (geOk h l = true ∧ (h < 60 ∨ (60 ≤ h ∧ ((200 : Int) < h ∨ (h ≤ 200 ∧ (liB G = false ∨ (liB G = true ∧ (n < 0 ∨ (0 ≤ n ∧ ((40 : Int) < n ∨ (n ≤ 40 ∧ (m < 0 ∨ (0 ≤ m ∧ 5 < m))))))))))))) := by
    cases q1 : geOk h l
    · exact .inl rfl
    · refine .inr ⟨rfl, ?_⟩
      by_cases c0 : 60 ≤ h
      · refine .inr ⟨c0, ?_⟩
        by_cases c1 : h ≤ 200
        · cases q2 : liB G
          · exact .inr ⟨c1, .inl rfl⟩
          · refine .inr ⟨c1, .inr ⟨rfl, ?_⟩⟩
            by_cases c2 : 0 ≤ n
            · by_cases c3 : n ≤ 40
              · refine .inr ⟨c2, .inr ⟨c3, ?_⟩⟩
                by_cases c4 : 0 ≤ m
                · by_cases c5 : m ≤ 5
                  · exact absurd ⟨q1, c0, c1, q2, c2, c3, c4, c5⟩ no
                  · exact .inr ⟨c4, by omega⟩
                · exact .inl (by omega)
              · exact .inr ⟨c2, .inl (by omega)⟩
            · exact .inl (by omega)
        · exact .inl (by omega)
      · exact .inl (by omega)
  clear no ht hG
  unfold GArg.val
  generalize liB G = rt at *
  generalize geOk h l = ok at *
  generalize G.r.val = rv at *
  rcases cases with rfl | ⟨rfl, c | ⟨c0, c | ⟨c1, rfl | ⟨rfl, c | ⟨c2, c | ⟨c3, c | ⟨c4, c5⟩⟩⟩⟩⟩⟩⟩
  all_goals
    go_enter Tryz.func4, Tryz.ntmps4
    go_wp2_with (first
      | (go_at_call 7; refine (HR.out _).mono ?_; rintro e' w1 ⟨rfl, b1⟩; have H1 := Lib.hid b1; obtain ⟨⟨c0, cc, g0, g1⟩, _⟩ := HB.out _ b1; clear b1)
      | (go_at_call 21; refine (HLt.out _ (HB.out _ H1.out).2).mono ?_; rintro e' w2 ⟨rfl, b2⟩; replace H1 := Lib.hid (geo_next H1.out b2); clear b2 c0 cc g0 g1; obtain ⟨⟨c0, cc, g0, g1⟩, _⟩ := HB.out _ H1.out)
      | (go_at_call 9; refine (HAl.out _ (HB.out _ H1.out).2).mono ?_; rintro e' w3 ⟨rfl, b3⟩; replace H1 := Lib.hid (geo_next H1.out b3); clear b3))
    go_ret
    exact ⟨rfl, (HB.out _ H1.out).2⟩
set_option maxRecDepth 100000 in
set_option maxHeartbeats 8000000 in
theorem Makes_yes (ht : TyOk W.heap.size W) (H L : Nat) (hg : geOk H L = true) (G : GArg) (hG : G.At W) (hl : liB G = true) (n : Int) (m : Int) (h60 : 60 ≤ (H : Int)) (h200 : (H : Int) ≤ 200) (n0 : 0 ≤ n) (n40 : n ≤ 40) (m0 : 0 ≤ m) (m5 : m ≤ 5) :
    Calls Tryz.prog 4 #[.agg #[.int .i64 (H : Int), .int .i64 (L : Int)], G.val, .int .i64 n, .int .i64 m] W fun e w' => e = .returned (.bool true) ∧ Below W.heap.size W w' := by
  have HR := Lib.hid (fun u => rgeo_is H L u)
  rw [hg] at HR
  have HLt : Hid (∀ u, Below W.heap.size W u → Calls Tryz.prog 21 #[.agg #[G.r.val, .slice G.a G.n.length G.c]] u fun e w' => e = .returned (.bool true) ∧ Below u.heap.size u w') := Lib.hid (fun u y => by
    have := light_is G u (hG.of_below y)
    rwa [hl] at this)
  have HAl : Hid (∀ u, Below W.heap.size W u → Calls Tryz.prog 9 #[] u fun e w' => e = .returned (.bool true) ∧ Below u.heap.size u w') := Lib.hid (fun u y => gcalive_is ((ht.below y).more y.size))
  have HB := Lib.hid (fun u => two_boxes W H L G.r.val (.slice G.a G.n.length G.c) u)
  have HEi : Hid (∀ u, Below W.heap.size W u → Calls Tryz.prog 22 #[.agg #[G.r.val, .slice G.a G.n.length G.c]] u fun e w' => ∃ G2 : GArg, e = .returned (.agg #[G2.r.val, .slice G2.a G2.n.length G2.c]) ∧ G2.At w' ∧ Below u.heap.size u w') := Lib.hid (fun u y => eight_is G (hG.of_below y) (liB_yes hl))
  have HMd : Hid (∀ u (G2 : GArg), Below W.heap.size W u → G2.At u → Calls Tryz.prog 10 #[.agg #[.int .i64 (H : Int), .int .i64 (L : Int)], .agg #[G2.r.val, .slice G2.a G2.n.length G2.c]] u fun e w' => ∃ s B V T Gw, e = .returned (.tuple #[.pointer (some ⟨s, 0, none⟩), .agg #[.slice Gw.r.a Gw.r.l.length Gw.r.c, .slice Gw.a Gw.n.length Gw.c]]) ∧ LgS u B s H L V Gw w' ∧ Fin H L V T Z0 ∧ gr H L V = some (Gw.r.l, Gw.n.map NArg.data) ∧ T.length ≤ 60) := Lib.hid (fun u G2 y hA => made_is60 ((ht.below y).more y.size) H L hg G2 hA)
  have HTy := Lib.hid ht
  clear ht hG hg hl
  unfold GArg.val
  generalize G.r.val = rv at *
  go_enter Tryz.func4, Tryz.ntmps4
  go_upto_region 3 with (first
      | (go_at_call 7; refine (HR.out _).mono ?_; rintro e' w1 ⟨rfl, b1⟩; have H1 := Lib.hid b1; obtain ⟨⟨c0, cc, g0, g1⟩, _⟩ := HB.out _ b1; clear b1)
      | (go_at_call 21; refine (HLt.out _ (HB.out _ H1.out).2).mono ?_; rintro e' w2 ⟨rfl, b2⟩; replace H1 := Lib.hid (geo_next H1.out b2); clear b2 c0 cc g0 g1; obtain ⟨⟨c0, cc, g0, g1⟩, _⟩ := HB.out _ H1.out)
      | (go_at_call 9; refine (HAl.out _ (HB.out _ H1.out).2).mono ?_; rintro e' w3 ⟨rfl, b3⟩; replace H1 := Lib.hid (geo_next H1.out b3); clear b3; obtain ⟨⟨c0, cc, g0, g1⟩, _⟩ := HB.out _ H1.out))
  have ha0 := fun o : Obj => (HB.out _ (geo_next H1.out ((Below.refl _ _).alloc (Nat.le_refl _) o))).1.1
  have ha1 := fun o : Obj => (HB.out _ (geo_next H1.out ((Below.refl _ _).alloc (Nat.le_refl _) o))).1.2.1
  have ha2 := fun o : Obj => (HB.out _ (geo_next H1.out ((Below.refl _ _).alloc (Nat.le_refl _) o))).1.2.2.1
  have ha3 := fun o : Obj => (HB.out _ (geo_next H1.out ((Below.refl _ _).alloc (Nat.le_refl _) o))).1.2.2.2
  go_cut [9, 10] (fun s7 s8 wx => ∃ (s B kb : Nat) (V0 T0 : List Int) (Gw : GArg), s7 = .pointer (some ⟨s, 0, none⟩) ∧ s8 = .pointer (some ⟨kb, 0, none⟩) ∧ Hid (LkS W B s H L V0 Gw kb wx) ∧ Hid (Fin H L V0 T0 Z0 ∧ gr H L V0 = some (Gw.r.l, Gw.n.map NArg.data) ∧ T0.length ≤ 60))
  case first =>
    go_region_with (first
      | (go_at_call 22
         refine (HEi.out _ (HB.out _ H1.out).2).mono ?_
         rintro e' w4 ⟨G2, rfl, h4, b4⟩
         have H3 := Lib.hid (geo_next H1.out b4)
         have H2 := Lib.hid (And.intro h4 (HB.out _ H3.out).2)
         clear ha0 ha1 ha2 ha3 b4 c0 cc g0 g1
         obtain ⟨⟨c0, cc, g0, g1⟩, _⟩ := HB.out _ H3.out
         have ha0 := fun o : Obj => (HB.out _ (geo_next H3.out ((Below.refl _ _).alloc (Nat.le_refl _) o))).1.1
         have ha1 := fun o : Obj => (HB.out _ (geo_next H3.out ((Below.refl _ _).alloc (Nat.le_refl _) o))).1.2.1)
      | (go_at_call 22
         refine (HEi.out _ (HB.out _ H1.out).2.drew).mono ?_
         rintro e' w4 ⟨G2, rfl, h4, b4⟩
         have H3 := Lib.hid (geo_next H1.out (dr_next b4))
         have H2 := Lib.hid (And.intro h4 (HB.out _ H3.out).2)
         clear ha0 ha1 ha2 ha3 b4 c0 cc g0 g1
         obtain ⟨⟨c0, cc, g0, g1⟩, _⟩ := HB.out _ H3.out
         have ha0 := fun o : Obj => (HB.out _ (geo_next H3.out ((Below.refl _ _).alloc (Nat.le_refl _) o))).1.1
         have ha1 := fun o : Obj => (HB.out _ (geo_next H3.out ((Below.refl _ _).alloc (Nat.le_refl _) o))).1.2.1)
      | (go_at_call 22
         have y3 : Below w3.heap.size w3 (w3.alloc (.cells #[.slice none 0 0, .slice none 0 0] 27)) := (Below.refl _ _).alloc (Nat.le_refl _) _
         have hkb := Two2.made w3 (.slice none 0 0) (.slice none 0 0) 27
         refine (HEi.out _ (geo_next (HB.out _ H1.out).2 y3)).mono ?_
         rintro e' w4 ⟨G2, rfl, h4, b4⟩
         have H3 := Lib.hid (geo_next (geo_next H1.out y3) b4)
         have HTB := Lib.hid (And.intro (hkb.below b4) (HB.out _ H1.out).2.size)
         have H2 := Lib.hid (And.intro h4 (HB.out _ H3.out).2)
         clear ha0 ha1 ha2 ha3 b4 c0 cc g0 g1 y3 hkb
         obtain ⟨⟨c0, cc, g0, g1⟩, _⟩ := HB.out _ H3.out
         have ha0 := fun o : Obj => (HB.out _ (geo_next H3.out ((Below.refl _ _).alloc (Nat.le_refl _) o))).1.1
         have ha1 := fun o : Obj => (HB.out _ (geo_next H3.out ((Below.refl _ _).alloc (Nat.le_refl _) o))).1.2.1)
      | (go_at_call 22
         have y3 : Below w3.heap.size w3 (w3.alloc (.cells #[.slice none 0 0, .slice none 0 0] 27)) := (Below.refl _ _).alloc (Nat.le_refl _) _
         have hkb := Two2.made w3 (.slice none 0 0) (.slice none 0 0) 27
         refine (HEi.out _ (geo_next (HB.out _ H1.out).2 y3).drew).mono ?_
         rintro e' w4 ⟨G2, rfl, h4, b4⟩
         have H3 := Lib.hid (geo_next (geo_next H1.out y3) (dr_next b4))
         have HTB := Lib.hid (And.intro (hkb.below (dr_next b4)) (HB.out _ H1.out).2.size)
         have H2 := Lib.hid (And.intro h4 (HB.out _ H3.out).2)
         clear ha0 ha1 ha2 ha3 b4 c0 cc g0 g1 y3 hkb
         obtain ⟨⟨c0, cc, g0, g1⟩, _⟩ := HB.out _ H3.out
         have ha0 := fun o : Obj => (HB.out _ (geo_next H3.out ((Below.refl _ _).alloc (Nat.le_refl _) o))).1.1
         have ha1 := fun o : Obj => (HB.out _ (geo_next H3.out ((Below.refl _ _).alloc (Nat.le_refl _) o))).1.2.1)
      | (go_at_call 10
         have ht4 := HTB.out.1
         refine (HMd.out _ _ H2.out.2 H2.out.1).mono ?_
         rintro e' w5 ⟨s, B, V0, T0, Gw, rfl, h5, f0, r0, t0⟩
         obtain ⟨⟨_, k0, k1, l0, l1⟩, hk⟩ := LkS.start2 h5 H2.out.2 HTy.out HTB.out.2 ht4
         have HK := Lib.hid (show LkS W W.heap.size s H L V0 Gw w3.heap.size ((w5.setCell ⟨w3.heap.size, 0, none⟩ (.slice Gw.r.a Gw.r.l.length Gw.r.c)).setCell ⟨w3.heap.size, 1, none⟩ (.slice Gw.a Gw.n.length Gw.c)) from hk)
         have HF := Lib.hid (And.intro f0 (And.intro r0 t0))
         clear h5 f0 r0 t0 hk ht4)
      | (go_at_call 10
         have ht4 := HTB.out.1
         refine (HMd.out _ _ H2.out.2.drew H2.out.1.below (Below.refl _ _).drew).mono ?_
         rintro e' w5 ⟨s, B, V0, T0, Gw, rfl, h5, f0, r0, t0⟩
         obtain ⟨⟨_, k0, k1, l0, l1⟩, hk⟩ := LkS.start2 h5 H2.out.2.drew HTy.out HTB.out.2 (ht4.below (Below.refl _ _).drew)
         have HK := Lib.hid (show LkS W W.heap.size s H L V0 Gw w3.heap.size ((w5.setCell ⟨w3.heap.size, 0, none⟩ (.slice Gw.r.a Gw.r.l.length Gw.r.c)).setCell ⟨w3.heap.size, 1, none⟩ (.slice Gw.a Gw.n.length Gw.c)) from hk)
         have HF := Lib.hid (And.intro f0 (And.intro r0 t0))
         clear h5 f0 r0 t0 hk ht4)
      | (go_at_call 10
         refine (HMd.out _ _ H2.out.2 H2.out.1).mono ?_
         rintro e' w5 ⟨s, B, V0, T0, Gw, rfl, h5, f0, r0, t0⟩
         have HK := Lib.hid (show LkS W B s H L V0 Gw w5.heap.size (w5.alloc (.cells #[.slice Gw.r.a Gw.r.l.length Gw.r.c, .slice Gw.a Gw.n.length Gw.c] 27)) from LkS.start h5 H2.out.2 27)
         have HF := Lib.hid (And.intro f0 (And.intro r0 t0))
         clear h5 f0 r0 t0)
      | (go_at_call 10
         refine (HMd.out _ _ H2.out.2.drew H2.out.1.below (Below.refl _ _).drew).mono ?_
         rintro e' w5 ⟨s, B, V0, T0, Gw, rfl, h5, f0, r0, t0⟩
         have HK := Lib.hid (show LkS W B s H L V0 Gw w5.heap.size (w5.alloc (.cells #[.slice Gw.r.a Gw.r.l.length Gw.r.c, .slice Gw.a Gw.n.length Gw.c] 27)) from LkS.start h5 H2.out.2.drew 27)
         have HF := Lib.hid (And.intro f0 (And.intro r0 t0))
         clear h5 f0 r0 t0)
      | (go_at_call 10
         have y4 : Below w4.heap.size w4 (w4.alloc (.cells #[.slice none 0 0, .slice none 0 0] 27)) := (Below.refl _ _).alloc (Nat.le_refl _) _
         refine (HMd.out _ _ (geo_next H2.out.2 y4) (H2.out.1.below y4)).mono ?_
         rintro e' w5 ⟨s, B, V0, T0, Gw, rfl, h5, f0, r0, t0⟩
         obtain ⟨⟨_, k0, k1, l0, l1⟩, hk⟩ := LkS.start2 h5 (geo_next H2.out.2 y4) HTy.out H2.out.2.size (Two2.made w4 (.slice none 0 0) (.slice none 0 0) 27)
         have HK := Lib.hid (show LkS W W.heap.size s H L V0 Gw w4.heap.size ((w5.setCell ⟨w4.heap.size, 0, none⟩ (.slice Gw.r.a Gw.r.l.length Gw.r.c)).setCell ⟨w4.heap.size, 1, none⟩ (.slice Gw.a Gw.n.length Gw.c)) from hk)
         have HF := Lib.hid (And.intro f0 (And.intro r0 t0))
         clear h5 f0 r0 t0 hk y4)
      | (go_at_call 10
         have y4 : Below w4.heap.size w4 (w4.alloc (.cells #[.slice none 0 0, .slice none 0 0] 27)) := (Below.refl _ _).alloc (Nat.le_refl _) _
         refine (HMd.out _ _ (geo_next H2.out.2 y4).drew (H2.out.1.below y4).below (Below.refl _ _).drew).mono ?_
         rintro e' w5 ⟨s, B, V0, T0, Gw, rfl, h5, f0, r0, t0⟩
         obtain ⟨⟨_, k0, k1, l0, l1⟩, hk⟩ := LkS.start2 h5 (geo_next H2.out.2 y4).drew HTy.out H2.out.2.size ((Two2.made w4 (.slice none 0 0) (.slice none 0 0) 27).below (Below.refl _ _).drew)
         have HK := Lib.hid (show LkS W W.heap.size s H L V0 Gw w4.heap.size ((w5.setCell ⟨w4.heap.size, 0, none⟩ (.slice Gw.r.a Gw.r.l.length Gw.r.c)).setCell ⟨w4.heap.size, 1, none⟩ (.slice Gw.a Gw.n.length Gw.c)) from hk)
         have HF := Lib.hid (And.intro f0 (And.intro r0 t0))
         clear h5 f0 r0 t0 hk y4))
    all_goals
      go_wp2_with fail
      go_meet
      first
        | exact ⟨s, _, _, V0, T0, Gw, rfl, rfl, HK, HF⟩
        | exact ⟨s, _, _, V0, T0, Gw, rfl, rfl, Lib.hid (HK.out.below (Below.refl _ _).drew), HF⟩
  case rest =>
    obtain ⟨s, B, kb, V0, T0, Gw, rfl, rfl, HK, HF⟩ := hcut
    clear H1 HR HLt HAl HEi HMd HB ha0 ha1 ha2 ha3
    obtain ⟨V1, o1, V2, T2, e1, e2, i2⟩ := MkI.start HF.out.1 n0
    have HLf : Hid (∃ z : Int, ∀ u, LkS W B s H L V0 Gw kb u → Calls Tryz.prog 23 #[.pointer (some ⟨s, 0, none⟩)] u fun e w' => e = .returned (.int .i64 z) ∧ Below u.heap.size u w') := Lib.hid ⟨_, fun u x => by
      obtain ⟨K, h⟩ := x.st
      exact spleft_st h⟩
    obtain ⟨z, hz⟩ := HLf.out
    clear HLf
    have HLf := Lib.hid hz
    clear hz
    have HSt1 : Hid (∀ u, LkS W B s H L V0 Gw kb u → Calls Tryz.prog 11 #[.pointer (some ⟨s, 0, none⟩), .slice none 0 0] u fun e w' => (∃ r, e = .returned (.tuple #[r, .int .i64 0])) ∧ LkS W B s H L V1 Gw kb w') := Lib.hid (fun u x => x.call (fun K h => by
      have := gStart_is h none [] 0 (Lent.nil _ _ _)
      rw [e1] at this
      exact this.mono fun r w' ⟨v, h1, h2, h3, h4, _⟩ => ⟨⟨v, h1⟩, h2.mono (fun k q => .inl q), h3, h4⟩))
    have HS0 : Hid (∀ u, LkS W B s H L V1 Gw kb u → Calls Tryz.prog 13 #[.pointer (some ⟨s, 0, none⟩), .int .i64 n] u fun e w' => e = .returned (.tuple #[.bool o1, .int .i64 0]) ∧ LkS W B s H L V2 Gw kb w') := Lib.hid (fun u x => x.call (Q := fun e => e = .returned (.tuple #[.bool o1, .int .i64 0])) (fun K h => by
      have := gStep_is h n (by omega)
      rw [e2] at this
      exact this))
    have HI := Lib.hid i2
    clear HF e1 e2 i2
    by_cases hz : z < 40
    · go_wp2_with (go_at_call 23; refine (HLf.out _ HK.out).mono ?_; rintro e' w6 ⟨rfl, b6⟩; replace HK := Lib.hid (HK.out.below b6); clear b6)
      go_ret
      exact ⟨rfl, HK.out.b⟩
    · go_upto_region 11 with (first
        | (go_at_call 23; refine (HLf.out _ HK.out).mono ?_; rintro e' w6 ⟨rfl, b6⟩; replace HK := Lib.hid (HK.out.below b6); clear b6)
        | (go_at_call 11; refine (HSt1.out _ HK.out).mono ?_; rintro e' w7 ⟨⟨r, rfl⟩, h7⟩; have HKa := Lib.hid h7; clear h7)
        | (go_at_call 13; refine (HS0.out _ HKa.out).mono ?_; rintro e' w8 ⟨rfl, h8⟩; have HKb := Lib.hid h8; clear h8))
      clear HLf HSt1 HS0 HK HKa hz
      obtain ⟨mn, rfl⟩ := Int.eq_ofNat_of_zero_le m0
      go_wp2_with fail
      go_loopw [11, 12] (fun la i wr => ∃ (j : Nat) (last : Int) (V T : List Int), j ≤ mn ∧ la = .int .i64 last ∧ i = .int .i64 (j : Int) ∧ Hid (MkI H L V T) ∧ Hid (last = 0 ∨ last ∈ T) ∧ Hid (LkS W B s H L V Gw kb wr)) (fun _ i _ => mn - (intOf i).toNat)
      case atStart => exact ⟨0, 0, V2, T2, Nat.zero_le _, rfl, rfl, HI, Lib.hid (.inl rfl), HKb⟩
      case round =>
        clear HKb HI
        obtain ⟨j, last, V, T, hj, rfl, rfl, HI, HLa, HK⟩ := hrel
        by_cases hlt : j < mn
        · have hlti : (j : Int) < (mn : Int) := by omega
          rcases HI.out.new with ⟨en, same⟩ | ⟨en, ix, hs, hw⟩
          · have HNw := Lib.hid (HK.out.call (V' := V) (fn := 24) (args := #[.pointer (some ⟨s, 0, none⟩), .int .i64 1, .int .i64 1]) (Q := fun e => e = .returned (.tuple #[.int .i64 (newA H L V 1 1), .int .i64 6])) (fun K h => by
              have := anew_st h 1 1
              rwa [en, same] at this))
            clear en same
            generalize newA H L V 1 1 = a at *
            go_wp2_with (go_at_call 24; refine HNw.out.mono ?_; rintro e' w6 ⟨rfl, h6⟩; have HK2 := Lib.hid h6; clear h6)
            go_ret
            exact ⟨rfl, HK2.out.b⟩
          · have HNw := Lib.hid (HK.out.call (V' := newW H L V 1 1) (fn := 24) (args := #[.pointer (some ⟨s, 0, none⟩), .int .i64 1, .int .i64 1]) (Q := fun e => e = .returned (.tuple #[.int .i64 (newA H L V 1 1), .int .i64 0])) (fun K h => by
              have := anew_st h 1 1
              rwa [en] at this))
            clear en
            generalize newW H L V 1 1 = V3 at *
            generalize newA H L V 1 1 = a at *
            have ha : a ∈ T ++ [a] := List.mem_append.2 (.inr (List.mem_singleton.2 rfl))
            obtain ⟨p1, p2, p3, i4⟩ := ix.link ha hs hw (last := last) (k := (j : Int)) (HLa.out.imp id (fun q => List.mem_append.2 (.inl q))) (by omega) (by omega)
            have HPt : Hid (∀ u, LkS W B s H L V3 Gw kb u → Calls Tryz.prog 25 #[.pointer (some ⟨s, 0, none⟩), .int .i64 a, .int .i64 0, .int .i64 last] u fun e w' => e = .returned (.int .i64 0) ∧ LkS W B s H L (ptW H L V3 a 0 last) Gw kb w') := Lib.hid (fun u x => x.call (Q := fun e => e = .returned (.int .i64 0)) (fun K h => by
              have := fPut_is h a 0 last
              rwa [p1] at this))
            generalize ptW H L V3 a 0 last = V4 at *
            have HSw : Hid (∀ u, LkS W B s H L V4 Gw kb u → Calls Tryz.prog 26 #[.pointer (some ⟨s, 0, none⟩), .int .i64 a, .int .i64 0, .int .i64 (j : Int)] u fun e w' => e = .returned (.int .i64 0) ∧ LkS W B s H L (swW H L V4 a 0 (j : Int)) Gw kb w') := Lib.hid (fun u x => x.call (Q := fun e => e = .returned (.int .i64 0)) (fun K h => by
              have := fSetWord_is h a 0 (j : Int)
              rwa [p2] at this))
            generalize swW H L V4 a 0 (j : Int) = V5 at *
            have HSr : Hid (∀ u, LkS W B s H L V5 Gw kb u → Calls Tryz.prog 27 #[.pointer (some ⟨s, 0, none⟩), .int .i64 7, .int .i64 a] u fun e w' => e = .returned (.int .i64 0) ∧ LkS W B s H L (srW H L V5 7 a) Gw kb w') := Lib.hid (fun u x => x.call (Q := fun e => e = .returned (.int .i64 0)) (fun K h => by
              have := fSetRoot_is h 7 a
              rwa [p3] at this))
            generalize srW H L V5 7 a = V6 at *
            have HI6 := Lib.hid i4
            have HLa6 : Hid (a = 0 ∨ a ∈ T ++ [a]) := Lib.hid (.inr ha)
            clear p1 p2 p3 i4 ix hs hw ha
            go_wp2_with (first
              | (go_at_call 24; refine HNw.out.mono ?_; rintro e' w6 ⟨rfl, h6⟩; have HK2 := Lib.hid h6; clear h6)
              | (go_at_call 25; refine (HPt.out _ HK2.out).mono ?_; rintro e' w7 ⟨rfl, h7⟩; have HK3 := Lib.hid h7; clear h7)
              | (go_at_call 26; refine (HSw.out _ HK3.out).mono ?_; rintro e' w8 ⟨rfl, h8⟩; have HK4 := Lib.hid h8; clear h8)
              | (go_at_call 27; refine (HSr.out _ HK4.out).mono ?_; rintro e' w9 ⟨rfl, h9⟩; have HK5 := Lib.hid h9; clear h9))
            exact ⟨⟨j + 1, a, V6, T ++ [a], by omega, rfl, by go_num, HI6, HLa6, HK5⟩, by simp [intOf]; omega⟩
        · obtain rfl : j = mn := by omega
          have hnlt : ¬ (j : Int) < (j : Int) := by omega
          obtain ⟨O, Z, g1⟩ := HI.out.gi
          obtain ⟨o, c, V3, es, ⟨T3, O3, Z3, g3⟩, hcase⟩ := HI.out.stp
          have HH1 := Lib.hid (lk_heap HK.out g1)
          have HH2 := Lib.hid (fun G1 k1 u (x : LkS W B s H L V3 G1 k1 u) => lk_heap x g3)
          have HSp : Hid (∀ G1 k1 u, LkS W B s H L V G1 k1 u → Calls Tryz.prog 13 #[.pointer (some ⟨s, 0, none⟩), .int .i64 10000] u fun e w' => e = .returned (.tuple #[.bool o, .int .i64 c]) ∧ LkS W B s H L V3 G1 k1 w') := Lib.hid (fun G1 k1 u x => x.call (Q := fun e => e = .returned (.tuple #[.bool o, .int .i64 c])) (fun K h => by
            have := gStep_is h 10000 (by decide)
            rwa [es] at this))
          have HAk : Hid (∀ (G2 G1 : GArg) u, G2.At u → G1.At u → gAlike G2 G1 = true → Calls Tryz.prog 17 #[.agg #[.slice G2.r.a G2.r.l.length G2.r.c, .slice G2.a G2.n.length G2.c], .agg #[.slice G1.r.a G1.r.l.length G1.r.c, .slice G1.a G1.n.length G1.c]] u fun e w' => e = .returned (.bool true) ∧ Below u.heap.size u w') := Lib.hid (fun G2 G1 u h1 h2 h3 => by
            have := ralike_is G2 G1 u h1 h2
            rwa [h3] at this)
          have HCs := Lib.hid hcase
          clear es g1 g3 hcase HI
          go_upto_region 25 with (first
            | (go_at_call 14; with_reducible refine HH1.out.mono ?_; rintro e' w6 ⟨b1, x1, c1, rfl, b6, hR, hF, _⟩; clear HH1; have HK2 := Lib.hid (HK.out.below b6); have HRo := Lib.hid hR; have HFr := Lib.hid hF; clear b6 hR hF)
            | (go_at_call 16; with_reducible refine (HRo.out _ (Below.refl _ _)).mono ?_; rintro e' w7 ⟨rfl, hw⟩; obtain rfl : w6 = w7 := hw.symm)
            | (go_at_call 15
               with_reducible refine (HFr.out _ (Below.refl _ _)).mono ?_
               rintro e' w8 ⟨G1, rfl, ⟨h8, i8⟩, r8, b8⟩
               have HK3 := Lib.hid (HK2.out.read b8 h8 i8 27)
               have HR1 := Lib.hid r8
               clear h8 i8 r8 b8 HRo HFr)
            | (go_at_call 13; refine (HSp.out _ _ _ HK3.out).mono ?_; rintro e' w9 ⟨rfl, h9⟩; have HK4 := Lib.hid h9; clear h9)
            | (go_at_call 14; with_reducible refine (HH2.out _ _ _ HK4.out).mono ?_; rintro e' wa ⟨b2, x2, c2, rfl, ba, hR, hF, hC⟩; have HK5 := Lib.hid (HK4.out.below ba); have HRo2 := Lib.hid hR; have HFr2 := Lib.hid hF; have HCk := Lib.hid hC; clear ba hR hF hC)
            | (go_at_call 16; with_reducible refine (HRo2.out _ (Below.refl _ _)).mono ?_; rintro e' wb ⟨rfl, hw⟩; obtain rfl : wa = wb := hw.symm)
            | (go_at_call 15
               with_reducible refine (HFr2.out _ (Below.refl _ _)).mono ?_
               rintro e' wc ⟨G2, rfl, ⟨hc2, _⟩, rc, bc⟩
               have HCw := Lib.hid (fun u (y : Below wc.heap.size wc u) => HCk.out u (geo_next bc y))
               have HN := Lib.hid (LnS.start (HK5.out.below bc) hc2 27)
               have HR2 := Lib.hid rc
               clear hc2 rc bc HRo2 HFr2 HCk))
          have y9 : Below wc.heap.size wc (wc.alloc (.cells #[.slice G2.r.a G2.r.l.length G2.r.c, .slice G2.a G2.n.length G2.c] 27)) := (Below.refl _ _).alloc (Nat.le_refl _) _
          have HCw2 := Lib.hid (fun u (y : Below (wc.alloc (.cells #[.slice G2.r.a G2.r.l.length G2.r.c, .slice G2.a G2.n.length G2.c] 27)).heap.size (wc.alloc (.cells #[.slice G2.r.a G2.r.l.length G2.r.c, .slice G2.a G2.n.length G2.c] 27)) u) => HCw.out u (geo_next y9 y))
          clear y9 HCw HK HK2 HK3 HK4 HK5
          generalize wc.alloc (.cells #[.slice G2.r.a G2.r.l.length G2.r.c, .slice G2.a G2.n.length G2.c] 27) = wn at *
          generalize wc.heap.size = nb at *
          generalize w8.heap.size = k1 at *
          obtain ⟨⟨kc0, kc1⟩, nc0, nc1⟩ := HN.out.c
          rcases HCs.out with rfl | ⟨rfl, rfl, rr, ck⟩
          · clear HCs HAk HCw2 HR1 HR2 HH2 HSp
            go_wp2_with fail
            go_ret
            exact ⟨rfl, HN.out.k.b⟩
          · have ea : gAlike G1 G2 = true := decide_eq_true (Prod.mk.inj (Option.some.inj ((HR1.out.symm.trans rr.symm).trans HR2.out)))
            have HAk2 : Hid (∀ u, LnS W B s H L V3 G1 k1 G2 nb u → Calls Tryz.prog 17 #[.agg #[.slice G1.r.a G1.r.l.length G1.r.c, .slice G1.a G1.n.length G1.c], .agg #[.slice G2.r.a G2.r.l.length G2.r.c, .slice G2.a G2.n.length G2.c]] u fun e w' => e = .returned (.bool true) ∧ Below u.heap.size u w') := Lib.hid (fun u x => HAk.out G1 G2 u x.k.a x.a ea)
            rw [ck] at HCw2
            clear HCs HAk HR1 HR2 HH2 HSp rr ck ea
            go_wp2_with (first
              | (go_at_call 17; refine (HAk2.out _ HN.out).mono ?_; rintro e' wd ⟨rfl, bd⟩; have HN2 := Lib.hid (And.intro bd (HN.out.below bd)); clear bd)
              | (go_at_call 20; refine (HCw2.out _ HN2.out.1).mono ?_; rintro e' we ⟨rfl, be⟩; have HN3 := Lib.hid (HN2.out.2.below be); clear be))
            go_ret
            exact ⟨rfl, HN3.out.k.b⟩
theorem Makes_walk (ht : TyOk W.heap.size W) (h l : Int) (G : GArg) (hG : G.At W) (n : Int) (m : Int) :
    Calls Tryz.prog 4 #[.agg #[.int .i64 h, .int .i64 l], G.val, .int .i64 n, .int .i64 m] W fun e w' => e = .returned (.bool true) ∧ Below W.heap.size W w' := by
  by_cases c : geOk h l = true ∧ 60 ≤ h ∧ h ≤ 200 ∧ liB G = true ∧ 0 ≤ n ∧ n ≤ 40 ∧ 0 ≤ m ∧ m ≤ 5
  · obtain ⟨c0, c1, c2, c3, c4, c5, c6, c7⟩ := c
    have hq := geOk_yes c0
    obtain ⟨H, rfl⟩ := Int.eq_ofNat_of_zero_le (show 0 ≤ h by omega)
    obtain ⟨L, rfl⟩ := Int.eq_ofNat_of_zero_le (show 0 ≤ l by omega)
    exact Makes_yes ht H L c0 G hG c3 n m c1 c2 c4 c5 c6 c7
  · exact Makes_no ht h l G hG n m c
end
end Go.Proofs.YtbghglkplbnnkaaGreatDoor
