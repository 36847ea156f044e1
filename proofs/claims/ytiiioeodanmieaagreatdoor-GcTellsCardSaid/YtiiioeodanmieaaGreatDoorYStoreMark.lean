import Derived.Deep.DeepCutAuto
import Derived.Test.YtiiioeodanmieaaGreatDoorYStoreE
set_option linter.unusedVariables false
set_option linter.unusedSimpArgs false
namespace Go.Proofs.YtiiioeodanmieaaGreatDoor
open Go.RowKit Sec
open Go.Proofs.YtiiioeodanmieaaGreatDoor.Bk

theorem Row5.same {u u' : World} {g : Nat} {v0 v1 v2 v3 v4 : Value} (h : Row5 u g v0 v1 v2 v3 v4) (hs : u.heap.size ≤ u'.heap.size) (hb : u'.heap[g]? = u.heap[g]?) : Row5 u' g v0 v1 v2 v3 v4 :=
  have c : ∀ o, u'.cell? ⟨g, o, none⟩ = u.cell? ⟨g, o, none⟩ := fun o => World.cell?_of_block (a := ⟨g, o, none⟩) hb
  have f : ∀ o, u'.frozen? ⟨g, o, none⟩ = u.frozen? ⟨g, o, none⟩ := fun o => World.frozen?_of_block (a := ⟨g, o, none⟩) hb
  ⟨Nat.lt_of_lt_of_le h.lt hs, (c 0).trans h.c0, (c 1).trans h.c1, (c 2).trans h.c2, (c 3).trans h.c3, (c 4).trans h.c4, (f 0).trans h.f0, (f 1).trans h.f1, (f 2).trans h.f2, (f 3).trans h.f3, (f 4).trans h.f4⟩
section
variable {B : Nat} {G : Nat → Prop} {w : World} {s p lq : Nat} {D : Dsk} {fr n hd nx ep : Int} {S : Sup} {X Y : List Int} {off : Bool} {vC vW : Value}
theorem StAt.super5 (h : StAt B G w s p lq D fr n hd nx ep S X Y off vC vW) (a b c d e : Int) :
    StAt B G (((((w.setCell ⟨s, 1, none⟩ (.int .i64 a)).setCell ⟨s, 2, none⟩ (.int .i64 b)).setCell ⟨s, 3, none⟩ (.int .i64 c)).setCell ⟨s, 4, none⟩ (.int .i64 d)).setCell ⟨s, 5, none⟩ (.int .i64 e)) s p lq D fr n hd nx ep ⟨a, b, c, d, e⟩ X Y off vC vW ∧
    Below B w (((((w.setCell ⟨s, 1, none⟩ (.int .i64 a)).setCell ⟨s, 2, none⟩ (.int .i64 b)).setCell ⟨s, 3, none⟩ (.int .i64 c)).setCell ⟨s, 4, none⟩ (.int .i64 d)).setCell ⟨s, 5, none⟩ (.int .i64 e)) ∧
    KeptG G w (((((w.setCell ⟨s, 1, none⟩ (.int .i64 a)).setCell ⟨s, 2, none⟩ (.int .i64 b)).setCell ⟨s, 3, none⟩ (.int .i64 c)).setCell ⟨s, 4, none⟩ (.int .i64 d)).setCell ⟨s, 5, none⟩ (.int .i64 e)) := by
  obtain ⟨h1, b1, k1⟩ := h.put (S' := ⟨a, S.h, S.e, S.f, S.g⟩) 1 (.int .i64 a) (off' := off) rfl
  obtain ⟨h2, b2, k2⟩ := h1.put (S' := ⟨a, b, S.e, S.f, S.g⟩) 2 (.int .i64 b) (off' := off) rfl
  obtain ⟨h3, b3, k3⟩ := h2.put (S' := ⟨a, b, c, S.f, S.g⟩) 3 (.int .i64 c) (off' := off) rfl
  obtain ⟨h4, b4, k4⟩ := h3.put (S' := ⟨a, b, c, d, S.g⟩) 4 (.int .i64 d) (off' := off) rfl
  obtain ⟨h5, b5, k5⟩ := h4.put (S' := ⟨a, b, c, d, e⟩) 5 (.int .i64 e) (off' := off) rfl
  exact ⟨h5, b1.trans (b2.trans (b3.trans (b4.trans b5))), k1.trans (k2.trans (k3.trans (k4.trans k5)))⟩
end

set_option maxRecDepth 100000 in
set_option maxHeartbeats 8000000 in
theorem mark_is {B : Nat} {G : Nat → Prop} {w : World} {s p lq : Nat} {D D1 D2 : Dsk} {fr : Int} {q hd nx : Nat} {e : Int} {H L : Nat} {X Y : List Int} {vC vW : Value}
    (h : StAt B G w s p lq D fr L hd nx e (crS q hd e H L) X Y false vC vW) (hg : 8 ≤ H ∧ H ≤ 400 ∧ 4 ≤ L ∧ L ≤ 300) (hX : X.length = 16 * pgs H) (hf : FineC X) (q' : Nat) (e' : Int) (hq' : q' = q + 1) (he' : e' = e + 1)
    (hok : supOk (crS q' nx e' H L) = true) (hw : D.waits = [] ∧ D1.waits = []) (hdd : D.deeds < 2 ^ 50 ∧ D1.deeds < 2 ^ 50)
    (e1 : layR D (pagesW q' X (3 * pgs H)) = (D1, 0)) (e2 : layR D1 [crW (crS q' nx e' H L)] = (D2, 0)) :
    Calls Tryz.prog 173 #[.pointer (some ⟨s, 0, none⟩)] w fun r w' => r = .returned .nilIface ∧ StAt B G w' s p lq D2 fr L nx nx e' (crS q' nx e' H L) X Y false vC vW ∧ Below B w w' ∧ KeptG G w w' := by
  have hp := (pgs_le hg.2.1)
  have hp1 : 1 ≤ pgs H := by unfold pgs; omega
  obtain ⟨⟨qq0, zq1⟩, ⟨qn0, qn1⟩, ⟨zq2, zq3⟩, zq4, zq5⟩ := sup_of hok
  have qq1 : (q' : Int) ≤ 900000000 := zq1
  have qe1 : e' ≤ 900000000 := zq3
  have qe0 : 0 ≤ e' := zq2
  clear qq0 zq1 qn0 qn1 zq2 zq3 zq4 zq5
  have HRi : Hid (∀ u, Calls Tryz.prog 197 #[.agg #[.int .i64 (q' : Int), .int .i64 (nx : Int), .int .i64 e', .int .i64 (H : Int), .int .i64 (L : Int)]] u fun r w' => r = .returned (.bool true) ∧ Below u.heap.size u w') := Lib.hid (fun u => by have := cright_is (crS q' nx e' H L) u; rw [hok] at this; exact this)
  have HK : Hid (∀ u, Calls Tryz.prog 168 #[.agg #[.int .i64 (q' : Int), .int .i64 (nx : Int), .int .i64 e', .int .i64 (H : Int), .int .i64 (L : Int)]] u fun r w' => r = .returned (crW (crS q' nx e' H L)).val ∧ Below u.heap.size u w') := Lib.hid (fun u => crownOf_is _ hok u)
  obtain ⟨gC, cC', hvC', hcc, _, _⟩ := own_blkK h.st.oC (by rw [hX]; omega)
  rw [hX] at hvC'
  have HPa : Hid (∀ u, StIs B u s p lq (crS q hd e H L) X Y false vC vW → Calls Tryz.prog 166 #[.agg #[.int .i64 (q' : Int), .int .i64 (nx : Int), .int .i64 e', .int .i64 (H : Int), .int .i64 (L : Int)], vC] u fun r w' => ∃ v, r = .returned v ∧ Below u.heap.size u w' ∧ w'.ownsRow u.heap.size 210 2 v (3 * pgs H) (flat Wr.cells (pagesW q' X (3 * pgs H)))) := Lib.hid (fun u hu => by
    have ho := hu.oC
    rw [hvC', hX] at ho
    have := pagesOf_is q' nx e' H L hg (by omega) gC cC' X hX (by rw [hX] at hcc; exact hcc) hf u (own_cells ho (Below.refl _ _))
    rw [hX] at this
    rw [hvC']
    exact this)
  have HL1 : Hid (∀ (G' : Nat → Prop) (u : World) (a : Option Addr) (c : Nat), AtK B G' u p D → LiesAt u a (flat Wr.cells (pagesW q' X (3 * pgs H))) → (∀ b : Addr, a = some b → G' b.block) → Calls Tryz.prog 163 #[.pointer (some ⟨p, 0, none⟩), .slice a (3 * pgs H) c] u fun r w' => ∃ v, r = .returned v ∧ ErrIs w' 0 v ∧ AtK B G' w' p D1 ∧ Below B u w' ∧ KeptG G' u w') := Lib.hid (fun G' u a c hA hl ha => by
    have m : (pagesW q' X (3 * pgs H)).length = 3 * pgs H := pagesW_len _ _ _
    have := lay_is hA a _ c hl ha (by rw [m]; omega) (by rw [m, hw.1]; simp; omega) (by rw [m]; have := hdd.1; omega) D1 0 e1
    rw [m] at this
    exact this)
  have HL2 : Hid (∀ (G' : Nat → Prop) (u : World) (a : Option Addr) (c : Nat), AtK B G' u p D1 → LiesAt u a (Wr.cells (crW (crS q' nx e' H L))) → (∀ b : Addr, a = some b → G' b.block) → Calls Tryz.prog 163 #[.pointer (some ⟨p, 0, none⟩), .slice a 1 c] u fun r w' => ∃ v, r = .returned v ∧ ErrIs w' 0 v ∧ AtK B G' w' p D2 ∧ Below B u w' ∧ KeptG G' u w') := Lib.hid (fun G' u a c hA hl ha =>
    lay_is hA a [crW (crS q' nx e' H L)] c (by rw [Bk.flat_one]; exact hl) ha (by show 1 ≤ 100000; omega) (by rw [hw.2]; show 0 + 1 + 1 < 2 ^ 40; omega) (by have := hdd.2; show D1.deeds + 1 + 2 < 2 ^ 60; omega) D2 0 e2)
  have HA := Lib.hid h
  obtain ⟨_, y1, y2, y3, y4, y5, _⟩ := h.st.cs
  have s1 : w.cell? ⟨s, 1, none⟩ = some (.int .i64 (q : Int)) := y1
  have s2 : w.cell? ⟨s, 2, none⟩ = some (.int .i64 (hd : Int)) := y2
  have s3 : w.cell? ⟨s, 3, none⟩ = some (.int .i64 e) := y3
  have s4 : w.cell? ⟨s, 4, none⟩ = some (.int .i64 (H : Int)) := y4
  have s5 : w.cell? ⟨s, 5, none⟩ = some (.int .i64 (L : Int)) := y5
  clear y1 y2 y3 y4 y5
  have t6 : (w.alloc (.cells #[.int .i64 (q : Int), .int .i64 (hd : Int), .int .i64 e, .int .i64 (H : Int), .int .i64 (L : Int)] 152)).cell? ⟨s, 6, none⟩ = some (.pointer (some ⟨lq, 0, none⟩)) := (h.st.below ((Below.refl _ _).alloc (Nat.le_refl _) _)).cs.2.2.2.2.2.2.1
  have HCut : Hid (∀ (G' : Nat → Prop) u, LogAt B G' u lq p D2 fr L hd nx e → Calls Tryz.prog 198 #[.pointer (some ⟨lq, 0, none⟩), .int .i64 e'] u fun r w' => r = .returned (.int .i64 0) ∧ LogAt B G' w' lq p D2 fr L nx nx e' ∧ Below B u w' ∧ KeptG G' u w') := Lib.hid (fun G' u hu => Cut_yes hu e' (by omega) (by omega))
  have hw1 : IntKind.i64.wrap ((q : Int) + 1) = (q' : Int) := by rw [IntKind.wrap_i64]; omega
  have hw2 : IntKind.i64.wrap (e + 1) = e' := by rw [IntKind.wrap_i64]; omega
  have HCW : Hid ((crW (crS q' nx e' H L)).val = .agg (crW (crS q' nx e' H L)).cells.toArray) := Lib.hid rfl
  have hne : s ≠ w.heap.size := by have := h.st.lt; omega
  clear h hf hok hw hdd e1 e2 hX hvC' hcc hp1
  generalize crW (crS q' nx e' H L) = cw at *
  generalize 3 * pgs H = M at *
  have BA := Lib.hid ((Below.refl w.heap.size w).alloc (Nat.le_refl _) (.cells #[.int .i64 (q : Int), .int .i64 (hd : Int), .int .i64 e, .int .i64 (H : Int), .int .i64 (L : Int)] 152))
  go_enter Tryz.func173, Tryz.ntmps173
  go_upto_region 2 with fail
  go_cut [2] (fun s2 wx => s2 = .nilIface ∧ wx = (w.alloc (.cells #[.int .i64 ((q : Int) + 1), .int .i64 (nx : Int), .int .i64 (e + 1), .int .i64 (H : Int), .int .i64 (L : Int)] 152)).drew)
  case first =>
    go_region_law (first
      | (go_simp
         go_at_call 196
         refine (Next_is (HA.out.lg.c.below (by first | exact BA.out | exact BA.out.drew))).mono ?_
         rintro r' w' ⟨rfl, rfl⟩))
    all_goals
      go_wp2_with fail
      go_meet
      exact ⟨rfl, rfl⟩
  case rest =>
  obtain ⟨rfl, hw⟩ := hcut
  clear t6 s1 s2 s3 s4 s5 hw1 hw2
  have HB := Lib.hid HA.out.le
  have H2 : Hid (StAt B (fun k => G k ∨ k = w.heap.size) wc s p lq D fr L hd nx e (crS q hd e H L) X Y false vC vW ∧ Row5 wc w.heap.size (.int .i64 (q' : Int)) (.int .i64 (nx : Int)) (.int .i64 e') (.int .i64 (H : Int)) (.int .i64 (L : Int)) ∧ Below w.heap.size w wc) := Lib.hid (by
    have hqq : (q : Int) + 1 = (q' : Int) := by omega
    rw [hqq, ← he'] at hw
    have b2 : Below w.heap.size w wc := by rw [hw]; exact ((Below.refl _ _).alloc (Nat.le_refl _) _).drew
    have rn : Row5 wc w.heap.size (.int .i64 (q' : Int)) (.int .i64 (nx : Int)) (.int .i64 e') (.int .i64 (H : Int)) (.int .i64 (L : Int)) := by rw [hw]; exact (Row5.made w _ _ _ _ _ _).below (Below.refl _ _).drew
    exact ⟨(HA.out.more b2).mono (fun k r => r.imp id (fun r => by subst r; exact ⟨Nat.le_refl _, rn.lt⟩)), rn, b2⟩)
  clear hw
  clear hne hq' he'
  generalize hgn : w.heap.size = gn at *
  have HGN := Lib.hid hgn
  clear hgn
  obtain ⟨s0, _, _, _, _, _, s6, s7, s8, s9⟩ := H2.out.1.st.cs
  obtain ⟨n0, n1, n2, n3, n4⟩ := H2.out.2.1.cells (Below.refl _ _)
  obtain ⟨ck, cb⟩ := cw
  have HK' : Hid (∀ u, Calls Tryz.prog 168 #[.agg #[.int .i64 (q' : Int), .int .i64 (nx : Int), .int .i64 e', .int .i64 (H : Int), .int .i64 (L : Int)]] u fun r w' => r = .returned (.agg #[.int .i64 ck, .string cb]) ∧ Below u.heap.size u w') := HK
  clear HK HCW
  go_wp2_with (first
    | (go_at_call 197
       refine (HRi.out _).mono ?_
       rintro r' w3 ⟨rfl, b3⟩
       have H3 := Lib.hid (And.intro (H2.out.1.below b3) (And.intro (H2.out.2.1.below b3) (H2.out.2.2.trans (b3.mono (Nat.le_of_lt H2.out.2.1.lt)))))
       clear b3))
  clear s0 s6 s7 s8 s9 n0 n1 n2 n3 n4
  have HC3 : Hid (∀ u, Below w3.heap.size w3 u → (u.cell? ⟨s, 0, none⟩ = some (.pointer (some ⟨p, 0, none⟩)) ∧ u.cell? ⟨s, 6, none⟩ = some (.pointer (some ⟨lq, 0, none⟩)) ∧ u.cell? ⟨s, 7, none⟩ = some vC ∧ u.cell? ⟨gn, 0, none⟩ = some (.int .i64 (q' : Int)) ∧ u.cell? ⟨gn, 1, none⟩ = some (.int .i64 (nx : Int)) ∧ u.cell? ⟨gn, 2, none⟩ = some (.int .i64 e') ∧ u.cell? ⟨gn, 3, none⟩ = some (.int .i64 (H : Int)) ∧ u.cell? ⟨gn, 4, none⟩ = some (.int .i64 (L : Int)))) := Lib.hid (fun u b => by
    obtain ⟨s0, _, _, _, _, _, s6, s7, _, _⟩ := (H3.out.1.st.below b).cs
    obtain ⟨n0, n1, n2, n3, n4⟩ := H3.out.2.1.cells b
    exact ⟨s0, s6, s7, n0, n1, n2, n3, n4⟩)
  obtain ⟨s0, s6, s7, n0, n1, n2, n3, n4⟩ := HC3.out _ (Below.refl _ _)
  go_region_held3 (fun u => u.cell? ⟨s, 0, none⟩ = some (.pointer (some ⟨p, 0, none⟩)) ∧ u.cell? ⟨s, 6, none⟩ = some (.pointer (some ⟨lq, 0, none⟩)) ∧ u.cell? ⟨s, 7, none⟩ = some vC ∧ u.cell? ⟨gn, 0, none⟩ = some (.int .i64 (q' : Int)) ∧ u.cell? ⟨gn, 1, none⟩ = some (.int .i64 (nx : Int)) ∧ u.cell? ⟨gn, 2, none⟩ = some (.int .i64 e') ∧ u.cell? ⟨gn, 3, none⟩ = some (.int .i64 (H : Int)) ∧ u.cell? ⟨gn, 4, none⟩ = some (.int .i64 (L : Int))) (first
      | assumption
      | exact HC3.out _ (Below.refl _ _)
      | exact HC3.out _ (Below.refl _ _).drew
      | exact HC3.out _ H4.out.1
      | exact HC5.out _ (Below.refl _ _)) (first
    | (go_at_call 166
       refine (HPa.out _ (H3.out.1.st.below (by first | exact Below.refl _ _ | exact (Below.refl _ _).drew))).mono ?_
       rintro r' w4 ⟨v4, rfl, b4, o4⟩
       obtain ⟨a4, k4, rfl, l4, q4⟩ := own_formK o4
       have b34 : Below w3.heap.size w3 w4 := (by first | exact Below.refl _ _ | exact (Below.refl _ _).drew : Below w3.heap.size w3 _).trans (b4.mono (by first | exact Nat.le_refl _ | simp))
       have H4 := Lib.hid (And.intro b34 (And.intro l4 (show ∀ b : Addr, a4 = some b → (w3.heap.size ≤ b.block ∧ b.block < w4.heap.size) from fun b hb => by
         rcases q4 with q | ⟨g, q, q2, q3⟩
         · rw [q] at hb; cases hb
         · rw [q] at hb
           obtain rfl := Option.some.inj hb
           exact ⟨by first | exact q2 | simpa using q2, q3⟩)))
       clear b4 o4 l4 q4 b34)
    | (go_at_call 163
       refine (HL1.out _ _ a4 k4 (H3.out.1.more H4.out.1).lg.d H4.out.2.1 (fun b hb => .inl (.inl (.inr (H4.out.2.2 b hb))))).mono ?_
       rintro r' w5 ⟨v5, rfl, v5e, A5, b5, k5⟩
       obtain rfl := v5e.nil
       have H5 := Lib.hid (And.intro (((H3.out.1.more H4.out.1).disk A5 k5).mono (G' := fun k => G k ∨ k = gn) (fun k r => .inl r)) (And.intro ((H3.out.2.1.below H4.out.1).same b5.size (k5 gn (.inl (.inl (.inl (.inr rfl)))))) (And.intro (((H3.out.2.2.mono HB.out).trans (H4.out.1.mono (H3.out.1.le))).trans b5) (KeptG.trans (KeptG.trans (show KeptG G w w3 from fun k g => H3.out.2.2.block k (by rw [← HGN.out]; exact HA.out.lg.d.lt k (.inl (.inl g)))) ((H3.out.1.keptG H4.out.1).mono (fun k r => .inl r))) (k5.mono (fun k r => .inl (.inl (.inl (.inl r)))))))))
       have HC5 : Hid (∀ u, Below w5.heap.size w5 u → (u.cell? ⟨s, 0, none⟩ = some (.pointer (some ⟨p, 0, none⟩)) ∧ u.cell? ⟨s, 6, none⟩ = some (.pointer (some ⟨lq, 0, none⟩)) ∧ u.cell? ⟨s, 7, none⟩ = some vC ∧ u.cell? ⟨gn, 0, none⟩ = some (.int .i64 (q' : Int)) ∧ u.cell? ⟨gn, 1, none⟩ = some (.int .i64 (nx : Int)) ∧ u.cell? ⟨gn, 2, none⟩ = some (.int .i64 e') ∧ u.cell? ⟨gn, 3, none⟩ = some (.int .i64 (H : Int)) ∧ u.cell? ⟨gn, 4, none⟩ = some (.int .i64 (L : Int)))) := Lib.hid (fun u b => by
         obtain ⟨s0, _, _, _, _, _, s6, s7, _, _⟩ := (H5.out.1.st.below b).cs
         obtain ⟨n0, n1, n2, n3, n4⟩ := H5.out.2.1.cells b
         exact ⟨s0, s6, s7, n0, n1, n2, n3, n4⟩)
       clear v5e A5 b5 k5))
  clear s0 s6 s7 n0 n1 n2 n3 n4
  obtain ⟨s0, s6, s7, n0, n1, n2, n3, n4⟩ := HC5.out _ (Below.refl _ _)
  go_wp2
  go_region_held3 (fun u => u.cell? ⟨s, 0, none⟩ = some (.pointer (some ⟨p, 0, none⟩)) ∧ u.cell? ⟨s, 6, none⟩ = some (.pointer (some ⟨lq, 0, none⟩)) ∧ u.cell? ⟨s, 7, none⟩ = some vC ∧ u.cell? ⟨gn, 0, none⟩ = some (.int .i64 (q' : Int)) ∧ u.cell? ⟨gn, 1, none⟩ = some (.int .i64 (nx : Int)) ∧ u.cell? ⟨gn, 2, none⟩ = some (.int .i64 e') ∧ u.cell? ⟨gn, 3, none⟩ = some (.int .i64 (H : Int)) ∧ u.cell? ⟨gn, 4, none⟩ = some (.int .i64 (L : Int))) (first
      | assumption
      | exact HC5.out _ (Below.refl _ _)
      | exact HC5.out _ (Below.refl _ _).drew
      | exact HC5.out _ b6
      | exact HC5.out _ (b6.alloc b6.size _)
      | exact HC8.out _ (Below.refl _ _)) (first
    | (go_at_call 168
       refine (HK'.out _).mono ?_
       rintro r' w6 ⟨rfl, b6⟩
       replace b6 : Below w5.heap.size w5 w6 := (by first | exact Below.refl _ _ | exact (Below.refl _ _).drew : Below w5.heap.size w5 _).trans (b6.mono (by first | exact Nat.le_refl _ | simp)))
    | (go_at_call 163
       have b6a : Below w5.heap.size w5 (w6.alloc (.cells #[.int .i64 ck, .string cb] 210)) := b6.alloc b6.size _
       refine (HL2.out _ _ (some ⟨w6.heap.size, 0, none⟩) 1 (H5.out.1.more b6a).lg.d (fun n v hv => ⟨_, rfl, by simp, World.news_of_block (heap_alloc_last _ _) n v hv⟩) (fun b hb => .inl (.inl (.inr (by
         obtain rfl := Option.some.inj hb
         exact ⟨b6.size, by simp⟩))))).mono ?_
       rintro r' w8 ⟨v8, rfl, v8e, A8, b8, k8⟩
       obtain rfl := v8e.nil
       have H8 := Lib.hid (And.intro (((H5.out.1.more b6a).disk A8 k8).mono (G' := fun k => G k ∨ k = gn) (fun k r => .inl r)) (And.intro ((H5.out.2.1.below b6a).same b8.size (k8 gn (.inl (.inl (.inl (.inr rfl)))))) (And.intro ((b6a.mono H5.out.1.le).trans b8) (KeptG.trans ((H5.out.1.keptG b6a).mono (fun k r => .inl r)) (k8.mono (fun k r => .inl (.inl (.inl (.inl r)))))))))
       have HC8 : Hid (∀ u, Below w8.heap.size w8 u → (u.cell? ⟨s, 0, none⟩ = some (.pointer (some ⟨p, 0, none⟩)) ∧ u.cell? ⟨s, 6, none⟩ = some (.pointer (some ⟨lq, 0, none⟩)) ∧ u.cell? ⟨s, 7, none⟩ = some vC ∧ u.cell? ⟨gn, 0, none⟩ = some (.int .i64 (q' : Int)) ∧ u.cell? ⟨gn, 1, none⟩ = some (.int .i64 (nx : Int)) ∧ u.cell? ⟨gn, 2, none⟩ = some (.int .i64 e') ∧ u.cell? ⟨gn, 3, none⟩ = some (.int .i64 (H : Int)) ∧ u.cell? ⟨gn, 4, none⟩ = some (.int .i64 (L : Int)))) := Lib.hid (fun u b => by
         obtain ⟨s0, _, _, _, _, _, s6, s7, _, _⟩ := (H8.out.1.st.below b).cs
         obtain ⟨n0, n1, n2, n3, n4⟩ := H8.out.2.1.cells b
         exact ⟨s0, s6, s7, n0, n1, n2, n3, n4⟩)
       clear v8e A8 b8 k8 b6a))
  clear s0 s6 s7 n0 n1 n2 n3 n4
  obtain ⟨s0, s6, s7, n0, n1, n2, n3, n4⟩ := HC8.out _ (Below.refl _ _)
  obtain ⟨_, s1, s2, s3, s4, s5, _⟩ := H8.out.1.st.cs
  have f1 := H8.out.1.st.frozen 1
  have f2 := H8.out.1.st.frozen 2
  have f3 := H8.out.1.st.frozen 3
  have f4 := H8.out.1.st.frozen 4
  have f5 := H8.out.1.st.frozen 5
  go_wp2
  clear s0 s1 s2 s3 s4 s5 s6 s7 f1 f2 f3 f4 f5 n0 n1 n2 n3 n4
  have HS5 := H8.out.1.super5 (q' : Int) (nx : Int) e' (H : Int) (L : Int)
  have H9 : Hid (StAt B (fun k => G k ∨ k = gn) (((((w8.setCell ⟨s, 1, none⟩ (.int .i64 (q' : Int))).setCell ⟨s, 2, none⟩ (.int .i64 (nx : Int))).setCell ⟨s, 3, none⟩ (.int .i64 e')).setCell ⟨s, 4, none⟩ (.int .i64 (H : Int))).setCell ⟨s, 5, none⟩ (.int .i64 (L : Int))) s p lq D2 fr L hd nx e (crS q' nx e' H L) X Y false vC vW ∧ Row5 (((((w8.setCell ⟨s, 1, none⟩ (.int .i64 (q' : Int))).setCell ⟨s, 2, none⟩ (.int .i64 (nx : Int))).setCell ⟨s, 3, none⟩ (.int .i64 e')).setCell ⟨s, 4, none⟩ (.int .i64 (H : Int))).setCell ⟨s, 5, none⟩ (.int .i64 (L : Int))) gn (.int .i64 (q' : Int)) (.int .i64 (nx : Int)) (.int .i64 e') (.int .i64 (H : Int)) (.int .i64 (L : Int)) ∧ Below B w8 (((((w8.setCell ⟨s, 1, none⟩ (.int .i64 (q' : Int))).setCell ⟨s, 2, none⟩ (.int .i64 (nx : Int))).setCell ⟨s, 3, none⟩ (.int .i64 e')).setCell ⟨s, 4, none⟩ (.int .i64 (H : Int))).setCell ⟨s, 5, none⟩ (.int .i64 (L : Int))) ∧ KeptG G w8 (((((w8.setCell ⟨s, 1, none⟩ (.int .i64 (q' : Int))).setCell ⟨s, 2, none⟩ (.int .i64 (nx : Int))).setCell ⟨s, 3, none⟩ (.int .i64 e')).setCell ⟨s, 4, none⟩ (.int .i64 (H : Int))).setCell ⟨s, 5, none⟩ (.int .i64 (L : Int)))) := Lib.hid ⟨HS5.1, H8.out.2.1.same HS5.2.1.size (HS5.2.2 gn (.inr rfl)), HS5.2.1, HS5.2.2.mono (fun k r => .inl r)⟩
  clear HS5
  generalize (((((w8.setCell ⟨s, 1, none⟩ (.int .i64 (q' : Int))).setCell ⟨s, 2, none⟩ (.int .i64 (nx : Int))).setCell ⟨s, 3, none⟩ (.int .i64 e')).setCell ⟨s, 4, none⟩ (.int .i64 (H : Int))).setCell ⟨s, 5, none⟩ (.int .i64 (L : Int))) = w9 at *
  have HC9 : Hid (∀ u, Below w9.heap.size w9 u → (u.cell? ⟨s, 0, none⟩ = some (.pointer (some ⟨p, 0, none⟩)) ∧ u.cell? ⟨s, 6, none⟩ = some (.pointer (some ⟨lq, 0, none⟩)) ∧ u.cell? ⟨s, 7, none⟩ = some vC ∧ u.cell? ⟨gn, 0, none⟩ = some (.int .i64 (q' : Int)) ∧ u.cell? ⟨gn, 1, none⟩ = some (.int .i64 (nx : Int)) ∧ u.cell? ⟨gn, 2, none⟩ = some (.int .i64 e') ∧ u.cell? ⟨gn, 3, none⟩ = some (.int .i64 (H : Int)) ∧ u.cell? ⟨gn, 4, none⟩ = some (.int .i64 (L : Int)))) := Lib.hid (fun u b => by
         obtain ⟨s0, _, _, _, _, _, s6, s7, _, _⟩ := (H9.out.1.st.below b).cs
         obtain ⟨n0, n1, n2, n3, n4⟩ := H9.out.2.1.cells b
         exact ⟨s0, s6, s7, n0, n1, n2, n3, n4⟩)
  obtain ⟨s0, s6, s7, n0, n1, n2, n3, n4⟩ := HC9.out _ (Below.refl _ _)
  go_region_held3 (fun u => u.cell? ⟨s, 0, none⟩ = some (.pointer (some ⟨p, 0, none⟩)) ∧ u.cell? ⟨s, 6, none⟩ = some (.pointer (some ⟨lq, 0, none⟩)) ∧ u.cell? ⟨s, 7, none⟩ = some vC ∧ u.cell? ⟨gn, 0, none⟩ = some (.int .i64 (q' : Int)) ∧ u.cell? ⟨gn, 1, none⟩ = some (.int .i64 (nx : Int)) ∧ u.cell? ⟨gn, 2, none⟩ = some (.int .i64 e') ∧ u.cell? ⟨gn, 3, none⟩ = some (.int .i64 (H : Int)) ∧ u.cell? ⟨gn, 4, none⟩ = some (.int .i64 (L : Int))) (first
      | assumption
      | exact HC9.out _ (Below.refl _ _)
      | exact HC9.out _ (Below.refl _ _).drew
      | exact HC10.out _ (Below.refl _ _)
      | exact HC10.out _ (Below.refl _ _).drew
      | exact HC10.out _ H11.out
      | exact HC10.out _ H12.out) (first
    | (go_at_call 198
       refine (HCut.out _ _ (by first | exact H9.out.1.lg | exact H9.out.1.lg.drew)).mono ?_
       rintro r' w10 ⟨rfl, A10, b10, k10⟩
       have h10 := (by first | exact H9.out.1.log A10 k10 | exact (H9.out.1.below (Below.refl _ _).drew).log A10 k10 : StAt B (fun k => G k ∨ k = gn) w10 s p lq D2 fr L nx nx e' (crS q' nx e' H L) X Y false vC vW)
       have b10' : Below B w9 w10 := by first | exact b10 | exact ((Below.refl B w9).drew).trans b10
       have H10 := Lib.hid (And.intro h10 (And.intro (H9.out.2.1.same b10'.size (k10 gn (.inl (.inr rfl)))) (And.intro b10' (show KeptG G w9 w10 from k10.mono (fun k r => .inl (.inl r))))))
       have HC10 : Hid (∀ u, Below w10.heap.size w10 u → (u.cell? ⟨s, 0, none⟩ = some (.pointer (some ⟨p, 0, none⟩)) ∧ u.cell? ⟨s, 6, none⟩ = some (.pointer (some ⟨lq, 0, none⟩)) ∧ u.cell? ⟨s, 7, none⟩ = some vC ∧ u.cell? ⟨gn, 0, none⟩ = some (.int .i64 (q' : Int)) ∧ u.cell? ⟨gn, 1, none⟩ = some (.int .i64 (nx : Int)) ∧ u.cell? ⟨gn, 2, none⟩ = some (.int .i64 e') ∧ u.cell? ⟨gn, 3, none⟩ = some (.int .i64 (H : Int)) ∧ u.cell? ⟨gn, 4, none⟩ = some (.int .i64 (L : Int)))) := Lib.hid (fun u b => by
         obtain ⟨s0, _, _, _, _, _, s6, s7, _, _⟩ := (H10.out.1.st.below b).cs
         obtain ⟨n0, n1, n2, n3, n4⟩ := H10.out.2.1.cells b
         exact ⟨s0, s6, s7, n0, n1, n2, n3, n4⟩)
       clear A10 b10 k10 h10 b10')
    | (go_at_call 124
       refine (new_err 0 (q' : Int) _).mono ?_
       rintro r' w11 ⟨v11, rfl, b11, v11e⟩
       obtain rfl := v11e.nil
       have H11 := Lib.hid ((by first | exact Below.refl _ _ | exact (Below.refl _ _).drew : Below w10.heap.size w10 _).trans (b11.mono (by first | exact Nat.le_refl _ | simp)))
       clear b11 v11e)
    | (go_at_call 123
       refine (in_err 0 .nilIface _ _ (errNil _)).mono ?_
       rintro r' w12 ⟨v12, rfl, b12, v12e⟩
       obtain rfl := v12e.nil
       have H12 := Lib.hid ((by first | exact H11.out | exact H11.out.drew : Below w10.heap.size w10 _).trans (b12.mono (by first | exact H11.out.size | exact H11.out.drew.size)))
       clear b12 v12e))
  all_goals
    go_wp2
    go_ret
    exact ⟨rfl, (H10.out.1.below H12.out).mono (fun k r => .inl r), H5.out.2.2.1.trans (H8.out.2.2.1.trans (H9.out.2.2.1.trans (H10.out.2.2.1.trans (H12.out.mono H10.out.1.le)))), KeptG.trans H5.out.2.2.2 (KeptG.trans H8.out.2.2.2 (KeptG.trans H9.out.2.2.2 (KeptG.trans H10.out.2.2.2 ((H10.out.1.keptG H12.out).mono (fun k r => .inl r)))))⟩
end Go.Proofs.YtiiioeodanmieaaGreatDoor
