import Derived.Test.YtiiioeodanmieaaGreatDoorYStoreMark
set_option linter.unusedVariables false
set_option linter.unusedSimpArgs false
namespace Go.Proofs.YtiiioeodanmieaaGreatDoor
open Go.RowKit Sec
open Go.Proofs.YtiiioeodanmieaaGreatDoor.Bk

theorem crB_get {S : Sup} (h : supOk S = true) : cgetS (crB S) = S := by
  obtain ⟨m1, m2⟩ := cr_put h
  rw [cgetS_yes m1, m2]
section
variable {B : Nat} {G : Nat → Prop} {w : World} {p : Nat} {D : Dsk} {H L q hd nx : Nat} {e : Int} {K : Nat} {C : List Int}
theorem On.super (o : On D H L q hd nx e K C) (h : AtK B G w p D) (hq : q < 900000000) :
    Calls Tryz.prog 171 #[.pointer (some ⟨p, 0, none⟩)] w fun r w' => r = .returned (.tuple #[.agg #[.int .i64 (q : Int), .int .i64 (hd : Int), .int .i64 e, .int .i64 (H : Int), .int .i64 (L : Int)], .nilIface]) ∧ Below w.heap.size w w' := by
  have hm := o.many
  obtain ⟨C0, all, g, _, _, _⟩ := o.on
  have hl0 : 0 < D.now.length := by omega
  have hl1 : 1 < D.now.length := by omega
  have s0 := List.getElem?_eq_getElem hl0
  have s1 := List.getElem?_eq_getElem hl1
  obtain ⟨i0, i1, i2, _⟩ := g.newer s0 s1
  have hsz := h.shape.2.2.1
  have z0 := hsz _ (List.getElem_mem hl0)
  have z1 := hsz _ (List.getElem_mem hl1)
  have hq1 := g.q1
  have hme := g.me
  obtain ⟨hd', e', o1, o2⟩ := g.other
  rcases Nat.mod_two_eq_zero_or_one q with r | r
  · rw [r, s0] at hme
    rw [show (q + 1) % 2 = 1 by omega, s1] at o1
    have ca : cgetS D.now[0] = ⟨(q : Int), (hd : Int), e, (H : Int), (L : Int)⟩ := by rw [Option.some.inj hme]; exact crB_get g.ok
    have cb : cgetS D.now[1] = ⟨((q - 1 : Nat) : Int), (hd' : Int), e', (H : Int), (L : Int)⟩ := by rw [Option.some.inj o1]; exact crB_get o2
    exact superOf_is h o.st.on _ _ s0 s1 _ _ _ _ _ _ _ _ _ H L i0 i1 ca cb i2 (by omega) (by omega) ⟨by omega, by omega⟩ ⟨by omega, by omega⟩ (.inl (by omega)) o.ge hm ⟨by rw [z0]; unfold maxLen; omega, by rw [z1]; unfold maxLen; omega⟩
  · rw [r, s1] at hme
    rw [show (q + 1) % 2 = 0 by omega, s0] at o1
    have cb : cgetS D.now[1] = ⟨(q : Int), (hd : Int), e, (H : Int), (L : Int)⟩ := by rw [Option.some.inj hme]; exact crB_get g.ok
    have ca : cgetS D.now[0] = ⟨((q - 1 : Nat) : Int), (hd' : Int), e', (H : Int), (L : Int)⟩ := by rw [Option.some.inj o1]; exact crB_get o2
    exact superOf_is h o.st.on _ _ s0 s1 _ _ _ _ _ _ _ _ _ H L i0 i1 ca cb i2 (by omega) (by omega) ⟨by omega, by omega⟩ ⟨by omega, by omega⟩ (.inr (by omega)) o.ge hm ⟨by rw [z0]; unfold maxLen; omega, by rw [z1]; unfold maxLen; omega⟩
theorem On.store (o : On D H L q hd nx e K C) (h : AtK B G w p D) (hq : q < 900000000) (hn : nx < 900000000) (e0 : 0 ≤ e) (e1 : e < 900000000) :
    Calls Tryz.prog 172 #[.pointer (some ⟨p, 0, none⟩), .agg #[.int .i64 (q : Int), .int .i64 (hd : Int), .int .i64 e, .int .i64 (H : Int), .int .i64 (L : Int)]] w fun r w' => ∃ s lq vC vW, r = .returned (.tuple #[.pointer (some ⟨s, 0, none⟩), .nilIface]) ∧ StAt B G w' s p lq D ((2 + 6 * pgs H : Nat) : Int) L hd nx e (crS q hd e H L) (joinP C (pgs H)) (joinP C (pgs H)) false vC vW ∧ Below w.heap.size w w' := by
  obtain ⟨g1, g2, _, _⟩ := o.ge
  obtain ⟨C0, all, g, l, rfl, f⟩ := o.on
  have hp := (pgs_le g2).1
  exact storeOf_is h o.st.on q hd nx e H L o.ge (by omega) hn e0 e1 C0 g.cl (fun no hno => g.page (by omega) (by omega) hno) all l f
theorem On.marked {s lq : Nat} {Y : List Int} {vC vW : Value} (o : On D H L q hd nx e K C) (hlit : D.lit = false) (h : StAt B G w s p lq D ((2 + 6 * pgs H : Nat) : Int) L hd nx e (crS q hd e H L) (joinP C (pgs H)) Y false vC vW) (hK : K < 2 ^ 40) (hq : q < 900000000) (hn : nx < 900000000) (e0 : 0 ≤ e) (e1 : e < 900000000) :
    Calls Tryz.prog 173 #[.pointer (some ⟨s, 0, none⟩)] w fun r w' => r = .returned .nilIface ∧ ∃ D', StAt B G w' s p lq D' ((2 + 6 * pgs H : Nat) : Int) L nx nx (e + 1) (crS (q + 1) nx (e + 1) H L) (joinP C (pgs H)) Y false vC vW ∧ Below B w w' ∧ KeptG G w w' ∧ On D' H L (q + 1) nx nx (e + 1) (K + 3 * pgs H + 3) C ∧ D'.lit = false := by
  have hfin := o.fine
  have hlen := o.len
  have hm := o.many
  obtain ⟨g1, g2, _, _⟩ := o.ge
  obtain ⟨hp, hp2⟩ := pgs_le g2
  obtain ⟨hok, D1, D2, a1, a2, a3, a4⟩ := o.mark hlit hq (by omega) e0 e1
  obtain ⟨Dx, x1, x2, _⟩ := layR_calm o.st hlit (pagesW_fits (v := q + 1) hfin (P := pgs H) (by omega) (by omega) (by omega : 2 + 6 * pgs H ≤ D.now.length))
  rw [a1] at x1
  obtain rfl : D1 = Dx := (Prod.mk.inj x1).1
  have d0 := o.st.deeds
  have d1 := x2.deeds
  rw [pagesW_len] at d1
  rw [← pagesW_join (P := pgs H) (by omega : C.length ≤ 16 * pgs H)] at a1
  refine (mark_is h o.ge (joinP_len _ _) (joinP_fine hfin) (q + 1) (e + 1) rfl rfl hok ⟨o.st.waits, x2.waits⟩ ⟨by omega, by omega⟩ a1 a2).mono fun r w' ⟨he, h1, h2, h3⟩ => ⟨he, D2, h1, h2, h3, a3, a4⟩
set_option maxRecDepth 100000 in
set_option maxHeartbeats 2000000 in
theorem Open_ok (o : On D H L q hd nx e K C) (hlit : D.lit = false) (h : AtK B G w p D) (hK : K < 2 ^ 40) (hq : q < 900000000) (hn : nx < 900000000) (e0 : 0 ≤ e) (e1 : e < 900000000) :
    Calls Tryz.prog 152 #[.pointer (some ⟨p, 0, none⟩)] w fun r w' => ∃ s lq vC vW D', r = .returned (.tuple #[.pointer (some ⟨s, 0, none⟩), .nilIface]) ∧ StAt B G w' s p lq D' ((2 + 6 * pgs H : Nat) : Int) L nx nx (e + 1) (crS (q + 1) nx (e + 1) H L) (joinP C (pgs H)) (joinP C (pgs H)) false vC vW ∧ Below B w w' ∧ KeptG G w w' ∧ On D' H L (q + 1) nx nx (e + 1) (K + 3 * pgs H + 3) C ∧ D'.lit = false := by
  have HO := Lib.hid (fun u (hu : AtK B G u p D) => On_k hu)
  rw [o.st.on] at HO
  have HS := Lib.hid (fun u (hu : AtK B G u p D) => o.super hu hq)
  have HT := Lib.hid (fun u (hu : AtK B G u p D) => o.store hu hq hn e0 e1)
  have HM := Lib.hid (fun (s lq : Nat) (vC vW : Value) u (hu : StAt B G u s p lq D ((2 + 6 * pgs H : Nat) : Int) L hd nx e (crS q hd e H L) (joinP C (pgs H)) (joinP C (pgs H)) false vC vW) => o.marked hlit hu hK hq hn e0 e1)
  have HA := Lib.hid h
  clear h hlit hK hq hn e0 e1 o
  go_enter Tryz.func152, Tryz.ntmps152
  go_wp2_with (first
    | (go_at_call 169
       refine (HO.out _ HA.out).mono ?_
       rintro r' w' ⟨rfl, rfl⟩)
    | (go_at_call 171
       refine (HS.out _ HA.out).mono ?_
       rintro r' w1 ⟨rfl, b1⟩
       have H1 := Lib.hid (b1.alloc b1.size (.cells #[.int .i64 (q : Int), .int .i64 (hd : Int), .int .i64 e, .int .i64 (H : Int), .int .i64 (L : Int)] 152))
       clear b1)
    | (go_at_call 172
       refine (HT.out _ (HA.out.below H1.out)).mono ?_
       rintro r' w2 ⟨s, lq, vC, vW, rfl, A2, b2⟩
       have H2 := Lib.hid (And.intro A2 (H1.out.trans (b2.mono H1.out.size)))
       clear A2 b2)
    | (go_at_call 173
       refine (HM.out s lq vC vW _ H2.out.1).mono ?_
       rintro r' w3 ⟨rfl, D', A3, b3, k3, o3, l3⟩
       have H3 := Lib.hid (And.intro A3 (And.intro ((H2.out.2.mono HA.out.le).trans b3) (And.intro (KeptG.trans (KeptG.below HA.out H2.out.2) k3) (And.intro o3 l3))))
       clear A3 b3 k3 o3 l3))
  go_ret2
  exact ⟨s, lq, vC, vW, D', rfl, H3.out⟩
set_option maxRecDepth 100000 in
set_option maxHeartbeats 1000000 in
theorem Open_is (o : On D H L q hd nx e K C) (hlit : D.lit = false) (h : AtK B G w p D) (hK : K < 2 ^ 40) (hq : q < 900000000) (hn : nx < 900000000) (e0 : 0 ≤ e) (e1 : e < 900000000) :
    Calls Tryz.prog 116 #[.pointer (some ⟨p, 0, none⟩)] w fun r w' => ∃ s lq vC vW D', r = .returned (.tuple #[.pointer (some ⟨s, 0, none⟩), .int .i64 0]) ∧ StAt B G w' s p lq D' ((2 + 6 * pgs H : Nat) : Int) L nx nx (e + 1) (crS (q + 1) nx (e + 1) H L) (joinP C (pgs H)) (joinP C (pgs H)) false vC vW ∧ Below B w w' ∧ KeptG G w w' ∧ On D' H L (q + 1) nx nx (e + 1) (K + 3 * pgs H + 3) C ∧ D'.lit = false := by
  have HO := Lib.hid (Open_ok o hlit h hK hq hn e0 e1)
  clear h hlit hK hq hn e0 e1 o
  go_enter Tryz.func116, Tryz.ntmps116
  go_wp2_with (go_at_call 152
               refine HO.out.mono ?_
               rintro r' w1 ⟨s, lq, vC, vW, D', rfl, h1⟩
               have H1 := Lib.hid h1
               clear h1)
  go_ret2
  exact ⟨s, lq, vC, vW, D', rfl, H1.out⟩
end
end Go.Proofs.YtiiioeodanmieaaGreatDoor
