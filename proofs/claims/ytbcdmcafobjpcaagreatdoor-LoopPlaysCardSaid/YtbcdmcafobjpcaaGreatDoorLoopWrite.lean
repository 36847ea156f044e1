/- Package loop: write, add, Append: a group onto the disk, as a function on data. -/
import Derived.Test.YtbcdmcafobjpcaaGreatDoorLoopObj
import Derived.Test.YtbcdmcafobjpcaaGreatDoorEntryRun
import Derived.Test.YtbcdmcafobjpcaaGreatDoorEntryGet
namespace Go.Proofs.YtbcdmcafobjpcaaGreatDoor
open Go.RowKit Sec
open Go.Proofs.YtbcdmcafobjpcaaGreatDoor.Bk

/-- Entries one by one onto a log's sectors, up to the first that was not OK. -/
def wrGo (fr n : Int) : Dsk → List Ent → Dsk × Int
  | D, [] => (D, 0)
  | D, g :: r => if (wrD D (fr + g.l % n) (enB g)).2 = 0 then wrGo fr n (wrD D (fr + g.l % n) (enB g)).1 r else wrD D (fr + g.l % n) (enB g)
def wrAll (fr n : Int) (D : Dsk) (l : List Ent) : Dsk × Int := if (wrGo fr n D l).2 = 0 then barD (wrGo fr n D l).1 else wrGo fr n D l
theorem wrD_bounds (D : Dsk) (k : Int) (b : ByteArray) : (wrD D k b).1.waits.length ≤ D.waits.length + 1 ∧ (wrD D k b).1.deeds ≤ D.deeds + 1 := by
  have hd : ∀ E : Dsk, E.down.waits = E.waits ∧ E.down.deeds = E.deeds := fun E => by unfold Dsk.down; split <;> exact ⟨rfl, rfl⟩
  unfold wrD
  split
  · exact ⟨by simp, by simp⟩
  · split
    · exact ⟨by simp [Dsk.crash], by simp [Dsk.crash, Dsk.push]⟩
    · refine ⟨?_, ?_⟩
      · show (D.push k.toNat b).down.waits.length ≤ _
        rw [(hd _).1]; simp [Dsk.push]
      · show (D.push k.toNat b).down.deeds + 1 ≤ _
        rw [(hd _).2]; simp [Dsk.push]
theorem wrD_boundsR {D : Dsk} {k : Int} {b : ByteArray} {R : Dsk × Int} (h : wrD D k b = R) : R.1.waits.length ≤ D.waits.length + 1 ∧ R.1.deeds ≤ D.deeds + 1 := h ▸ wrD_bounds D k b
theorem LogAt.keptG {B : Nat} {G : Nat → Prop} {w w' : World} {q p : Nat} {D : Dsk} {fr n hd nx ep : Int} (h : LogAt B G w q p D fr n hd nx ep) (b : Below w.heap.size w w') : KeptG G w w' := fun k g => b.block k (h.d.lt k (.inl g))
theorem wrGo_at (fr n : Int) (D : Dsk) (L : List Ent) (k : Nat) (h : k < L.length) : wrGo fr n D (L.drop k) =
    if (wrD D (fr + L[k].l % n) (enB L[k])).2 = 0 then wrGo fr n (wrD D (fr + L[k].l % n) (enB L[k])).1 (L.drop (k + 1)) else wrD D (fr + L[k].l % n) (enB L[k]) := by
  rw [List.drop_eq_getElem_cons h, wrGo]

theorem liesAt_kept {G : Nat → Prop} {w w' : World} {a : Option Addr} {xs : List Value} (h : LiesAt w a xs) (hs : w.heap.size ≤ w'.heap.size) (k : KeptG G w w') (ha : ∀ b : Addr, a = some b → G b.block) : LiesAt w' a xs := fun j u hu => by
  obtain ⟨b, hb, hl, hc⟩ := h j u hu
  exact ⟨b, hb, Nat.lt_of_lt_of_le hl hs, (World.cell?_of_block (a := b.add j) (by rw [show (b.add j).block = b.block by unfold Addr.add; split <;> rfl]; exact k _ (ha b hb))).trans hc⟩

theorem new_two {w : World} {a b : Addr} {va vb : Value} (k : w.cell? a = some va ∧ w.cell? b = some vb) (x t : Int) : ∀ u, Below w.heap.size w u → Calls Tryz.prog 60 #[.int .i64 x, .int .i64 t] u fun e w' => ∃ v, e = .returned v ∧ (w'.cell? a = some va ∧ w'.cell? b = some vb) ∧ Below w.heap.size w w' ∧ ErrIs w' x v := fun u hu => (new_err x t u).mono fun e w' ⟨v, he, hb, hv⟩ => by
  have hc := hu.trans (hb.mono hu.size)
  exact ⟨v, he, ⟨(hc.cell (cell_lt k.1)).trans k.1, (hc.cell (cell_lt k.2)).trans k.2⟩, hc, hv⟩
theorem in_two {w : World} {a b : Addr} {va vb : Value} (k : w.cell? a = some va ∧ w.cell? b = some vb) (x : Int) (v : Value) (hv : ErrIs w x v) : ∀ (s : ByteArray) u, Below w.heap.size w u → Calls Tryz.prog 59 #[v, .string s] u fun e w' => ∃ v, e = .returned v ∧ (w'.cell? a = some va ∧ w'.cell? b = some vb) ∧ Below w.heap.size w w' ∧ ErrIs w' x v := fun s u hu => (in_err x v s u (hv.below hu)).mono fun e w' ⟨v, he, hb, hv⟩ => by
  have hc := hu.trans (hb.mono hu.size)
  exact ⟨v, he, ⟨(hc.cell (cell_lt k.1)).trans k.1, (hc.cell (cell_lt k.2)).trans k.2⟩, hc, hv⟩
set_option maxRecDepth 100000 in
set_option maxHeartbeats 2000000 in
theorem write_is {B : Nat} {G : Nat → Prop} {w : World} {q p : Nat} {D : Dsk} {fr n hd nx ep : Int} (h : LogAt B G w q p D fr n hd nx ep) (N : Nums fr n hd nx ep)
    (a : Option Addr) (L : List Ent) (c : Nat) (hL : LiesAt w a (flat Ent.cells L)) (ha : ∀ b : Addr, a = some b → G b.block) (hl : L.length ≤ 1001) (hok : ∀ e ∈ L, entOk e = true)
    (hwc : D.waits.length + L.length + 1 < 2 ^ 40) (hdd : D.deeds + L.length + 2 < 2 ^ 60) (D' : Dsk) (x : Int) (hx : wrAll fr n D L = (D', x)) :
    Calls Tryz.prog 61 #[.pointer (some ⟨q, 0, none⟩), .slice a L.length c] w fun e w' => ∃ v, e = .returned v ∧ ErrIs w' x v ∧ LogAt B G w' q p D' fr n hd nx ep ∧ Below B w w' ∧ KeptG G w w' := by
  have HN := Lib.hid N
  have H := Lib.hid (And.intro hL (And.intro ha hok))
  have HX := Lib.hid hx
  have HA : Hid (LogAt B G w q p D fr n hd nx ep) := Lib.hid h
  clear N hL ha hok h hx
  go_enter Tryz.func61, Tryz.ntmps61
  go_wp2
  go_loopw [12] (fun i wr => ∃ (k : Nat) (E : Dsk), k ≤ L.length ∧ i = .int .i64 (k : Int) ∧ Hid (LogAt B G wr q p E fr n hd nx ep ∧ Below B w wr ∧ KeptG G w wr ∧ wrGo fr n D L = wrGo fr n E (L.drop k) ∧ E.waits.length + (L.length - k) + 1 < 2 ^ 40 ∧ E.deeds + (L.length - k) + 2 < 2 ^ 60)) (fun i _ => L.length - (intOf i).toNat)
  case atStart => exact ⟨0, D, Nat.zero_le _, rfl, Lib.hid ⟨HA.out, Below.refl _ _, KeptG.refl, rfl, by omega, by omega⟩⟩
  case round =>
    obtain ⟨k, E, hk, rfl, HR⟩ := hrel
    by_cases hlt : k < L.length
    · have hLw := liesAt_kept H.out.1 HR.out.2.1.size HR.out.2.2.1 H.out.2.1
      obtain ⟨g1, o1, rfl, hg1, e1⟩ := hLw.elem Ent.len (by omega) (List.getElem?_eq_getElem hlt)
      have e1_0 := e1 0 _ rfl
      have e1_1 := e1 1 _ rfl
      have e1_2 := e1 2 _ rfl
      have e1_3 := e1 3 _ rfl
      have e1_4 := e1 4 _ rfl
      rw [Nat.add_zero] at e1_0
      clear e1 hLw
      have hokx := H.out.2.2 _ (List.getElem_mem hlt)
      have HW := Lib.hid (wrGo_at fr n E L k hlt)
      generalize L[k] = x at *
      obtain ⟨_, ⟨xl0, xl1⟩, _⟩ := ent_of hokx
      have HP := Lib.hid (fun u => eput_yes x hokx u)
      generalize hb : enB x = bx at *
      obtain ⟨xk, xl, xe, xc, xv⟩ := x
      simp only at e1_0 e1_1 e1_2 e1_3 e1_4 xl0 xl1
      simp only [Ent.val] at HP
      clear hokx hb
      have hi1 : (k : Int) < (L.length : Int) := by omega
      have hsz := HR.out.2.1.size
      have hz := HR.out.1.le
      have A0 : Hid (LogAt B (fun b => G b ∨ (wr.heap.size ≤ b ∧ b < (wr.alloc (.cells #[.int .i64 xk, .int .i64 xl, .int .i64 xe, .int .i64 xc, .int .i64 xv] 101)).heap.size)) (wr.alloc (.cells #[.int .i64 xk, .int .i64 xl, .int .i64 xe, .int .i64 xc, .int .i64 xv] 101)) q p E fr n hd nx ep) := Lib.hid (HR.out.1.more ((Below.refl _ _).alloc (Nat.le_refl _) _))
      go_wp2_with (go_at_call 79; refine (HP.out _).mono ?_; rintro e' w2 ⟨rfl, b2⟩; have A2 := Lib.hid (A0.out.below b2); have B2 := Lib.hid (((Below.refl wr.heap.size wr).alloc (Nat.le_refl _) (.cells #[.int .i64 xk, .int .i64 xl, .int .i64 xe, .int .i64 xc, .int .i64 xv] 101)).trans (b2.mono (by simp))); have s0 : w2.cell? ⟨wr.heap.size, 1, none⟩ = some (.int .i64 xl) := (b2.cell (by show wr.heap.size < _; simp)).trans (by simp); clear b2)
      have s1 := A2.out.c.c0
      have hq2 := cell_lt s1
      have hs2 := cell_lt s0
      have HC : Hid (∀ u, Below w2.heap.size w2 u → Calls Tryz.prog 81 #[.pointer (some ⟨q, 0, none⟩), .int .i64 xl] u fun e w' => e = .returned (.int .i64 (fr + xl % n)) ∧ Below w2.heap.size w2 w') := Lib.hid (fun u hu => (sectorOf_is (A2.out.c.below hu) HN.out xl xl0 (by omega)).mono fun e w' ⟨he, hb⟩ => ⟨he, hu.trans (hb.mono hu.size)⟩)
      have HV : Hid (∀ u, Below w2.heap.size w2 u → Calls Tryz.prog 80 #[.pointer (some ⟨p, 0, none⟩), .int .i64 (fr + xl % n), .string bx] u fun e w' => e = .returned (.int .i64 (wrD E (fr + xl % n) bx).2) ∧ (w'.cell? ⟨q, 0, none⟩ = some (.pointer (some ⟨p, 0, none⟩)) ∧ w'.cell? ⟨wr.heap.size, 1, none⟩ = some (.int .i64 xl)) ∧ LogAt B G w' q p (wrD E (fr + xl % n) bx).1 fr n hd nx ep ∧ Below B u w' ∧ KeptG G u w') := Lib.hid (fun u hu => by
        have A3 := A2.out.below hu
        refine (Write_k A3.d (fr + xl % n) bx (by have := HR.out.2.2.2.2.1; omega) (by have := HR.out.2.2.2.2.2; omega)).mono fun e w' ⟨he, h1, h2, h3⟩ => ?_
        have k1 := h3.cell ⟨q, 0, none⟩ (.inr rfl)
        have k2 := h3.cell ⟨wr.heap.size, 1, none⟩ (.inl (.inr (by show wr.heap.size ≤ wr.heap.size ∧ wr.heap.size < _; simp)))
        exact ⟨he, ⟨k1.trans A3.c.c0, k2.trans ((hu.cell hs2).trans s0)⟩, (A3.disk h1 h3).mono (fun b r => .inl r), h2, h3.mono (fun b r => .inl (.inl r))⟩)
      generalize hR : wrD E (fr + xl % n) bx = R at *
      go_region_held3 (fun u => u.cell? ⟨q, 0, none⟩ = some (.pointer (some ⟨p, 0, none⟩)) ∧ u.cell? ⟨wr.heap.size, 1, none⟩ = some (.int .i64 xl)) (first
          | assumption
          | exact ⟨s1, s0⟩
          | exact ⟨(b3.cell hq2).trans s1, (b3.cell hs2).trans s0⟩
          | exact k4
          | exact k5) (first
        | (go_at_call 81
           refine (HC.out _ ?_).mono ?_
           · first | exact Below.refl _ _ | exact (Below.refl _ _).drew
           rintro e' w3 ⟨rfl, b3⟩)
        | (go_at_call 80
           refine (HV.out _ ?_).mono ?_
           · first | exact b3 | exact b3.drew
           rintro e' w4 ⟨rfl, k4, A4, b4, g4⟩
           have HY := Lib.hid (new_two k4 R.2 xl))
        | (go_at_call 60
           refine (HY.out _ ?_).mono ?_
           · first | exact Below.refl _ _ | exact (Below.refl _ _).drew
           rintro e' w5 ⟨v5, rfl, k5, b5, v5e⟩))
      all_goals
        have Z := Lib.hid (And.intro (A4.below b5) (And.intro (HR.out.2.1.trans (((B2.out.trans (b3.mono B2.out.size)).mono hz).trans (b4.trans (b5.mono A4.le)))) (HR.out.2.2.1.trans ((HR.out.1.keptG (B2.out.trans (b3.mono B2.out.size))).trans (g4.trans (A4.keptG b5))))))
        have VE := Lib.hid v5e
        have HB := Lib.hid (wrD_boundsR hR)
        clear A4 b4 g4 k4 k5 HY b3 b5 s0 s1 hq2 hs2 HC HV A2 B2 A0 HP
        by_cases hx0 : R.2 = 0
        · have hv : v5 = .nilIface := by
            have := VE.out
            rw [hx0] at this
            exact this.nil
          subst hv
          have HE : Hid (wrGo fr n D L = wrGo fr n R.1 (L.drop (k + 1))) := Lib.hid (by rw [HR.out.2.2.2.1, HW.out, if_pos hx0])
          clear VE hx0
          go_wp2
          exact ⟨⟨k + 1, R.1, by omega, by go_num, Lib.hid ⟨Z.out.1, Z.out.2.1, Z.out.2.2, HE.out, by have := HR.out.2.2.2.2.1; have := HB.out.1; omega, by have := HR.out.2.2.2.2.2; have := HB.out.2; omega⟩⟩, by simp [intOf]; omega⟩
        · obtain ⟨tv, vv, rfl⟩ := VE.out.iface hx0
          have HE : Hid (R = (D', x)) := Lib.hid (by
            have h1 := HX.out
            rw [wrAll, HR.out.2.2.2.1, HW.out, if_neg hx0, if_neg hx0] at h1
            exact h1)
          go_wp2_with (go_at_call 59; refine (in_err R.2 _ _ _ VE.out).mono ?_; rintro e' w6 ⟨v6, rfl, b6, v6e⟩)
          go_ret
          obtain ⟨rfl, rfl⟩ : R.1 = D' ∧ R.2 = x := by have := HE.out; rw [this]; exact ⟨rfl, rfl⟩
          exact ⟨_, rfl, v6e, Z.out.1.below b6, Z.out.2.1.trans (b6.mono Z.out.1.le), Z.out.2.2.trans (Z.out.1.keptG b6)⟩
    · obtain rfl : k = L.length := by omega
      have hn1 : ¬ (L.length : Int) < (L.length : Int) := by omega
      have hX : barD E = (D', x) := by
        have h1 := HX.out
        rw [wrAll, HR.out.2.2.2.1, List.drop_length, wrGo, if_pos rfl] at h1
        exact h1
      have s1 := HR.out.1.c.c0
      have s4 := HR.out.1.c.c4
      have hq2 := HR.out.1.c.lt
      have HV : Hid (∀ u, Below wr.heap.size wr u → Calls Tryz.prog 82 #[.pointer (some ⟨p, 0, none⟩)] u fun e w' => e = .returned (.int .i64 x) ∧ (w'.cell? ⟨q, 0, none⟩ = some (.pointer (some ⟨p, 0, none⟩)) ∧ w'.cell? ⟨q, 4, none⟩ = some (.int .i64 nx)) ∧ LogAt B G w' q p D' fr n hd nx ep ∧ Below B u w' ∧ KeptG G u w') := Lib.hid (fun u hu => by
        have A3 := HR.out.1.below hu
        have hB := Barrier_k A3.d (by have := HR.out.2.2.2.2.2; omega)
        rw [hX] at hB
        refine hB.mono fun e w' ⟨he, h1, h2, h3⟩ => ?_
        have A4 := A3.disk h1 h3
        exact ⟨he, ⟨A4.c.c0, A4.c.c4⟩, A4, h2, h3.mono (fun b r => .inl r)⟩)
      clear hX hlt hk
      go_wp2
      go_region_held3 (fun u => u.cell? ⟨q, 0, none⟩ = some (.pointer (some ⟨p, 0, none⟩)) ∧ u.cell? ⟨q, 4, none⟩ = some (.int .i64 nx)) (first
          | assumption
          | exact ⟨s1, s4⟩
          | exact k4
          | exact k5
          | exact k6) (first
        | (go_at_call 82
           refine (HV.out _ ?_).mono ?_
           · first | exact Below.refl _ _ | exact (Below.refl _ _).drew
           rintro e' w4 ⟨rfl, k4, A4, b4, g4⟩
           have HY := Lib.hid (new_two k4 x nx))
        | (go_at_call 60
           refine (HY.out _ ?_).mono ?_
           · first | exact Below.refl _ _ | exact (Below.refl _ _).drew
           rintro e' w5 ⟨v5, rfl, k5, b5, v5e⟩
           have HI := Lib.hid (in_two k5 x v5 v5e))
        | (go_at_call 59
           refine (HI.out _ _ ?_).mono ?_
           · first | exact Below.refl _ _ | exact (Below.refl _ _).drew
           rintro e' w6 ⟨v6, rfl, k6, b6, v6e⟩))
      all_goals
        have A6 := (A4.below b5).below b6
        have g6 : KeptG G wr w6 := KeptG.trans (show KeptG G wr w4 from g4) ((A4.keptG b5).trans ((A4.below b5).keptG b6))
        have b6' : Below B wr w6 := ((Below.refl _ _).drew.trans (b4 : Below B wr.drew w4)).trans ((b5.mono A4.le).trans (b6.mono (A4.below b5).le))
        have Z := Lib.hid (And.intro v6e (And.intro A6 (And.intro b6' g6)))
        clear v6e A6 b6' g6 A4 g4 b4 b5 b6 k4 k5 k6 HY HI HV v5e
        go_wp2
        go_ret
        exact ⟨_, rfl, Z.out.1, Z.out.2.1, HR.out.2.1.trans Z.out.2.2.1, HR.out.2.2.1.trans Z.out.2.2.2⟩
end Go.Proofs.YtbcdmcafobjpcaaGreatDoor
