/- Package loop: read: the entry of an Lsn, or an error of number 2. -/
import Derived.Test.YtbcdmcafobjpcaaGreatDoorLoopObj
import Derived.Test.YtbcdmcafobjpcaaGreatDoorEntryGet
namespace Go.Proofs.YtbcdmcafobjpcaaGreatDoor
open Go.RowKit Sec
open Go.Proofs.YtbcdmcafobjpcaaGreatDoor.Bk

/-- The sector of an Lsn. -/
def secI (D : Dsk) (fr n lsn : Int) : ByteArray := D.at_ (fr + lsn % n)
/-- Does a sector tell an entry of just that Lsn and epoch? -/
def fitE (b : ByteArray) (lsn ep : Int) : Bool := enIs b && (decide ((entOf b).l = lsn) && decide ((entOf b).e = ep))
def readE (b : ByteArray) (lsn ep : Int) : Ent := if fitE b lsn ep = true then entOf b else entZ
def readX (b : ByteArray) (lsn ep : Int) : Int := if fitE b lsn ep = true then 0 else 2
theorem secI_size {B : Nat} {G : Nat → Prop} {w : World} {p : Nat} {D : Dsk} (h : AtK B G w p D) (fr n lsn : Int) (hn : 1 ≤ n) (hf : 0 ≤ fr) (hl : fr + n ≤ D.lasts.length) : (secI D fr n lsn).size = 32 ∧ D.has (fr + lsn % n) = true := by
  obtain ⟨h1, _, h2, _⟩ := h.shape
  have m0 : 0 ≤ lsn % n := Int.emod_nonneg lsn (by omega)
  have m1 : lsn % n < n := Int.emod_lt_of_pos lsn (by omega)
  have hk : (fr + lsn % n).toNat < D.now.length := by omega
  refine ⟨?_, by simp only [Dsk.has, decide_eq_true_eq]; omega⟩
  have e : secI D fr n lsn = D.now[(fr + lsn % n).toNat] := by simp [secI, Dsk.at_, List.getD, hk]
  rw [e]
  exact h2 _ (List.getElem_mem hk)

theorem bel_al {a w w' : World} {X : Obj} (h : Below a.heap.size a w) (b : Below (w.alloc X).heap.size (w.alloc X) w') : Below a.heap.size a w' := (h.alloc h.size X).trans (b.mono (by have := h.size; simp; omega))
theorem rd_no (lsn ep : Int) {ok ft : Bool} {en rE : Ent} {rX : Int} (hX : rX = if ft = true then 0 else 2) (hE : rE = if ft = true then en else entZ) (hF : ft = (ok && (decide (en.l = lsn) && decide (en.e = ep)))) (h : ok = false ∨ en.l ≠ lsn ∨ en.e ≠ ep) : rE = entZ ∧ rX = 2 := by
  have : ft = false := by
    rw [hF]
    rcases h with h | h | h
    · rw [h]; rfl
    · rw [decide_eq_false h, Bool.false_and, Bool.and_false]
    · rw [decide_eq_false h, Bool.and_false, Bool.and_false]
  rw [hX, hE, this]
  exact ⟨rfl, rfl⟩
theorem rd_yes (lsn ep : Int) {ok ft : Bool} {en rE : Ent} {rX : Int} (hX : rX = if ft = true then 0 else 2) (hE : rE = if ft = true then en else entZ) (hF : ft = (ok && (decide (en.l = lsn) && decide (en.e = ep)))) (h1 : ok = true) (h2 : en.l = lsn) (h3 : en.e = ep) : rE = en ∧ rX = 0 := by
  have : ft = true := by rw [hF, h1, decide_eq_true h2, decide_eq_true h3]; rfl
  rw [hX, hE, this]
  exact ⟨rfl, rfl⟩
theorem set5_off (u : World) (g : Nat) (v0 v1 v2 v3 v4 : Value) : ∀ b, b ≠ g → (((((u.setCell ⟨g, 0, none⟩ v0).setCell ⟨g, 1, none⟩ v1).setCell ⟨g, 2, none⟩ v2).setCell ⟨g, 3, none⟩ v3).setCell ⟨g, 4, none⟩ v4).heap[b]? = u.heap[b]? := fun b hb => by
  rw [heap_setCell_ne _ _ _ _ hb, heap_setCell_ne _ _ _ _ hb, heap_setCell_ne _ _ _ _ hb, heap_setCell_ne _ _ _ _ hb, heap_setCell_ne _ _ _ _ hb]
set_option maxRecDepth 100000 in
set_option maxHeartbeats 4000000 in
theorem read_is {B : Nat} {G : Nat → Prop} {w : World} {q p : Nat} {D : Dsk} {fr n hd nx ep : Int} (h : LogAt B G w q p D fr n hd nx ep) (N : Nums fr n hd nx ep) (hon : D.on = true) (hl : fr + n ≤ D.lasts.length) (k : Int) (h0 : 0 ≤ k) (h1 : k < 9223372036854775807) :
    Calls Tryz.prog 62 #[.pointer (some ⟨q, 0, none⟩), .int .i64 k] w fun e w' => ∃ v, e = .returned (.tuple #[(readE (secI D fr n k) k ep).val, v]) ∧ Below w.heap.size w w' ∧ ErrIs w' (readX (secI D fr n k) k ep) v := by
  obtain ⟨hb, hhas⟩ := secI_size h.d fr n k N.n1 N.f0 hl
  have hmay : D.mayR (fr + k % n) = 0 := by simp [Dsk.mayR, hon, hhas]
  have b0 : Below w.heap.size w (w.alloc (.cells #[.int .i64 0, .int .i64 0, .int .i64 0, .int .i64 0, .int .i64 0] 101)) := (Below.refl _ _).alloc (Nat.le_refl _) _
  have A0 : Hid (LogAt B G (w.alloc (.cells #[.int .i64 0, .int .i64 0, .int .i64 0, .int .i64 0, .int .i64 0] 101)) q p D fr n hd nx ep) := Lib.hid (h.below b0)
  have R0 : Hid (Row5 (w.alloc (.cells #[.int .i64 0, .int .i64 0, .int .i64 0, .int .i64 0, .int .i64 0] 101)) w.heap.size (.int .i64 0) (.int .i64 0) (.int .i64 0) (.int .i64 0) (.int .i64 0) ∧ Below w.heap.size w (w.alloc (.cells #[.int .i64 0, .int .i64 0, .int .i64 0, .int .i64 0, .int .i64 0] 101))) := Lib.hid ⟨Row5.made _ _ _ _ _ _ _, b0⟩
  have s0 := A0.out.c.c0
  have hq := A0.out.c.lt
  have HC : Hid (∀ u, Below (w.alloc (.cells #[.int .i64 0, .int .i64 0, .int .i64 0, .int .i64 0, .int .i64 0] 101)).heap.size (w.alloc (.cells #[.int .i64 0, .int .i64 0, .int .i64 0, .int .i64 0, .int .i64 0] 101)) u → Calls Tryz.prog 81 #[.pointer (some ⟨q, 0, none⟩), .int .i64 k] u fun e w' => e = .returned (.int .i64 (fr + k % n)) ∧ Below (w.alloc (.cells #[.int .i64 0, .int .i64 0, .int .i64 0, .int .i64 0, .int .i64 0] 101)).heap.size (w.alloc (.cells #[.int .i64 0, .int .i64 0, .int .i64 0, .int .i64 0, .int .i64 0] 101)) w') := Lib.hid (fun u hu => (sectorOf_is (A0.out.c.below hu) N k h0 h1).mono fun e w' ⟨he, hb⟩ => ⟨he, hu.trans (hb.mono hu.size)⟩)
  have HV : Hid (∀ u, Below (w.alloc (.cells #[.int .i64 0, .int .i64 0, .int .i64 0, .int .i64 0, .int .i64 0] 101)).heap.size (w.alloc (.cells #[.int .i64 0, .int .i64 0, .int .i64 0, .int .i64 0, .int .i64 0] 101)) u → Calls Tryz.prog 83 #[.pointer (some ⟨p, 0, none⟩), .int .i64 (fr + k % n)] u fun e w' => e = .returned (.tuple #[.string (secI D fr n k), .int .i64 0]) ∧ w' = u) := Lib.hid (fun u hu => by
    have := Read_k (A0.out.d.below hu) (fr + k % n)
    rw [if_pos hmay, hmay] at this
    exact this)
  have HG := Lib.hid (eget_is (secI D fr n k) (by unfold maxLen; omega))
  have c5 : Hid (∀ u, Below (w.alloc (.cells #[.int .i64 0, .int .i64 0, .int .i64 0, .int .i64 0, .int .i64 0] 101)).heap.size (w.alloc (.cells #[.int .i64 0, .int .i64 0, .int .i64 0, .int .i64 0, .int .i64 0] 101)) u → u.cell? ⟨q, 5, none⟩ = some (.int .i64 ep)) := Lib.hid (fun u hu => (hu.cell hq).trans A0.out.c.c5)
  have HF : Hid (fitE (secI D fr n k) k ep = (enIs (secI D fr n k) && (decide ((entOf (secI D fr n k)).l = k) && decide ((entOf (secI D fr n k)).e = ep)))) := Lib.hid rfl
  have HE : Hid (readE (secI D fr n k) k ep = if fitE (secI D fr n k) k ep = true then entOf (secI D fr n k) else entZ) := Lib.hid rfl
  have HX : Hid (readX (secI D fr n k) k ep = if fitE (secI D fr n k) k ep = true then 0 else 2) := Lib.hid rfl
  have HQ : Hid (egetS (secI D fr n k) = if enIs (secI D fr n k) = true then entOf (secI D fr n k) else entZ) := Lib.hid rfl
  clear h hb hhas hmay hon hl b0 N
  generalize readE (secI D fr n k) k ep = rE at *
  generalize readX (secI D fr n k) k ep = rX at *
  generalize fitE (secI D fr n k) k ep = ft at *
  generalize egetS (secI D fr n k) = eg at *
  generalize enIs (secI D fr n k) = ok at *
  generalize entOf (secI D fr n k) = en at *
  generalize secI D fr n k = b at *
  obtain ⟨gk, gl, ge, gc, gv⟩ := eg
  simp only [Ent.val] at HG
  go_enter Tryz.func62, Tryz.ntmps62
  go_wp2
  go_region_held3 (fun u => u.cell? ⟨q, 0, none⟩ = some (.pointer (some ⟨p, 0, none⟩))) (first
      | assumption
      | exact (b3.cell hq).trans s0) (first
    | (go_at_call 81
       refine (HC.out _ ?_).mono ?_
       · first | exact Below.refl _ _ | exact (Below.refl _ _).drew
       rintro e' w3 ⟨rfl, b3⟩)
    | (go_at_call 83
       refine (HV.out _ ?_).mono ?_
       · first | exact b3 | exact b3.drew
       rintro e' w4 ⟨rfl, rfl⟩))
  have HB3 := Lib.hid b3
  clear b3 s0 HC HV
  cases ok
  · obtain ⟨rfl, rfl⟩ := rd_no k ep HX.out HE.out HF.out (.inl rfl)
    go_wp2_with (first
      | (go_at_call 84; refine (HG.out _).mono ?_; rintro e' w5 ⟨rfl, b5⟩; have B5 := Lib.hid (HB3.out.trans (b5.mono HB3.out.size)))
      | (go_at_call 60; refine (new_err _ _ _).mono ?_; rintro e' w6 ⟨v6, rfl, b6, v6e⟩; have B6 := Lib.hid (bel_al B5.out b6))
      | (go_at_call 59
         refine (in_err _ _ _ _ v6e).mono ?_
         rintro e' w7 ⟨v7, rfl, b7, v7e⟩
         have B7 := Lib.hid (B6.out.trans (b7.mono B6.out.size))
         obtain ⟨_, z0, z1, z2, z3, z4, y0, y1, y2, y3, y4⟩ := R0.out.1.below B7.out))
    exact bodyPost_ret (results_cell2 rfl rfl ((R0.out.1.below B7.out).set5 _ _ _ _ _).loadE rfl) rfl ⟨_, rfl, Row5.kept (below_next R0.out.2 B7.out), v7e.off z0 (set5_off _ _ _ _ _ _ _)⟩
  · obtain rfl : en = ⟨gk, gl, ge, gc, gv⟩ := by have := HQ.out; rw [if_pos rfl] at this; exact this.symm
    by_cases hl : gl = k
    · subst hl
      by_cases he : ge = ep
      · subst he
        obtain ⟨rfl, rfl⟩ := rd_yes gl ge HX.out HE.out HF.out rfl rfl rfl
        go_wp2_with (first
          | (go_at_call 84; refine (HG.out _).mono ?_; rintro e' w5 ⟨rfl, b5⟩; have B5 := Lib.hid (HB3.out.trans (b5.mono HB3.out.size)); have B5' := Lib.hid (B5.out.alloc B5.out.size (.cells #[.int .i64 gk, .int .i64 gl, .int .i64 ge, .int .i64 gc, .int .i64 gv] 101)); have d5 := c5.out _ B5'.out; obtain ⟨hz, z0, z1, z2, z3, z4, y0, y1, y2, y3, y4⟩ := R0.out.1.below B5'.out))
        go_region
        all_goals
          go_wp2
          exact bodyPost_ret (results_cell2 rfl rfl ((R0.out.1.below B5'.out.drew).set5 _ _ _ _ _).loadE rfl) rfl ⟨_, rfl, Row5.kept (below_next R0.out.2 B5'.out.drew), errNil _⟩
      · obtain ⟨rfl, rfl⟩ := rd_no gl ep HX.out HE.out HF.out (.inr (.inr he))
        have hne : (ge == ep) = false := by simpa using he
        have hne2 : (ge != ep) = true := by simpa using he
        go_wp2_with (first
          | (go_at_call 84; refine (HG.out _).mono ?_; rintro e' w5 ⟨rfl, b5⟩; have B5 := Lib.hid (HB3.out.trans (b5.mono HB3.out.size)); have B5' := Lib.hid (B5.out.alloc B5.out.size (.cells #[.int .i64 gk, .int .i64 gl, .int .i64 ge, .int .i64 gc, .int .i64 gv] 101)); have d5 := c5.out _ B5'.out))
        go_region
        all_goals
          go_wp2_with (first
            | (go_at_call 60; refine (new_err _ _ _).mono ?_; rintro e' w6 ⟨v6, rfl, b6, v6e⟩; have B6 := Lib.hid (B5'.out.drew.trans (b6.mono B5'.out.size)))
            | (go_at_call 59
               refine (in_err _ _ _ _ v6e).mono ?_
               rintro e' w7 ⟨v7, rfl, b7, v7e⟩
               have B7 := Lib.hid (B6.out.trans (b7.mono B6.out.size))
               obtain ⟨_, z0, z1, z2, z3, z4, y0, y1, y2, y3, y4⟩ := R0.out.1.below B7.out))
          exact bodyPost_ret (results_cell2 rfl rfl ((R0.out.1.below B7.out).set5 _ _ _ _ _).loadE rfl) rfl ⟨_, rfl, Row5.kept (below_next R0.out.2 B7.out), v7e.off z0 (set5_off _ _ _ _ _ _ _)⟩
    · obtain ⟨rfl, rfl⟩ := rd_no k ep HX.out HE.out HF.out (.inr (.inl hl))
      have hne : (gl == k) = false := by simpa using hl
      have hne2 : (gl != k) = true := by simpa using hl
      go_wp2_with (first
        | (go_at_call 84; refine (HG.out _).mono ?_; rintro e' w5 ⟨rfl, b5⟩; have B5 := Lib.hid (HB3.out.trans (b5.mono HB3.out.size)))
        | (go_at_call 60; refine (new_err _ _ _).mono ?_; rintro e' w6 ⟨v6, rfl, b6, v6e⟩; have B6 := Lib.hid (bel_al B5.out b6))
        | (go_at_call 59
           refine (in_err _ _ _ _ v6e).mono ?_
           rintro e' w7 ⟨v7, rfl, b7, v7e⟩
           have B7 := Lib.hid (B6.out.trans (b7.mono B6.out.size))
           obtain ⟨_, z0, z1, z2, z3, z4, y0, y1, y2, y3, y4⟩ := R0.out.1.below B7.out))
      exact bodyPost_ret (results_cell2 rfl rfl ((R0.out.1.below B7.out).set5 _ _ _ _ _).loadE rfl) rfl ⟨_, rfl, Row5.kept (below_next R0.out.2 B7.out), v7e.off z0 (set5_off _ _ _ _ _ _ _)⟩
end Go.Proofs.YtbcdmcafobjpcaaGreatDoor
