import Derived.OwnWalk
import Derived.Test.YtbghglkplbnnkaaGreatDoorYLoopA
import Derived.Test.YtbghglkplbnnkaaGreatDoorYEntry
import Derived.Test.YtbghglkplbnnkaaGreatDoorYBook
set_option linter.unusedVariables false
set_option linter.unusedSimpArgs false
-- LoopRead
namespace Go.Proofs.YtbghglkplbnnkaaGreatDoor
open Go.RowKit Sec
open Go.Proofs.YtbghglkplbnnkaaGreatDoor.Bk

def secI (D : Dsk) (fr n lsn : Int) : ByteArray := D.at_ (fr + lsn % n)
def fitE (b : ByteArray) (lsn ep : Int) : Bool := enIs b && (decide ((entOf b).l = lsn) && decide ((entOf b).e = ep))
def readE (b : ByteArray) (lsn ep : Int) : Ent := if fitE b lsn ep = true then entOf b else entZ
def readX (b : ByteArray) (lsn ep : Int) : Int := if fitE b lsn ep = true then 0 else 2
theorem secI_size {B : Nat} {G : Nat → Prop} {w : World} {p : Nat} {D : Dsk} (h : AtK B G w p D) (fr n lsn : Int) (hn : 1 ≤ n) (hf : 0 ≤ fr) (hl : fr + n ≤ D.lasts.length) : (secI D fr n lsn).size = 32 ∧ D.has (fr + lsn % n) = true := by
  obtain ⟨h1, _, h2, _⟩ := h.shape
  have m0 : 0 ≤ lsn % n := Int.emod_nonneg lsn (by omega)
  have m1 : lsn % n < n := Int.emod_lt_of_pos lsn (by omega)
  have hk : (fr + lsn % n).toNat < D.now.length := by omega
  refine ⟨?_, by simp only [Dsk.has, decide_eq_true_eq]; omega⟩
  have e : secI D fr n lsn = D.now[(fr + lsn % n).toNat] := by simp [secI, Dsk.at_, List.getD, hk]
  rw [e]
  exact h2 _ (List.getElem_mem hk)

theorem bel_al {a w w' : World} {X : Obj} (h : Below a.heap.size a w) (b : Below (w.alloc X).heap.size (w.alloc X) w') : Below a.heap.size a w' := (h.alloc h.size X).trans (b.mono (by have := h.size; simp; omega))
theorem rd_no (lsn ep : Int) {ok ft : Bool} {en rE : Ent} {rX : Int} (hX : rX = if ft = true then 0 else 2) (hE : rE = if ft = true then en else entZ) (hF : ft = (ok && (decide (en.l = lsn) && decide (en.e = ep)))) (h : ok = false ∨ en.l ≠ lsn ∨ en.e ≠ ep) : rE = entZ ∧ rX = 2 := by
  have : ft = false := by
    rw [hF]
    rcases h with h | h | h
    · rw [h]; rfl
    · rw [decide_eq_false h, Bool.false_and, Bool.and_false]
    · rw [decide_eq_false h, Bool.and_false, Bool.and_false]
  rw [hX, hE, this]
  exact ⟨rfl, rfl⟩
theorem rd_yes (lsn ep : Int) {ok ft : Bool} {en rE : Ent} {rX : Int} (hX : rX = if ft = true then 0 else 2) (hE : rE = if ft = true then en else entZ) (hF : ft = (ok && (decide (en.l = lsn) && decide (en.e = ep)))) (h1 : ok = true) (h2 : en.l = lsn) (h3 : en.e = ep) : rE = en ∧ rX = 0 := by
  have : ft = true := by rw [hF, h1, decide_eq_true h2, decide_eq_true h3]; rfl
  rw [hX, hE, this]
  exact ⟨rfl, rfl⟩
theorem set5_off (u : World) (g : Nat) (v0 v1 v2 v3 v4 : Value) : ∀ b, b ≠ g → (((((u.setCell ⟨g, 0, none⟩ v0).setCell ⟨g, 1, none⟩ v1).setCell ⟨g, 2, none⟩ v2).setCell ⟨g, 3, none⟩ v3).setCell ⟨g, 4, none⟩ v4).heap[b]? = u.heap[b]? := fun b hb => by
  rw [heap_setCell_ne _ _ _ _ hb, heap_setCell_ne _ _ _ _ hb, heap_setCell_ne _ _ _ _ hb, heap_setCell_ne _ _ _ _ hb, heap_setCell_ne _ _ _ _ hb]
set_option maxRecDepth 100000 in
set_option maxHeartbeats 4000000 in
theorem read_is {B : Nat} {G : Nat → Prop} {w : World} {q p : Nat} {D : Dsk} {fr n hd nx ep : Int} (h : LogAt B G w q p D fr n hd nx ep) (N : Nums fr n hd nx ep) (hon : D.on = true) (hl : fr + n ≤ D.lasts.length) (k : Int) (h0 : 0 ≤ k) (h1 : k < 9223372036854775807) :
    Calls Tryz.prog 169 #[.pointer (some ⟨q, 0, none⟩), .int .i64 k] w fun e w' => ∃ v, e = .returned (.tuple #[(readE (secI D fr n k) k ep).val, v]) ∧ Below w.heap.size w w' ∧ ErrIs w' (readX (secI D fr n k) k ep) v := by
  obtain ⟨hb, hhas⟩ := secI_size h.d fr n k N.n1 N.f0 hl
  have hmay : D.mayR (fr + k % n) = 0 := by simp [Dsk.mayR, hon, hhas]
  have b0 : Below w.heap.size w (w.alloc (.cells #[.int .i64 0, .int .i64 0, .int .i64 0, .int .i64 0, .int .i64 0] 262)) := (Below.refl _ _).alloc (Nat.le_refl _) _
  have A0 : Hid (LogAt B G (w.alloc (.cells #[.int .i64 0, .int .i64 0, .int .i64 0, .int .i64 0, .int .i64 0] 262)) q p D fr n hd nx ep) := Lib.hid (h.below b0)
  have R0 : Hid (Row5 (w.alloc (.cells #[.int .i64 0, .int .i64 0, .int .i64 0, .int .i64 0, .int .i64 0] 262)) w.heap.size (.int .i64 0) (.int .i64 0) (.int .i64 0) (.int .i64 0) (.int .i64 0) ∧ Below w.heap.size w (w.alloc (.cells #[.int .i64 0, .int .i64 0, .int .i64 0, .int .i64 0, .int .i64 0] 262))) := Lib.hid ⟨Row5.made _ _ _ _ _ _ _, b0⟩
  have s0 := A0.out.c.c0
  have hq := A0.out.c.lt
  have HC : Hid (∀ u, Below (w.alloc (.cells #[.int .i64 0, .int .i64 0, .int .i64 0, .int .i64 0, .int .i64 0] 262)).heap.size (w.alloc (.cells #[.int .i64 0, .int .i64 0, .int .i64 0, .int .i64 0, .int .i64 0] 262)) u → Calls Tryz.prog 184 #[.pointer (some ⟨q, 0, none⟩), .int .i64 k] u fun e w' => e = .returned (.int .i64 (fr + k % n)) ∧ Below (w.alloc (.cells #[.int .i64 0, .int .i64 0, .int .i64 0, .int .i64 0, .int .i64 0] 262)).heap.size (w.alloc (.cells #[.int .i64 0, .int .i64 0, .int .i64 0, .int .i64 0, .int .i64 0] 262)) w') := Lib.hid (fun u hu => (sectorOf_is (A0.out.c.below hu) N k h0 h1).mono fun e w' ⟨he, hb⟩ => ⟨he, hu.trans (hb.mono hu.size)⟩)
  have HV : Hid (∀ u, Below (w.alloc (.cells #[.int .i64 0, .int .i64 0, .int .i64 0, .int .i64 0, .int .i64 0] 262)).heap.size (w.alloc (.cells #[.int .i64 0, .int .i64 0, .int .i64 0, .int .i64 0, .int .i64 0] 262)) u → Calls Tryz.prog 107 #[.pointer (some ⟨p, 0, none⟩), .int .i64 (fr + k % n)] u fun e w' => e = .returned (.tuple #[.string (secI D fr n k), .int .i64 0]) ∧ w' = u) := Lib.hid (fun u hu => by
    have := Read_k (A0.out.d.below hu) (fr + k % n)
    rw [if_pos hmay, hmay] at this
    exact this)
  have HG := Lib.hid (eget_is (secI D fr n k) (by unfold maxLen; omega))
  have c5 : Hid (∀ u, Below (w.alloc (.cells #[.int .i64 0, .int .i64 0, .int .i64 0, .int .i64 0, .int .i64 0] 262)).heap.size (w.alloc (.cells #[.int .i64 0, .int .i64 0, .int .i64 0, .int .i64 0, .int .i64 0] 262)) u → u.cell? ⟨q, 5, none⟩ = some (.int .i64 ep)) := Lib.hid (fun u hu => (hu.cell hq).trans A0.out.c.c5)
  have HF : Hid (fitE (secI D fr n k) k ep = (enIs (secI D fr n k) && (decide ((entOf (secI D fr n k)).l = k) && decide ((entOf (secI D fr n k)).e = ep)))) := Lib.hid rfl
  have HE : Hid (readE (secI D fr n k) k ep = if fitE (secI D fr n k) k ep = true then entOf (secI D fr n k) else entZ) := Lib.hid rfl
  have HX : Hid (readX (secI D fr n k) k ep = if fitE (secI D fr n k) k ep = true then 0 else 2) := Lib.hid rfl
  have HQ : Hid (egetS (secI D fr n k) = if enIs (secI D fr n k) = true then entOf (secI D fr n k) else entZ) := Lib.hid rfl
  clear h hb hhas hmay hon hl b0 N
  generalize readE (secI D fr n k) k ep = rE at *
  generalize readX (secI D fr n k) k ep = rX at *
  generalize fitE (secI D fr n k) k ep = ft at *
  generalize egetS (secI D fr n k) = eg at *
  generalize enIs (secI D fr n k) = ok at *
  generalize entOf (secI D fr n k) = en at *
  generalize secI D fr n k = b at *
  obtain ⟨gk, gl, ge, gc, gv⟩ := eg
  simp only [Ent.val] at HG
  go_enter Tryz.func169, Tryz.ntmps169
  go_wp2
  go_region_held3 (fun u => u.cell? ⟨q, 0, none⟩ = some (.pointer (some ⟨p, 0, none⟩))) (first
      | assumption
      | exact (b3.cell hq).trans s0) (first
    | (go_at_call 184
       refine (HC.out _ ?_).mono ?_
       · first | exact Below.refl _ _ | exact (Below.refl _ _).drew
       rintro e' w3 ⟨rfl, b3⟩)
    | (go_at_call 107
       refine (HV.out _ ?_).mono ?_
       · first | exact b3 | exact b3.drew
       rintro e' w4 ⟨rfl, rfl⟩))
  have HB3 := Lib.hid b3
  clear b3 s0 HC HV
  cases ok
  · obtain ⟨rfl, rfl⟩ := rd_no k ep HX.out HE.out HF.out (.inl rfl)
    go_wp2_with (first
      | (go_at_call 185; refine (HG.out _).mono ?_; rintro e' w5 ⟨rfl, b5⟩; have B5 := Lib.hid (HB3.out.trans (b5.mono HB3.out.size)))
      | (go_at_call 65; refine (new_err _ _ _).mono ?_; rintro e' w6 ⟨v6, rfl, b6, v6e⟩; have B6 := Lib.hid (bel_al B5.out b6))
      | (go_at_call 64
         refine (in_err _ _ _ _ v6e).mono ?_
         rintro e' w7 ⟨v7, rfl, b7, v7e⟩
         have B7 := Lib.hid (B6.out.trans (b7.mono B6.out.size))
         obtain ⟨_, z0, z1, z2, z3, z4, y0, y1, y2, y3, y4⟩ := R0.out.1.below B7.out))
    exact bodyPost_ret (results_cell2 rfl rfl ((R0.out.1.below B7.out).set5 _ _ _ _ _).loadE rfl) rfl ⟨_, rfl, Row5.kept (below_next R0.out.2 B7.out), v7e.off z0 (set5_off _ _ _ _ _ _ _)⟩
  · obtain rfl : en = ⟨gk, gl, ge, gc, gv⟩ := by have := HQ.out; rw [if_pos rfl] at this; exact this.symm
    by_cases hl : gl = k
    · subst hl
      by_cases he : ge = ep
      · subst he
        obtain ⟨rfl, rfl⟩ := rd_yes gl ge HX.out HE.out HF.out rfl rfl rfl
        go_wp2_with (first
          | (go_at_call 185; refine (HG.out _).mono ?_; rintro e' w5 ⟨rfl, b5⟩; have B5 := Lib.hid (HB3.out.trans (b5.mono HB3.out.size)); have B5' := Lib.hid (B5.out.alloc B5.out.size (.cells #[.int .i64 gk, .int .i64 gl, .int .i64 ge, .int .i64 gc, .int .i64 gv] 262)); have d5 := c5.out _ B5'.out; obtain ⟨hz, z0, z1, z2, z3, z4, y0, y1, y2, y3, y4⟩ := R0.out.1.below B5'.out))
        go_region
        all_goals
          go_wp2
          exact bodyPost_ret (results_cell2 rfl rfl ((R0.out.1.below B5'.out.drew).set5 _ _ _ _ _).loadE rfl) rfl ⟨_, rfl, Row5.kept (below_next R0.out.2 B5'.out.drew), errNil _⟩
      · obtain ⟨rfl, rfl⟩ := rd_no gl ep HX.out HE.out HF.out (.inr (.inr he))
        have hne : (ge == ep) = false := by simpa using he
        have hne2 : (ge != ep) = true := by simpa using he
        go_wp2_with (first
          | (go_at_call 185; refine (HG.out _).mono ?_; rintro e' w5 ⟨rfl, b5⟩; have B5 := Lib.hid (HB3.out.trans (b5.mono HB3.out.size)); have B5' := Lib.hid (B5.out.alloc B5.out.size (.cells #[.int .i64 gk, .int .i64 gl, .int .i64 ge, .int .i64 gc, .int .i64 gv] 262)); have d5 := c5.out _ B5'.out))
        go_region
        all_goals
          go_wp2_with (first
            | (go_at_call 65; refine (new_err _ _ _).mono ?_; rintro e' w6 ⟨v6, rfl, b6, v6e⟩; have B6 := Lib.hid (B5'.out.drew.trans (b6.mono B5'.out.size)))
            | (go_at_call 64
               refine (in_err _ _ _ _ v6e).mono ?_
               rintro e' w7 ⟨v7, rfl, b7, v7e⟩
               have B7 := Lib.hid (B6.out.trans (b7.mono B6.out.size))
               obtain ⟨_, z0, z1, z2, z3, z4, y0, y1, y2, y3, y4⟩ := R0.out.1.below B7.out))
          exact bodyPost_ret (results_cell2 rfl rfl ((R0.out.1.below B7.out).set5 _ _ _ _ _).loadE rfl) rfl ⟨_, rfl, Row5.kept (below_next R0.out.2 B7.out), v7e.off z0 (set5_off _ _ _ _ _ _ _)⟩
    · obtain ⟨rfl, rfl⟩ := rd_no k ep HX.out HE.out HF.out (.inr (.inl hl))
      have hne : (gl == k) = false := by simpa using hl
      have hne2 : (gl != k) = true := by simpa using hl
      go_wp2_with (first
        | (go_at_call 185; refine (HG.out _).mono ?_; rintro e' w5 ⟨rfl, b5⟩; have B5 := Lib.hid (HB3.out.trans (b5.mono HB3.out.size)))
        | (go_at_call 65; refine (new_err _ _ _).mono ?_; rintro e' w6 ⟨v6, rfl, b6, v6e⟩; have B6 := Lib.hid (bel_al B5.out b6))
        | (go_at_call 64
           refine (in_err _ _ _ _ v6e).mono ?_
           rintro e' w7 ⟨v7, rfl, b7, v7e⟩
           have B7 := Lib.hid (B6.out.trans (b7.mono B6.out.size))
           obtain ⟨_, z0, z1, z2, z3, z4, y0, y1, y2, y3, y4⟩ := R0.out.1.below B7.out))
      exact bodyPost_ret (results_cell2 rfl rfl ((R0.out.1.below B7.out).set5 _ _ _ _ _).loadE rfl) rfl ⟨_, rfl, Row5.kept (below_next R0.out.2 B7.out), v7e.off z0 (set5_off _ _ _ _ _ _ _)⟩
end Go.Proofs.YtbghglkplbnnkaaGreatDoor
-- LoopScan
namespace Go.Proofs.YtbghglkplbnnkaaGreatDoor
open Go.RowKit Sec
open Go.Proofs.YtbghglkplbnnkaaGreatDoor.Bk

def scanE (D : Dsk) (fr n ep : Int) : Nat → Int → List Ent
  | 0, _ => []
  | f + 1, lsn => if fitE (secI D fr n lsn) lsn ep = true then entOf (secI D fr n lsn) :: scanE D fr n ep f (lsn + 1) else []
theorem scanE_len (D : Dsk) (fr n ep : Int) : ∀ f lsn, (scanE D fr n ep f lsn).length ≤ f
  | 0, _ => Nat.le_refl _
  | f + 1, lsn => by
    rw [scanE]
    split
    · have := scanE_len D fr n ep f (lsn + 1); simp; omega
    · simp

set_option maxRecDepth 100000 in
set_option maxHeartbeats 4000000 in
theorem entries_is {B : Nat} {G : Nat → Prop} {w : World} {q p : Nat} {D : Dsk} {fr n hd nx ep : Int} (h : LogAt B G w q p D fr n hd nx ep) (N : Nums fr n hd nx ep) (hon : D.on = true) (hl : fr + n ≤ D.lasts.length) (m : Nat) (hm : n = (m : Int)) (hm1 : m ≤ 1000) :
    Calls Tryz.prog 155 #[.pointer (some ⟨q, 0, none⟩)] w fun e w' => ∃ v, e = .returned (.tuple #[v, .nilIface]) ∧ Below w.heap.size w w' ∧ w'.ownsRow w.heap.size 262 5 v (scanE D fr n ep m hd).length (flat Ent.cells (scanE D fr n ep m hd)) := by
  subst hm
  obtain ⟨i0, hi, hz0, hz1, hz2⟩ := info_parts entInfo
  have HI := Lib.hid (And.intro hi (And.intro hz0 (And.intro hz1 hz2)))
  have c2 : Hid (∀ u, Below w.heap.size w u → u.cell? ⟨q, 2, none⟩ = some (.int .i64 (m : Int))) := Lib.hid (fun u hu => (hu.cell h.c.lt).trans h.c.c2)
  have c3 : Hid (∀ u, Below w.heap.size w u → u.cell? ⟨q, 3, none⟩ = some (.int .i64 hd)) := Lib.hid (fun u hu => (hu.cell h.c.lt).trans h.c.c3)
  have d3 := h.c.c3
  have h0 := N.h0
  have hx := N.hx
  have hxx := N.xx
  have HR : Hid (∀ (k : Int) u, 0 ≤ k → k < 9223372036854775807 → Below w.heap.size w u → Calls Tryz.prog 169 #[.pointer (some ⟨q, 0, none⟩), .int .i64 k] u fun e w' => ∃ v, e = .returned (.tuple #[(readE (secI D fr m k) k ep).val, v]) ∧ Below u.heap.size u w' ∧ ErrIs w' (readX (secI D fr m k) k ep) v) := Lib.hid (fun k u k0 k1 hu => read_is (h.below hu) N hon hl k k0 k1)
  have HT : Hid (∀ u, Below w.heap.size w u → ErrTy u) := Lib.hid (fun u hu => (h.below hu).ty)
  have HS : Hid (scanE D fr m ep m hd = [] ++ scanE D fr m ep m hd) := Lib.hid rfl
  generalize hS : scanE D fr m ep m hd = S at *
  have HSS := Lib.hid hS
  clear hi hz0 hz1 hz2 h N hon hl HS hS
  go_enter Tryz.func155, Tryz.ntmps155
  go_wp2
  clear d3
  go_loopw [4, 5] (fun v i wr => ∃ (k : Nat) (T : List Ent), k ≤ m ∧ T.length = k ∧ i = .int .i64 (hd + (k : Int)) ∧ Hid (Below w.heap.size w wr ∧ wr.ownsRow w.heap.size 262 5 v T.length (flat Ent.cells T) ∧ S = T ++ scanE D fr m ep (m - k) (hd + (k : Int)))) (fun _ i _ => (hd + (m : Int) - intOf i).toNat)
  case atStart => exact ⟨0, [], Nat.zero_le _, rfl, by simp, Lib.hid ⟨Below.refl _ _, World.ownsRow_nil _ _ _ _, by simpa using HSS.out.symm⟩⟩
  case round =>
    obtain ⟨k, T, hk, hT, rfl, HH⟩ := hrel
    have d2 := c2.out _ HH.out.1
    have d3 := c3.out _ HH.out.1
    have hki : (k : Int) ≤ 1000 := by omega
    have hmi : (m : Int) ≤ 1000 := by omega
    by_cases hlt : k < m
    · have hi1 : hd + (k : Int) < hd + (m : Int) := by omega
      have HQ : Hid (S = T ++ if fitE (secI D fr m (hd + (k : Int))) (hd + (k : Int)) ep = true then entOf (secI D fr m (hd + (k : Int))) :: scanE D fr m ep (m - (k + 1)) (hd + ((k + 1 : Nat) : Int)) else []) := Lib.hid (by
        have := HH.out.2.2
        rw [show m - k = (m - (k + 1)) + 1 by omega, scanE] at this
        rw [this, show hd + (k : Int) + 1 = hd + ((k + 1 : Nat) : Int) by omega])
      have HRk := Lib.hid (HR.out (hd + (k : Int)) wr.drew (by omega) (by omega) HH.out.1.drew)
      have hrE : readE (secI D fr m (hd + (k : Int))) (hd + (k : Int)) ep = if fitE (secI D fr m (hd + (k : Int))) (hd + (k : Int)) ep = true then entOf (secI D fr m (hd + (k : Int))) else entZ := rfl
      have hrX : readX (secI D fr m (hd + (k : Int))) (hd + (k : Int)) ep = if fitE (secI D fr m (hd + (k : Int))) (hd + (k : Int)) ep = true then 0 else 2 := rfl
      have HE := Lib.hid (And.intro hrE hrX)
      clear hrE hrX
      generalize readE (secI D fr m (hd + (k : Int))) (hd + (k : Int)) ep = rE at *
      generalize readX (secI D fr m (hd + (k : Int))) (hd + (k : Int)) ep = rX at *
      generalize fitE (secI D fr m (hd + (k : Int))) (hd + (k : Int)) ep = ft at *
      generalize entOf (secI D fr m (hd + (k : Int))) = en at *
      go_wp2
      go_region
      all_goals
        obtain ⟨gk, gl, ge, gc, gv⟩ := rE
        simp only [Ent.val] at HRk
        go_wp2_with fail
        refine HRk.out.mono ?_
        rintro e' w2 ⟨v2, rfl, b2, v2e⟩
        have B2 := Lib.hid (HH.out.1.drew.trans (b2.mono HH.out.1.size))
        have b2' : Below wr.heap.size wr w2 := (Below.refl _ _).drew.trans b2
        have O2 := Lib.hid (own_belowK HH.out.2.1 b2')
        cases ft
        · obtain rfl : rX = 2 := HE.out.2
          obtain ⟨tv, vv, rfl⟩ := v2e.iface (by decide)
          have X2 := Lib.hid v2e
          clear v2e b2 b2' d2 d3
          go_wp2_with (go_at_call 97; refine (is_err 2 2 (by decide) _ _ (X2.out.below ((Below.refl _ _).alloc (Nat.le_refl _) _)) (HT.out _ (B2.out.alloc B2.out.size _))).mono ?_; rintro e' w3 ⟨rfl, b3⟩)
          go_ret2
          have b3' : Below w2.heap.size w2 w3 := ((Below.refl _ _).alloc (Nat.le_refl _) (.cells #[.int .i64 gk, .int .i64 gl, .int .i64 ge, .int .i64 gc, .int .i64 gv] 262)).trans (b3.mono (by simp))
          have hS : S = T := by have := HQ.out; rw [this]; simp
          refine ⟨_, rfl, B2.out.trans (b3'.mono B2.out.size), ?_⟩
          rw [hS]
          exact own_belowK O2.out b3'
        · obtain rfl : rX = 0 := HE.out.2
          obtain rfl : (⟨gk, gl, ge, gc, gv⟩ : Ent) = en := HE.out.1
          obtain rfl : v2 = .nilIface := v2e.nil
          have HQ2 : Hid (S = (T ++ [⟨gk, gl, ge, gc, gv⟩]) ++ scanE D fr m ep (m - (k + 1)) (hd + ((k + 1 : Nat) : Int))) := Lib.hid (by have := HQ.out; rw [this]; simp)
          clear v2e b2 b2' d2 d3 HE HRk HQ
          go_wp2_with (first
            | (go_at_call 97
               refine (is_err 0 2 (by decide) _ _ (errNil _) (HT.out _ (B2.out.alloc B2.out.size _))).mono ?_
               rintro e' w3 ⟨rfl, b3⟩
               have R3 := Lib.hid (Row5.laid b3)
               obtain ⟨_, z0, z1, z2, z3, z4, _, _, _, _, _⟩ := R3.out.1
               have O3 := Lib.hid (own_belowK O2.out R3.out.2)
               have B3 := Lib.hid (B2.out.trans (R3.out.2.mono B2.out.size)))
            | (refine wpList_append_lies _ rfl (.tmp 40) (.tmp 42) 231 rfl w.heap.size 262 i0 _ 5 40 Tryz.underlying231 HI.out.1 HI.out.2.1 HI.out.2.2.1 HI.out.2.2.2 ?ba1 ?ba2 u4 T.length (flat Ent.cells T) rfl ?ba4 _ 1 1 [.int .i64 gk, .int .i64 gl, .int .i64 ge, .int .i64 gc, .int .i64 gv] rfl rfl ?ba7 ?ba8 ?ba9 ?bb1 ?bb2 ?bb3 _ rfl ?bb5
               case ba1 => rfl
               case ba2 => omega
               case ba4 => exact O3.out.alloc _
               case ba7 => exact World.news_of_block (heap_alloc_last _ _)
               case ba8 => exact Ent.one ⟨gk, gl, ge, gc, gv⟩
               case ba9 => omega
               case bb1 => unfold maxLen; omega
               case bb2 => omega
               case bb3 => have := B3.out.size; simp; omega
               intro g cap w4 hown4 hgr4 hat4 hlt4
               have HX := Lib.hid (And.intro hown4 hgr4)
               clear hown4 hgr4 hat4 hlt4))
          refine ⟨⟨k + 1, T ++ [⟨gk, gl, ge, gc, gv⟩], by omega, by simp [hT], by go_num, Lib.hid ⟨(B3.out.alloc B3.out.size _).grown HX.out.2 (by have := B3.out.size; simp; omega) (fun b hb => (O3.out.lt b hb).1), ?_, HQ2.out⟩⟩, by simp [intOf]; omega⟩
          have h4 := HX.out.1
          rw [flat_app, Bk.flat_one, List.length_append, List.length_singleton, hT]
          rw [hT] at h4
          exact h4
    · obtain rfl : k = m := by omega
      have hn : ¬ hd + (k : Int) < hd + (k : Int) := by omega
      have hS : S = T := by
        have := HH.out.2.2
        rw [Nat.sub_self, scanE, List.append_nil] at this
        exact this
      go_wp2
      go_region
      all_goals
        go_wp2
        go_ret2
        refine ⟨_, rfl, HH.out.1.drew, ?_⟩
        rw [hS]
        exact own_belowK HH.out.2.1 (Below.refl _ _).drew

theorem nums_of {len fr n hd ep : Int} (h : logOk len fr n hd hd ep = true) (hl : len ≤ 3000) : Nums fr n hd hd ep := by
  obtain ⟨k1, k2, k3, k4, k5, k6, k7, k8, k9⟩ := logOk_of h
  exact ⟨k1, k2, by omega, k4, k5, k6, k7, k9, by omega⟩
set_option maxRecDepth 100000 in
set_option maxHeartbeats 1000000 in
theorem scan_is {B : Nat} {G : Nat → Prop} {w : World} {p : Nat} {D : Dsk} (h : AtK B G w p D) (hon : D.on = true) (fr n hd ep : Int) (hok : logOk D.lasts.length fr n hd hd ep = true) (m : Nat) (hm : n = (m : Int)) (hm1 : m ≤ 1000) (R : List Chg) (k : Nat) (hR : changesL (scanE D fr n ep m hd) = (R, k)) :
    Calls Tryz.prog 130 #[.pointer (some ⟨p, 0, none⟩), .int .i64 fr, .int .i64 n, .int .i64 hd, .int .i64 ep] w fun e w' => ∃ v, e = .returned (.tuple #[v, .int .i64 (wrap64 (hd + (k : Int))), .int .i64 0]) ∧ Below w.heap.size w w' ∧ w'.ownsRow w.heap.size 200 2 v R.length (flat Chg.cells R) := by
  have hN := nums_of hok (by have := h.shape.2.1; omega)
  have hfl : fr + n ≤ D.lasts.length := by have := (logOk_of hok).2.2.1; omega
  subst hm
  have HN := Lib.hid (lnew_yes (G := G) h fr m hd hd ep hok)
  have HE : Hid (∀ u q, LogAt B G u q p D fr m hd hd ep → Calls Tryz.prog 155 #[.pointer (some ⟨q, 0, none⟩)] u fun e w' => ∃ a c, e = .returned (.tuple #[.slice a (scanE D fr m ep m hd).length c, .nilIface]) ∧ (scanE D fr m ep m hd).length ≤ c ∧ Below u.heap.size u w' ∧ LiesAt w' a (flat Ent.cells (scanE D fr m ep m hd))) := Lib.hid (fun u q hu => (entries_is hu hN hon hfl m rfl hm1).mono fun e w' ⟨v, he, hb, ho⟩ => by
    obtain ⟨a, c, rfl, hl, _⟩ := own_formK ho
    have hc : (scanE D fr m ep m hd).length ≤ c := by
      rcases ho.2 with ⟨q, r⟩ | ⟨g, cap, cur, q, _, _, r, _⟩
      · omega
      · obtain ⟨_, rfl⟩ : a = some ⟨g, 0, none⟩ ∧ c = cap := by simpa using q
        exact r
    exact ⟨a, c, he, hc, hb, hl⟩)
  have HC : Hid (∀ u a c, (scanE D fr m ep m hd).length ≤ c → LiesAt u a (flat Ent.cells (scanE D fr m ep m hd)) → Calls Tryz.prog 156 #[.slice a (scanE D fr m ep m hd).length c] u fun e w' => ∃ v, e = .returned (.tuple #[v, .int .i64 (k : Int)]) ∧ Below u.heap.size u w' ∧ w'.ownsRow u.heap.size 200 2 v R.length (flat Chg.cells R)) := Lib.hid (fun u a c hc hu => changes_is a _ c u hu (Nat.le_trans (scanE_len _ _ _ _ _ _) hm1) hc R k hR)
  generalize scanE D fr m ep m hd = S at *
  clear h hon hok hN hfl hR
  go_enter Tryz.func130, Tryz.ntmps130
  go_wp2_with (first
    | (go_at_call 131; refine HN.out.mono ?_; rintro e' w1 ⟨q, rfl, A1, b1⟩)
    | (go_at_call 155; refine (HE.out _ _ A1).mono ?_; rintro e' w2 ⟨a2, c2, rfl, hc2, b2, l2⟩)
    | (go_at_call 156; refine (HC.out _ a2 c2 hc2 l2).mono ?_; rintro e' w3 ⟨v3, rfl, b3, o3⟩))
  go_ret3
  have b12 := below_next b1 b2
  exact ⟨_, rfl, below_next b12 b3, owns_base' b12.size o3⟩
end Go.Proofs.YtbghglkplbnnkaaGreatDoor
-- LoopWrite
namespace Go.Proofs.YtbghglkplbnnkaaGreatDoor
open Go.RowKit Sec
open Go.Proofs.YtbghglkplbnnkaaGreatDoor.Bk

theorem wrD_bounds (D : Dsk) (k : Int) (b : ByteArray) : (wrD D k b).1.waits.length ≤ D.waits.length + 1 ∧ (wrD D k b).1.deeds ≤ D.deeds + 1 := by
  have hd : ∀ E : Dsk, E.down.waits = E.waits ∧ E.down.deeds = E.deeds := fun E => by unfold Dsk.down; split <;> exact ⟨rfl, rfl⟩
  unfold wrD
  split
  · exact ⟨by simp, by simp⟩
  · split
    · exact ⟨by simp [Dsk.crash], by simp [Dsk.crash, Dsk.push]⟩
    · refine ⟨?_, ?_⟩
      · show (D.push k.toNat b).down.waits.length ≤ _
        rw [(hd _).1]; simp [Dsk.push]
      · show (D.push k.toNat b).down.deeds + 1 ≤ _
        rw [(hd _).2]; simp [Dsk.push]
theorem wrD_boundsR {D : Dsk} {k : Int} {b : ByteArray} {R : Dsk × Int} (h : wrD D k b = R) : R.1.waits.length ≤ D.waits.length + 1 ∧ R.1.deeds ≤ D.deeds + 1 := h ▸ wrD_bounds D k b
theorem liesAt_kept {G : Nat → Prop} {w w' : World} {a : Option Addr} {xs : List Value} (h : LiesAt w a xs) (hs : w.heap.size ≤ w'.heap.size) (k : KeptG G w w') (ha : ∀ b : Addr, a = some b → G b.block) : LiesAt w' a xs := fun j u hu => by
  obtain ⟨b, hb, hl, hc⟩ := h j u hu
  exact ⟨b, hb, Nat.lt_of_lt_of_le hl hs, (World.cell?_of_block (a := b.add j) (by rw [show (b.add j).block = b.block by unfold Addr.add; split <;> rfl]; exact k _ (ha b hb))).trans hc⟩

theorem new_two {w : World} {a b : Addr} {va vb : Value} (k : w.cell? a = some va ∧ w.cell? b = some vb) (x t : Int) : ∀ u, Below w.heap.size w u → Calls Tryz.prog 65 #[.int .i64 x, .int .i64 t] u fun e w' => ∃ v, e = .returned v ∧ (w'.cell? a = some va ∧ w'.cell? b = some vb) ∧ Below w.heap.size w w' ∧ ErrIs w' x v := fun u hu => (new_err x t u).mono fun e w' ⟨v, he, hb, hv⟩ => by
  have hc := hu.trans (hb.mono hu.size)
  exact ⟨v, he, ⟨(hc.cell (cell_lt k.1)).trans k.1, (hc.cell (cell_lt k.2)).trans k.2⟩, hc, hv⟩
end Go.Proofs.YtbghglkplbnnkaaGreatDoor
-- LoopApp
namespace Go.Proofs.YtbghglkplbnnkaaGreatDoor
open Go.RowKit Sec
open Go.Proofs.YtbghglkplbnnkaaGreatDoor.Bk

end Go.Proofs.YtbghglkplbnnkaaGreatDoor
-- LoopMath
namespace Go.Proofs.YtbghglkplbnnkaaGreatDoor
open Go.RowKit Sec
open Go.Proofs.YtbghglkplbnnkaaGreatDoor.Bk

def setAll (s : List ByteArray) : List (Nat × ByteArray) → List ByteArray
  | [] => s
  | x :: r => setAll (s.set x.1 x.2) r
theorem setAll_len : ∀ (ps : List (Nat × ByteArray)) (s : List ByteArray), (setAll s ps).length = s.length
  | [], _ => rfl
  | x :: r, s => by rw [setAll, setAll_len r, List.length_set]
theorem setAll_off : ∀ (ps : List (Nat × ByteArray)) (s : List ByteArray) (k : Nat), (∀ x ∈ ps, x.1 ≠ k) → (setAll s ps)[k]? = s[k]?
  | [], _, _, _ => rfl
  | x :: r, s, k, h => by
    rw [setAll, setAll_off r _ k (fun y hy => h y (by simp [hy])), List.getElem?_set_ne (h x (by simp))]
theorem setAll_or : ∀ (ps : List (Nat × ByteArray)) (s : List ByteArray) (k : Nat), k < s.length → (setAll s ps)[k]? = s[k]? ∨ ∃ x ∈ ps, x.1 = k ∧ (setAll s ps)[k]? = some x.2
  | [], _, _, _ => .inl rfl
  | x :: r, s, k, h => by
    rw [setAll]
    rcases setAll_or r (s.set x.1 x.2) k (by rw [List.length_set]; exact h) with q | ⟨y, hy, q1, q2⟩
    · by_cases e : x.1 = k
      · refine .inr ⟨x, by simp, e, ?_⟩
        rw [q, ← e, List.getElem?_set_self (by rw [e]; exact h)]
      · exact .inl (by rw [q, List.getElem?_set_ne e])
    · exact .inr ⟨y, by simp [hy], q1, q2⟩
theorem setAll_at : ∀ (ps : List (Nat × ByteArray)) (s : List ByteArray) (j : Nat) (x : Nat × ByteArray), ps[j]? = some x → x.1 < s.length → (∀ i y, j < i → ps[i]? = some y → y.1 ≠ x.1) → (setAll s ps)[x.1]? = some x.2
  | [], _, _, _, h, _, _ => by simp at h
  | y :: r, s, 0, x, h, hl, hd => by
    obtain rfl : y = x := by simpa using h
    rw [setAll, setAll_off r _ _ (fun z hz => by
      obtain ⟨i, hi, rfl⟩ := List.getElem_of_mem hz
      exact hd (i + 1) _ (by omega) (by simp [hi])), List.getElem?_set_self hl]
  | y :: r, s, j + 1, x, h, hl, hd => by
    rw [setAll]
    exact setAll_at r _ j x (by simpa using h) (by rw [List.length_set]; exact hl) (fun i z hi hz => hd (i + 1) z (by omega) (by simpa using hz))
theorem setAll_app (s : List ByteArray) (a b : List (Nat × ByteArray)) : setAll s (a ++ b) = setAll (setAll s a) b := by
  induction a generalizing s with
  | nil => rfl
  | cons x r ih => rw [List.cons_append, setAll, setAll, ih]

theorem secI_nat (D : Dsk) (fr n k : Nat) : secI D fr n k = (D.now[fr + k % n]?).getD ByteArray.empty := by
  have e : ((fr : Int) + (k : Int) % (n : Int)).toNat = fr + k % n := by
    rw [← Int.natCast_emod]; omega
  rw [secI, Dsk.at_, e, List.getD_eq_getElem?_getD]

structure LogIs (D : Dsk) (fr n hd nx : Nat) (ep : Int) (all : List Chg) : Prop where
  on : D.on = true
  n1 : 1 ≤ n
  len : fr + n ≤ D.now.length
  ord : hd ≤ nx
  cap : nx ≤ hd + n
  has : ∃ E : List Ent, hd + E.length = nx ∧ (∀ i e, E[i]? = some e → D.now[fr + (hd + i) % n]? = some (enB e) ∧ entOk e = true ∧ e.l = ((hd + i : Nat) : Int) ∧ e.e = ep) ∧ ∀ rest, chR (E ++ rest) 0 0 [] [] = chR rest E.length E.length [] all
  old : ∀ k b, k < n → D.now[fr + k]? = some b → enIs b = true → (entOf b).e < ep ∨ ((entOf b).e = ep ∧ (entOf b).l < (nx : Int))
section
variable {D D' : Dsk} {fr n hd nx : Nat} {ep : Int} {all : List Chg}
theorem LogIs.cut (h : LogIs D fr n hd nx ep all) {ep' : Int} (he : ep < ep') : LogIs D fr n nx nx ep' [] :=
  ⟨h.on, h.n1, h.len, Nat.le_refl _, by omega, ⟨[], rfl, fun i e q => by simp at q, fun rest => rfl⟩, fun k b hk hb hi => .inl (by rcases h.old k b hk hb hi with q | ⟨q, _⟩ <;> omega)⟩
theorem LogIs.stop (h : LogIs D fr n hd nx ep all) : fitE (secI D fr n nx) nx ep = false := by
  have hk : nx % n < n := Nat.mod_lt _ (by have := h.n1; omega)
  have hlt : fr + nx % n < D.now.length := by have := h.len; omega
  rw [secI_nat, List.getElem?_eq_getElem hlt, Option.getD_some]
  cases hi : enIs D.now[fr + nx % n]
  · simp [fitE, hi]
  · rcases h.old _ _ hk (List.getElem?_eq_getElem hlt) hi with q | ⟨q1, q2⟩
    · have : decide ((entOf D.now[fr + nx % n]).e = ep) = false := decide_eq_false (by omega)
      rw [fitE, this, Bool.and_false, Bool.and_false]
    · have : decide ((entOf D.now[fr + nx % n]).l = (nx : Int)) = false := decide_eq_false (by omega)
      rw [fitE, this, Bool.false_and, Bool.and_false]
theorem fit_put {e : Ent} (h : entOk e = true) : fitE (enB e) e.l e.e = true ∧ entOf (enB e) = e := by
  obtain ⟨h1, h2⟩ := en_put h
  exact ⟨by rw [fitE, h1, h2]; simp, h2⟩
theorem scan_run (E : List Ent) (hE : ∀ i e, E[i]? = some e → D.now[fr + (hd + i) % n]? = some (enB e) ∧ entOk e = true ∧ e.l = ((hd + i : Nat) : Int) ∧ e.e = ep) : ∀ (r : List Ent) (i f : Nat), E.drop i = r → r.length ≤ f → scanE D fr n ep f ((hd + i : Nat) : Int) = r ++ scanE D fr n ep (f - r.length) ((hd + i + r.length : Nat) : Int)
  | [], i, f, _, _ => by simp
  | e :: r, i, f, hr, hf => by
    have hlt : i < E.length := by
      rcases Nat.lt_or_ge i E.length with q | q
      · exact q
      · rw [List.drop_eq_nil_of_le q] at hr; cases hr
    have hd2 := List.drop_eq_getElem_cons hlt
    rw [hr] at hd2
    obtain ⟨rfl, hr2⟩ := List.cons.inj hd2
    obtain ⟨h1, h2, h3, h4⟩ := hE i _ (List.getElem?_eq_getElem hlt)
    obtain ⟨f, rfl⟩ : ∃ f', f = f' + 1 := ⟨f - 1, by simp at hf; omega⟩
    obtain ⟨p1, p2⟩ := fit_put h2
    rw [h3, h4] at p1
    have ih := scan_run E hE r (i + 1) f hr2.symm (by simpa using hf)
    rw [scanE, secI_nat, h1, Option.getD_some, if_pos p1, p2, List.cons_append, show ((hd + i : Nat) : Int) + 1 = ((hd + (i + 1) : Nat) : Int) by omega, ih]
    simp only [List.length_cons]
    rw [show f + 1 - (r.length + 1) = f - r.length by omega, show hd + (i + 1) + r.length = hd + i + (r.length + 1) by omega]
theorem LogIs.scan (h : LogIs D fr n hd nx ep all) : changesL (scanE D fr n ep n (hd : Int)) = (all, nx - hd) := by
  obtain ⟨E, hl, hE, hc⟩ := h.has
  have hcap := h.cap
  have := scan_run E hE E 0 n rfl (by omega)
  rw [Nat.add_zero, hl] at this
  rw [this]
  have hs : scanE D fr n ep (n - E.length) (nx : Int) = [] := by
    rcases Nat.eq_zero_or_pos (n - E.length) with q | q
    · rw [q]; rfl
    · obtain ⟨f, hf⟩ : ∃ f, n - E.length = f + 1 := ⟨n - E.length - 1, by omega⟩
      rw [hf, scanE, h.stop]
      rfl
  rw [hs, changesL_R, hc, chR, show nx - hd = E.length by omega]
end

end Go.Proofs.YtbghglkplbnnkaaGreatDoor
-- LoopLg
namespace Go.Proofs.YtbghglkplbnnkaaGreatDoor
open Go.RowKit Sec
open Go.Proofs.YtbghglkplbnnkaaGreatDoor.Bk

theorem zero_no : enIs zero32 = false := by
  have h : entOk (entOf zero32) = false := by kernel_rfl
  simp [enIs, h]
section
variable {B : Nat} {G G' : Nat → Prop} {w w' : World} {q p fr n hd nx : Nat} {ep : Int} {all : List Chg} {K : Nat}
end
end Go.Proofs.YtbghglkplbnnkaaGreatDoor
-- LoopLgMore
namespace Go.Proofs.YtbghglkplbnnkaaGreatDoor
open Go.RowKit Sec
open Go.Proofs.YtbghglkplbnnkaaGreatDoor.Bk

section
variable {B : Nat} {G : Nat → Prop} {w w' : World} {q p fr n hd nx : Nat} {ep : Int} {all : List Chg} {K : Nat}
theorem row_liesK {base : Nat} {e : TypeId} {k n c : Nat} {a : Option Addr} {xs : List Value} (h : w.ownsRow base e k (.slice a n c) n xs) : LiesAt w a xs := by
  obtain ⟨a', c', hv, hl, _⟩ := own_formK h
  obtain ⟨rfl, _⟩ : a = a' ∧ c = c' := by simpa using hv
  exact hl
end
end Go.Proofs.YtbghglkplbnnkaaGreatDoor
