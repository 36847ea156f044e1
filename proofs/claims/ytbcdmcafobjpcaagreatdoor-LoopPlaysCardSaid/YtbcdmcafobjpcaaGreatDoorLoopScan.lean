/- Package loop: entries, Scan. -/
import Derived.Test.YtbcdmcafobjpcaaGreatDoorLoopRead
import Derived.Test.YtbcdmcafobjpcaaGreatDoorLoopNew
import Derived.Test.YtbcdmcafobjpcaaGreatDoorEntryRun
namespace Go.Proofs.YtbcdmcafobjpcaaGreatDoor
open Go.RowKit Sec
open Go.Proofs.YtbcdmcafobjpcaaGreatDoor.Bk

/-- The entries from an Lsn on, at most so many, as long as each fits. -/
def scanE (D : Dsk) (fr n ep : Int) : Nat → Int → List Ent
  | 0, _ => []
  | f + 1, lsn => if fitE (secI D fr n lsn) lsn ep = true then entOf (secI D fr n lsn) :: scanE D fr n ep f (lsn + 1) else []
theorem scanE_len (D : Dsk) (fr n ep : Int) : ∀ f lsn, (scanE D fr n ep f lsn).length ≤ f
  | 0, _ => Nat.le_refl _
  | f + 1, lsn => by
    rw [scanE]
    split
    · have := scanE_len D fr n ep f (lsn + 1); simp; omega
    · simp

set_option maxRecDepth 100000 in
set_option maxHeartbeats 4000000 in
theorem entries_is {B : Nat} {G : Nat → Prop} {w : World} {q p : Nat} {D : Dsk} {fr n hd nx ep : Int} (h : LogAt B G w q p D fr n hd nx ep) (N : Nums fr n hd nx ep) (hon : D.on = true) (hl : fr + n ≤ D.lasts.length) (m : Nat) (hm : n = (m : Int)) (hm1 : m ≤ 1000) :
    Calls Tryz.prog 30 #[.pointer (some ⟨q, 0, none⟩)] w fun e w' => ∃ v, e = .returned (.tuple #[v, .nilIface]) ∧ Below w.heap.size w w' ∧ w'.ownsRow w.heap.size 101 5 v (scanE D fr n ep m hd).length (flat Ent.cells (scanE D fr n ep m hd)) := by
  subst hm
  obtain ⟨i0, hi, hz0, hz1, hz2⟩ := info_parts entInfo
  have HI := Lib.hid (And.intro hi (And.intro hz0 (And.intro hz1 hz2)))
  have c2 : Hid (∀ u, Below w.heap.size w u → u.cell? ⟨q, 2, none⟩ = some (.int .i64 (m : Int))) := Lib.hid (fun u hu => (hu.cell h.c.lt).trans h.c.c2)
  have c3 : Hid (∀ u, Below w.heap.size w u → u.cell? ⟨q, 3, none⟩ = some (.int .i64 hd)) := Lib.hid (fun u hu => (hu.cell h.c.lt).trans h.c.c3)
  have d3 := h.c.c3
  have h0 := N.h0
  have hx := N.hx
  have hxx := N.xx
  have HR : Hid (∀ (k : Int) u, 0 ≤ k → k < 9223372036854775807 → Below w.heap.size w u → Calls Tryz.prog 62 #[.pointer (some ⟨q, 0, none⟩), .int .i64 k] u fun e w' => ∃ v, e = .returned (.tuple #[(readE (secI D fr m k) k ep).val, v]) ∧ Below u.heap.size u w' ∧ ErrIs w' (readX (secI D fr m k) k ep) v) := Lib.hid (fun k u k0 k1 hu => read_is (h.below hu) N hon hl k k0 k1)
  have HT : Hid (∀ u, Below w.heap.size w u → ErrTy u) := Lib.hid (fun u hu => (h.below hu).ty)
  have HS : Hid (scanE D fr m ep m hd = [] ++ scanE D fr m ep m hd) := Lib.hid rfl
  generalize hS : scanE D fr m ep m hd = S at *
  have HSS := Lib.hid hS
  clear hi hz0 hz1 hz2 h N hon hl HS hS
  go_enter Tryz.func30, Tryz.ntmps30
  go_wp2
  clear d3
  go_loopw [4, 5] (fun v i wr => ∃ (k : Nat) (T : List Ent), k ≤ m ∧ T.length = k ∧ i = .int .i64 (hd + (k : Int)) ∧ Hid (Below w.heap.size w wr ∧ wr.ownsRow w.heap.size 101 5 v T.length (flat Ent.cells T) ∧ S = T ++ scanE D fr m ep (m - k) (hd + (k : Int)))) (fun _ i _ => (hd + (m : Int) - intOf i).toNat)
  case atStart => exact ⟨0, [], Nat.zero_le _, rfl, by simp, Lib.hid ⟨Below.refl _ _, World.ownsRow_nil _ _ _ _, by simpa using HSS.out.symm⟩⟩
  case round =>
    obtain ⟨k, T, hk, hT, rfl, HH⟩ := hrel
    have d2 := c2.out _ HH.out.1
    have d3 := c3.out _ HH.out.1
    have hki : (k : Int) ≤ 1000 := by omega
    have hmi : (m : Int) ≤ 1000 := by omega
    by_cases hlt : k < m
    · have hi1 : hd + (k : Int) < hd + (m : Int) := by omega
      have HQ : Hid (S = T ++ if fitE (secI D fr m (hd + (k : Int))) (hd + (k : Int)) ep = true then entOf (secI D fr m (hd + (k : Int))) :: scanE D fr m ep (m - (k + 1)) (hd + ((k + 1 : Nat) : Int)) else []) := Lib.hid (by
        have := HH.out.2.2
        rw [show m - k = (m - (k + 1)) + 1 by omega, scanE] at this
        rw [this, show hd + (k : Int) + 1 = hd + ((k + 1 : Nat) : Int) by omega])
      have HRk := Lib.hid (HR.out (hd + (k : Int)) wr.drew (by omega) (by omega) HH.out.1.drew)
      have hrE : readE (secI D fr m (hd + (k : Int))) (hd + (k : Int)) ep = if fitE (secI D fr m (hd + (k : Int))) (hd + (k : Int)) ep = true then entOf (secI D fr m (hd + (k : Int))) else entZ := rfl
      have hrX : readX (secI D fr m (hd + (k : Int))) (hd + (k : Int)) ep = if fitE (secI D fr m (hd + (k : Int))) (hd + (k : Int)) ep = true then 0 else 2 := rfl
      have HE := Lib.hid (And.intro hrE hrX)
      clear hrE hrX
      generalize readE (secI D fr m (hd + (k : Int))) (hd + (k : Int)) ep = rE at *
      generalize readX (secI D fr m (hd + (k : Int))) (hd + (k : Int)) ep = rX at *
      generalize fitE (secI D fr m (hd + (k : Int))) (hd + (k : Int)) ep = ft at *
      generalize entOf (secI D fr m (hd + (k : Int))) = en at *
      go_wp2
      go_region
      all_goals
        obtain ⟨gk, gl, ge, gc, gv⟩ := rE
        simp only [Ent.val] at HRk
        go_wp2_with fail
        refine HRk.out.mono ?_
        rintro e' w2 ⟨v2, rfl, b2, v2e⟩
        have B2 := Lib.hid (HH.out.1.drew.trans (b2.mono HH.out.1.size))
        have b2' : Below wr.heap.size wr w2 := (Below.refl _ _).drew.trans b2
        have O2 := Lib.hid (own_belowK HH.out.2.1 b2')
        cases ft
        · obtain rfl : rX = 2 := HE.out.2
          obtain ⟨tv, vv, rfl⟩ := v2e.iface (by decide)
          have X2 := Lib.hid v2e
          clear v2e b2 b2' d2 d3
          go_wp2_with (go_at_call 63; refine (is_err 2 2 (by decide) _ _ (X2.out.below ((Below.refl _ _).alloc (Nat.le_refl _) _)) (HT.out _ (B2.out.alloc B2.out.size _))).mono ?_; rintro e' w3 ⟨rfl, b3⟩)
          go_ret2
          have b3' : Below w2.heap.size w2 w3 := ((Below.refl _ _).alloc (Nat.le_refl _) (.cells #[.int .i64 gk, .int .i64 gl, .int .i64 ge, .int .i64 gc, .int .i64 gv] 101)).trans (b3.mono (by simp))
          have hS : S = T := by have := HQ.out; rw [this]; simp
          refine ⟨_, rfl, B2.out.trans (b3'.mono B2.out.size), ?_⟩
          rw [hS]
          exact own_belowK O2.out b3'
        · obtain rfl : rX = 0 := HE.out.2
          obtain rfl : (⟨gk, gl, ge, gc, gv⟩ : Ent) = en := HE.out.1
          obtain rfl : v2 = .nilIface := v2e.nil
          have HQ2 : Hid (S = (T ++ [⟨gk, gl, ge, gc, gv⟩]) ++ scanE D fr m ep (m - (k + 1)) (hd + ((k + 1 : Nat) : Int))) := Lib.hid (by have := HQ.out; rw [this]; simp)
          clear v2e b2 b2' d2 d3 HE HRk HQ
          go_wp2_with (first
            | (go_at_call 63
               refine (is_err 0 2 (by decide) _ _ (errNil _) (HT.out _ (B2.out.alloc B2.out.size _))).mono ?_
               rintro e' w3 ⟨rfl, b3⟩
               have R3 := Lib.hid (Row5.laid b3)
               obtain ⟨_, z0, z1, z2, z3, z4, _, _, _, _, _⟩ := R3.out.1
               have O3 := Lib.hid (own_belowK O2.out R3.out.2)
               have B3 := Lib.hid (B2.out.trans (R3.out.2.mono B2.out.size)))
            | (refine wpList_append_lies _ rfl (.tmp 40) (.tmp 42) 69 rfl w.heap.size 101 i0 _ 5 40 Tryz.underlying69 HI.out.1 HI.out.2.1 HI.out.2.2.1 HI.out.2.2.2 ?ba1 ?ba2 u4 T.length (flat Ent.cells T) rfl ?ba4 _ 1 1 [.int .i64 gk, .int .i64 gl, .int .i64 ge, .int .i64 gc, .int .i64 gv] rfl rfl ?ba7 ?ba8 ?ba9 ?bb1 ?bb2 ?bb3 _ rfl ?bb5
               case ba1 => rfl
               case ba2 => omega
               case ba4 => exact O3.out.alloc _
               case ba7 => exact World.news_of_block (heap_alloc_last _ _)
               case ba8 => exact Ent.one ⟨gk, gl, ge, gc, gv⟩
               case ba9 => omega
               case bb1 => unfold maxLen; omega
               case bb2 => omega
               case bb3 => have := B3.out.size; simp; omega
               intro g cap w4 hown4 hgr4 hat4 hlt4
               have HX := Lib.hid (And.intro hown4 hgr4)
               clear hown4 hgr4 hat4 hlt4))
          refine ⟨⟨k + 1, T ++ [⟨gk, gl, ge, gc, gv⟩], by omega, by simp [hT], by go_num, Lib.hid ⟨(B3.out.alloc B3.out.size _).grown HX.out.2 (by have := B3.out.size; simp; omega) (fun b hb => (O3.out.lt b hb).1), ?_, HQ2.out⟩⟩, by simp [intOf]; omega⟩
          have h4 := HX.out.1
          rw [flat_app, Bk.flat_one, List.length_append, List.length_singleton, hT]
          rw [hT] at h4
          exact h4
    · obtain rfl : k = m := by omega
      have hn : ¬ hd + (k : Int) < hd + (k : Int) := by omega
      have hS : S = T := by
        have := HH.out.2.2
        rw [Nat.sub_self, scanE, List.append_nil] at this
        exact this
      go_wp2
      go_region
      all_goals
        go_wp2
        go_ret2
        refine ⟨_, rfl, HH.out.1.drew, ?_⟩
        rw [hS]
        exact own_belowK HH.out.2.1 (Below.refl _ _).drew

theorem nums_of {len fr n hd ep : Int} (h : logOk len fr n hd hd ep = true) (hl : len ≤ 3000) : Nums fr n hd hd ep := by
  obtain ⟨k1, k2, k3, k4, k5, k6, k7, k8, k9⟩ := logOk_of h
  exact ⟨k1, k2, by omega, k4, k5, k6, k7, k9, by omega⟩
set_option maxRecDepth 100000 in
set_option maxHeartbeats 1000000 in
/-- WHAT SCAN TELLS. -/
theorem scan_is {B : Nat} {G : Nat → Prop} {w : World} {p : Nat} {D : Dsk} (h : AtK B G w p D) (hon : D.on = true) (fr n hd ep : Int) (hok : logOk D.lasts.length fr n hd hd ep = true) (m : Nat) (hm : n = (m : Int)) (hm1 : m ≤ 1000) (R : List Chg) (k : Nat) (hR : changesL (scanE D fr n ep m hd) = (R, k)) :
    Calls Tryz.prog 13 #[.pointer (some ⟨p, 0, none⟩), .int .i64 fr, .int .i64 n, .int .i64 hd, .int .i64 ep] w fun e w' => ∃ v, e = .returned (.tuple #[v, .int .i64 (wrap64 (hd + (k : Int))), .int .i64 0]) ∧ Below w.heap.size w w' ∧ w'.ownsRow w.heap.size 55 2 v R.length (flat Chg.cells R) := by
  have hN := nums_of hok (by have := h.shape.2.1; omega)
  have hfl : fr + n ≤ D.lasts.length := by have := (logOk_of hok).2.2.1; omega
  subst hm
  have HN := Lib.hid (lnew_yes (G := G) h fr m hd hd ep hok)
  have HE : Hid (∀ u q, LogAt B G u q p D fr m hd hd ep → Calls Tryz.prog 30 #[.pointer (some ⟨q, 0, none⟩)] u fun e w' => ∃ a c, e = .returned (.tuple #[.slice a (scanE D fr m ep m hd).length c, .nilIface]) ∧ (scanE D fr m ep m hd).length ≤ c ∧ Below u.heap.size u w' ∧ LiesAt w' a (flat Ent.cells (scanE D fr m ep m hd))) := Lib.hid (fun u q hu => (entries_is hu hN hon hfl m rfl hm1).mono fun e w' ⟨v, he, hb, ho⟩ => by
    obtain ⟨a, c, rfl, hl, _⟩ := own_formK ho
    have hc : (scanE D fr m ep m hd).length ≤ c := by
      rcases ho.2 with ⟨q, r⟩ | ⟨g, cap, cur, q, _, _, r, _⟩
      · omega
      · obtain ⟨_, rfl⟩ : a = some ⟨g, 0, none⟩ ∧ c = cap := by simpa using q
        exact r
    exact ⟨a, c, he, hc, hb, hl⟩)
  have HC : Hid (∀ u a c, (scanE D fr m ep m hd).length ≤ c → LiesAt u a (flat Ent.cells (scanE D fr m ep m hd)) → Calls Tryz.prog 31 #[.slice a (scanE D fr m ep m hd).length c] u fun e w' => ∃ v, e = .returned (.tuple #[v, .int .i64 (k : Int)]) ∧ Below u.heap.size u w' ∧ w'.ownsRow u.heap.size 55 2 v R.length (flat Chg.cells R)) := Lib.hid (fun u a c hc hu => changes_is a _ c u hu (Nat.le_trans (scanE_len _ _ _ _ _ _) hm1) hc R k hR)
  generalize scanE D fr m ep m hd = S at *
  clear h hon hok hN hfl hR
  go_enter Tryz.func13, Tryz.ntmps13
  go_wp2_with (first
    | (go_at_call 6; refine HN.out.mono ?_; rintro e' w1 ⟨q, rfl, A1, b1⟩)
    | (go_at_call 30; refine (HE.out _ _ A1).mono ?_; rintro e' w2 ⟨a2, c2, rfl, hc2, b2, l2⟩)
    | (go_at_call 31; refine (HC.out _ a2 c2 hc2 l2).mono ?_; rintro e' w3 ⟨v3, rfl, b3, o3⟩))
  go_ret3
  have b12 := below_next b1 b2
  exact ⟨_, rfl, below_next b12 b3, owns_base' b12.size o3⟩
set_option maxHeartbeats 1000000 in
theorem scan_no {B : Nat} {G : Nat → Prop} {w : World} {p : Nat} {D : Dsk} (h : AtK B G w p D) (fr n hd ep : Int) (hn : n ≤ 9223372036854775807) (hx : hd ≤ 9223372036854775807) (hok : logOk D.lasts.length fr n hd hd ep = false) :
    Calls Tryz.prog 13 #[.pointer (some ⟨p, 0, none⟩), .int .i64 fr, .int .i64 n, .int .i64 hd, .int .i64 ep] w fun e w' => e = .returned (.tuple #[.slice none 0 0, .int .i64 0, .int .i64 1]) ∧ w' = w := by
  have HN := Lib.hid (lnew_no h fr n hd hd ep hn hx hok)
  clear h hok
  go_enter Tryz.func13, Tryz.ntmps13
  go_wp2_with (go_at_call 6; refine HN.out.mono ?_; rintro e' w1 ⟨rfl, rfl⟩)
  go_ret3
  exact ⟨rfl, rfl⟩
end Go.Proofs.YtbcdmcafobjpcaaGreatDoor
