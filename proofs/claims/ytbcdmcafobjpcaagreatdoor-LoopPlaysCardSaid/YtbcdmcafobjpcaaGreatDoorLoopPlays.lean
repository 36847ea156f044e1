/- LoopPlays' walk. Written by wip/tools/loopplays.py. -/
import Derived.Test.YtbcdmcafobjpcaaGreatDoorLoopPlaysM
namespace Go.Proofs.YtbcdmcafobjpcaaGreatDoor
open Go.RowKit Sec
open Go.Proofs.YtbcdmcafobjpcaaGreatDoor.Bk

theorem lent_liesP {w : World} {base : Nat} {e : TypeId} {k g c n : Nat} {l : List Chg} {x : Chg} (h : w.ownsRow base e k (.slice (some ⟨g, 0, none⟩) n c) n (flat Chg.cells (l ++ [x]))) : LiesAt w (some ⟨g, 0, none⟩) (flat Chg.cells l) := by
  have hla := row_liesK h
  exact fun j u hu => hla j u (by rw [flat_app, List.getElem?_append_left (List.getElem?_eq_some_iff.1 hu).1]; exact hu)
theorem wrap2 (a b : Nat) (h : a + b < 1000000) : IntKind.i64.wrap (IntKind.i64.wrap ((a : Int) + (b : Int)) + 1) = (a : Int) + (b : Int) + 1 := by
  rw [IntWalk.i64_in ((a : Int) + (b : Int)) (by omega), IntWalk.i64_in _ (by omega)]
theorem cast3 (a b : Nat) : ((a + b + 1 : Nat) : Int) = (a : Int) + (b : Int) + 1 := by omega
theorem sizeN (n : Nat) (h : n ≤ 30) : (min (max ((n : Int) + 6) 0) 3000).toNat = n + 6 := by omega
theorem low_of {B : Nat} {W u : World} {ka : Option Addr} {kl : List Int} (h : LiesAt W ka (vals kl)) (hB : B = W.heap.size) (b : Below B W u) : LowI B u ka kl := fun j z hz => by
  subst hB
  obtain ⟨a, h1, h2, h3⟩ := h j (.int .i64 z) (by simp [vals, hz])
  exact ⟨a, h1, h2, (World.cell?_of_block (a := a.add j) (b.block _ (by rw [show (a.add j).block = a.block by unfold Addr.add; split <;> rfl]; exact h2))).trans h3⟩
theorem disk_len {W u : World} {X : Nat → Prop} {q p n : Nat} {V : Value} {T : List Chg} {pb : Nat} {L M : List CL} {hd nx : Nat} {ep : Int} {D : Dsk} {K : Nat} (h : Pl W u X q p n V T pb L M hd nx ep D K) : 3 + n ≤ D.lasts.length := by
  have h1 := h.i.len
  have h2 := h.m.g.d.shape.1
  omega
/-- The op's cells, in a block of its own. -/
structure OpB (u : World) (ob : Nat) (ok on oe : Int) (la : Option Addr) (l : List Chg) (lc : Nat) (ka : Option Addr) (kl : List Int) (kc : Nat) : Prop where
  c0 : u.cell? ⟨ob, 0, none⟩ = some (.int .i64 ok)
  c1 : u.cell? ⟨ob, 1, none⟩ = some (.int .i64 on)
  c2 : u.cell? ⟨ob, 2, none⟩ = some (.int .i64 oe)
  c3 : u.cell? ⟨ob, 3, none⟩ = some (.slice la l.length lc)
  c4 : u.cell? ⟨ob, 4, none⟩ = some (.slice ka kl.length kc)
theorem OpB.kept {u u' : World} {ob : Nat} {ok on oe : Int} {la : Option Addr} {l : List Chg} {lc : Nat} {ka : Option Addr} {kl : List Int} {kc : Nat} (h : OpB u ob ok on oe la l lc ka kl kc) (hb : u'.heap[ob]? = u.heap[ob]?) : OpB u' ob ok on oe la l lc ka kl kc :=
  have e : ∀ j, u'.cell? ⟨ob, j, none⟩ = u.cell? ⟨ob, j, none⟩ := fun j => World.cell?_of_block (a := ⟨ob, j, none⟩) hb
  ⟨(e 0).trans h.c0, (e 1).trans h.c1, (e 2).trans h.c2, (e 3).trans h.c3, (e 4).trans h.c4⟩
theorem OpB.below {u u' : World} {ob : Nat} {ok on oe : Int} {la : Option Addr} {l : List Chg} {lc : Nat} {ka : Option Addr} {kl : List Int} {kc : Nat} (h : OpB u ob ok on oe la l lc ka kl kc) (b : Below u.heap.size u u') : OpB u' ob ok on oe la l lc ka kl kc :=
  h.kept (b.block ob (cell_lt h.c0))
/-- What holds at the loop's head. -/
structure PB (n j hd nx : Nat) (ep : Int) (K : Nat) (T : List Chg) (L : List CL) : Prop where
  e0 : 1 ≤ ep
  e1 : ep < 1000000000
  x : nx ≤ 1000 + j * 41
  k : K ≤ j * 60
  t : T.length + hd ≤ nx
  l : L.length ≤ j
theorem PB.lim {n j hd nx : Nat} {ep : Int} {K : Nat} {T : List Chg} {L : List CL} (h : PB n j hd nx ep K T L) (n1 : 1 ≤ n) (n30 : n ≤ 30) (hj : j ≤ 40) (ho : hd ≤ nx) : PLim n hd nx ep K := by
  obtain ⟨h1, h2, h3, h4, h5, h6⟩ := h
  exact ⟨n1, n30, by omega, by omega, by omega, h2, by omega⟩
theorem PB.next {n j hd nx : Nat} {ep : Int} {K : Nat} {T : List Chg} {L : List CL} (h : PB n j hd nx ep K T L) : PB n (j + 1) hd nx ep K T L := by
  obtain ⟨h1, h2, h3, h4, h5, h6⟩ := h
  exact ⟨h1, h2, by omega, by omega, by omega, by omega⟩

set_option maxRecDepth 100000 in
set_option maxHeartbeats 40000000 in
theorem Plays_walk (x y : Int) (a0 : Option Addr) (OPS : List LOp) (c0 : Nat) (W : World) (ht : TyOk W.heap.size W) (h : LOpsAt W a0 OPS) :
    Calls Tryz.prog 3 #[.int .i64 x, .int .i64 y, .slice a0 OPS.length c0] W fun e w' => e = .returned (.bool true) ∧ Below W.heap.size W w' := by
  have HT := Lib.hid ht
  clear ht
  by_cases hin : x < 1 ∨ 30 < x ∨ y < 0 ∨ 1000 < y ∨ 40 < OPS.length
  · as_aux_lemma =>
      have HA := Lib.hid (lalive_is W HT.out)
      clear h
      rcases hin with h | h | h | h | h
      all_goals
        go_enter Tryz.func3, Tryz.ntmps3
        go_wp2_with (go_at_call 4; refine HA.out.mono ?_; rintro e w1 ⟨rfl, hb1⟩)
      all_goals
        go_ret
        exact ⟨rfl, hb1⟩
  · obtain ⟨n, rfl⟩ := Int.eq_ofNat_of_zero_le (show 0 ≤ x by omega)
    obtain ⟨hd0, rfl⟩ := Int.eq_ofNat_of_zero_le (show 0 ≤ y by omega)
    have h1 : 1 ≤ (n : Int) := by omega
    have h2 : (n : Int) ≤ 30 := by omega
    have h3 : (hd0 : Int) ≤ 1000 := by omega
    have h4 : (OPS.length : Int) ≤ 40 := by omega
    have n1 : 1 ≤ n := by omega
    have n30 : n ≤ 30 := by omega
    have HMN := Lib.hid (sizeN n n30)
    have H := Lib.hid h
    clear hin h
    go_enter Tryz.func3, Tryz.ntmps3
    go_wp2_with (first
      | (go_at_call 4; refine (lalive_is _ HT.out).mono ?_; rintro e w1 ⟨rfl, hb1⟩)
      | (go_at_call 5; refine (New_k ((n : Int) + 6) _ (HT.out.below hb1) hb1.size).mono ?_; rintro e w2 ⟨p, rfl, hA, hb2, _⟩; rw [HMN.out] at hA; have H2 : Hid (AtK W.heap.size (fun _ => False) w2 p (newD (n + 6)) ∧ Below W.heap.size W w2) := Lib.hid ⟨hA.mono (fun _ q => q.elim), hb1.trans (hb2.mono hb1.size)⟩; clear hA hb2)
      | (go_at_call 6
         refine (pl_start (hd := hd0) H2.out.1 H2.out.2 n1 n30 (by omega)).mono ?_
         rintro e w3 ⟨q0, rfl, b3, A3⟩
         have H3 := Lib.hid (And.intro A3 b3)
         clear A3 b3))
    go_loopw [1, 8, 9, 10, 11, 13] (fun hv ev xv nv av i wr => ∃ (j hd nx q K : Nat) (ep : Int) (T : List Chg) (L M : List CL) (D : Dsk), j ≤ OPS.length ∧ hv = .int .i64 (hd : Int) ∧ ev = .int .i64 ep ∧ xv = .pointer (some ⟨q, 0, none⟩) ∧ nv = .int .i64 (nx : Int) ∧ i = .int .i64 (j : Int) ∧ Hid (Pl W wr (fun _ => False) q p n av T w3.heap.size L M hd nx ep D K) ∧ Hid (PB n j hd nx ep K T L)) (fun _ _ _ _ _ i _ => OPS.length - (intOf i).toNat)
    case atStart => exact ⟨0, hd0, hd0, q0, 0, 1, [], [], [], _, Nat.zero_le _, rfl, rfl, rfl, rfl, rfl, Lib.hid H3.out.1, Lib.hid ⟨by omega, by omega, by omega, by omega, by simp, by simp⟩⟩
    case round =>
      obtain ⟨j, hd, nx, q, K, ep, T, L, M, D, hj, rfl, rfl, rfl, rfl, rfl, HP, HB⟩ := hrel
      generalize hpb : w3.heap.size = pb at *
      by_cases hlt : j < OPS.length
      · obtain ⟨g, f, rfl, hg, hO⟩ := H.out j _ (List.getElem?_eq_getElem hlt)
        generalize OPS[j] = o at *
        obtain ⟨ok, on, oe, la, l, lc, ka, kl, kc⟩ := o
        have hb := HP.out.m.b
        have d0 := (hb.cell (p := ⟨g, f + j * 5 + 0, none⟩) hg).trans (hO.cell 0 _ rfl)
        have d1 := (hb.cell (p := ⟨g, f + j * 5 + 1, none⟩) hg).trans (hO.cell 1 _ rfl)
        have d2 := (hb.cell (p := ⟨g, f + j * 5 + 2, none⟩) hg).trans (hO.cell 2 _ rfl)
        have d3 := (hb.cell (p := ⟨g, f + j * 5 + 3, none⟩) hg).trans (hO.cell 3 _ rfl)
        have d4 := (hb.cell (p := ⟨g, f + j * 5 + 4, none⟩) hg).trans (hO.cell 4 _ rfl)
        rw [Nat.add_zero] at d0
        have HOl := Lib.hid (show LiesAt W la (flat Chg.cells l) from hO.lies)
        have HOk := Lib.hid (show LiesAt W ka (vals kl) from hO.keep)
        have n63 : on < 2 ^ 63 := hO.n63
        have e63 : oe < 2 ^ 63 := hO.e63
        have lm : l.length ≤ maxLen := hO.lmax
        have km : kl.length ≤ maxLen := hO.kmax
        have hli : (l.length : Int) ≤ 9223372036854775807 := by unfold maxLen at lm; omega
        have hki : (kl.length : Int) ≤ 9223372036854775807 := by unfold maxLen at km; omega
        have hi1 : (j : Int) < (OPS.length : Int) := by omega
        have hj40 : j ≤ 39 := by omega
        have HC : Hid (OpB (wr.alloc (.cells #[.int .i64 ok, .int .i64 on, .int .i64 oe, .slice la l.length lc, .slice ka kl.length kc] 40)) wr.heap.size ok on oe la l lc ka kl kc) := Lib.hid ⟨by simp, by simp, by simp, by simp, by simp⟩
        have H0 : Hid (PlM W (wr.alloc (.cells #[.int .i64 ok, .int .i64 on, .int .i64 oe, .slice la l.length lc, .slice ka kl.length kc] 40)) (fun b => b = wr.heap.size) q p n u11 T pb L M hd nx ep D) := Lib.hid (HP.out.m.more ((Below.refl _ _).alloc (Nat.le_refl _) _) (fun k r => .inr (by subst r; simp)))
        have HD := Lib.hid (And.intro HP.out.i (And.intro HP.out.s (disk_len HP.out)))
        obtain ⟨av, cv, rfl⟩ := HP.out.m.form
        have hord : hd ≤ nx := HP.out.i.ord
        have hcap : nx ≤ hd + n := HP.out.i.cap
        have HLM := Lib.hid (HB.out.lim n1 n30 (by omega) hord)
        have ep1 := HB.out.e0
        have ep2 := HB.out.e1
        have hxb := HB.out.x
        clear hb hg hO HP lm km
        by_cases hbig : 40 < l.length ∨ 60 < kl.length
        · as_aux_lemma =>
            rcases hbig with hbig | hbig
            all_goals
              go_wp2
            all_goals
              go_ret
              exact ⟨rfl, H0.out.b⟩
        · have l40 : (l.length : Int) ≤ 40 := by omega
          have k60 : (kl.length : Int) ≤ 60 := by omega
          clear hbig
          by_cases k1 : ok = 1
          · subst k1
            go_wp2_with (go_at_call 7
                         refine (lentChanges_is la l lc _ (HOl.out.below H0.out.b) (by omega)).mono ?_
                         rintro e w4 ⟨g4, cap4, rfl, b4, o4⟩
                         have H4 := Lib.hid (And.intro (H0.out.more (X' := fun b => b = wr.heap.size ∨ b = g4) b4 (fun k r => by
                           rcases r with r | r
                           · exact .inl r
                           · exact .inr (by subst r; exact o4.lt _ rfl))) (And.intro (HC.out.below b4) o4))
                         clear b4 o4)
            go_at_call 8
            refine (pl_append (K := K) ⟨H4.out.1, HD.out.1, HD.out.2.1⟩ HLM.out (some ⟨g4, 0, none⟩) l cap4 (lent_liesP H4.out.2.2) (by omega)).mono ?_
            rintro e w5 ⟨x5, rfl, g5, hx⟩
            have hop := H4.out.2.1.kept (g5 _ (.inl rfl))
            have hlent := owns_keptG H4.out.2.2 (show KeptG (fun b => Value.ownBlock (.slice (some ⟨g4, 0, none⟩) (l.length + 1) cap4) = some b) w4 w5 from g5.mono (fun b r => .inr (by simpa [Value.ownBlock] using r.symm)))
            have HOP := Lib.hid (And.intro hop hlent)
            have f5 := hop.c3
            have HFI := Lib.hid (fun u (hu : Below W.heap.size W u) => fine_is la l lc u (HOl.out.below hu) (by omega))
            clear hop hlent g5
            rcases hx with ⟨rfl, hf, A5⟩ | ⟨rfl, hf, hr, A5⟩ | ⟨hf, hr, D5, ⟨rfl, hon, A5, I5, S5⟩ | ⟨rfl, hoff, A5, hok, F5⟩⟩
            all_goals
              rw [hf] at HFI
            · as_aux_lemma =>
                have H5 := Lib.hid (And.intro A5.m (And.intro HOP.out.1 HOP.out.2))
                have HD5 := Lib.hid (And.intro A5.i A5.s)
                clear A5
                go_wp2_with (first
                  | (go_at_call 9; refine (HFI.out _ H5.out.1.b).mono ?_; rintro e w6 ⟨rfl, rfl⟩)
                  | (go_at_call 11
                     refine (pl_stays g4 cap4 _ la l lc H5.out.2.2 (HOl.out.below H5.out.1.b) (by omega)).mono ?_
                     rintro e w7 ⟨rfl, b7⟩
                     have H7 := Lib.hid (And.intro (H5.out.1.next b7) (H5.out.2.1.below b7))
                     have f7 := H7.out.2.c3
                     clear b7)
                  | (go_at_call 19; refine (pl_head H7.out.1 rfl).mono ?_; rintro e w90 ⟨rfl, rfl⟩)
                  | (go_at_call 20; refine (pl_next H7.out.1 rfl).mono ?_; rintro e w91 ⟨rfl, rfl⟩)
                  | (go_at_call 21; refine (pl_room H7.out.1 HLM.out hord hcap rfl rfl).mono ?_; rintro e w92 ⟨rfl, b92⟩; have HZ := Lib.hid (H7.out.1.next b92); clear b92))
                exact ⟨⟨j + 1, hd, nx, q, K, ep, T, L, M, _, by omega, rfl, rfl, rfl, by go_num, by go_num, Lib.hid ⟨HZ.out.nil, HD5.out.1, HD5.out.2⟩, Lib.hid HB.out.next⟩, by simp [intOf]; omega⟩
            · as_aux_lemma =>
                have H5 := Lib.hid (And.intro A5.m (And.intro HOP.out.1 HOP.out.2))
                have HD5 := Lib.hid (And.intro A5.i A5.s)
                have hri : (n : Int) - ((nx : Int) - (hd : Int)) < (l.length : Int) + 1 := by omega
                clear A5
                go_wp2_with (first
                  | (go_at_call 9; refine (HFI.out _ H5.out.1.b).mono ?_; rintro e w6 ⟨rfl, rfl⟩)
                  | (go_at_call 11
                     refine (pl_stays g4 cap4 _ la l lc H5.out.2.2 (HOl.out.below H5.out.1.b) (by omega)).mono ?_
                     rintro e w7 ⟨rfl, b7⟩
                     have H7 := Lib.hid (And.intro (H5.out.1.next b7) (H5.out.2.1.below b7))
                     have f7 := H7.out.2.c3
                     clear b7)
                  | (go_at_call 19; refine (pl_head H7.out.1 rfl).mono ?_; rintro e w90 ⟨rfl, rfl⟩)
                  | (go_at_call 20; refine (pl_next H7.out.1 rfl).mono ?_; rintro e w91 ⟨rfl, rfl⟩)
                  | (go_at_call 21; refine (pl_room H7.out.1 HLM.out hord hcap rfl rfl).mono ?_; rintro e w92 ⟨rfl, b92⟩; have HZ := Lib.hid (H7.out.1.next b92); clear b92))
                exact ⟨⟨j + 1, hd, nx, q, K, ep, T, L, M, _, by omega, rfl, rfl, rfl, by go_num, by go_num, Lib.hid ⟨HZ.out.nil, HD5.out.1, HD5.out.2⟩, Lib.hid HB.out.next⟩, by simp [intOf]; omega⟩
            · as_aux_lemma =>
                have H5 := Lib.hid (And.intro A5 (And.intro HOP.out.1 HOP.out.2))
                have HD5 := Lib.hid (And.intro I5 S5)
                have hri : ¬ (n : Int) - ((nx : Int) - (hd : Int)) < (l.length : Int) + 1 := by omega
                have hnx : ((nx + l.length + 1 : Nat) : Int) = (nx : Int) + ((l.length : Int) + 1) := by omega
                have HNX := Lib.hid hnx
                have HL5 := Lib.hid (show PLim n hd (nx + l.length + 1) ep (K + l.length + 2) from ⟨n1, n30, by omega, by omega, by omega, by omega, by have := HB.out.k; omega⟩)
                have hT30 : T.length ≤ 30 := by have := HB.out.t; omega
                obtain ⟨i0, hi, hz0, hz1, hz2⟩ := info_parts chgInfo
                have HI := Lib.hid (And.intro hi (And.intro hz0 (And.intro hz1 hz2)))
                clear A5 I5 S5 hnx hi hz0 hz1 hz2
                go_wp2_with (first
                  | (go_at_call 9; refine (HFI.out _ H5.out.1.b).mono ?_; rintro e w6 ⟨rfl, rfl⟩)
                  | (go_at_call 10; refine (pl_on H5.out.1).mono ?_; rintro e w6 ⟨rfl, rfl⟩; rw [hon])
                  | (go_at_call 11
                     refine (pl_stays g4 cap4 _ la l lc H5.out.2.2 (HOl.out.below H5.out.1.b) (by omega)).mono ?_
                     rintro e w7 ⟨rfl, b7⟩
                     have H7 := Lib.hid (And.intro (H5.out.1.next b7) (H5.out.2.1.below b7))
                     have f7 := H7.out.2.c3
                     clear b7))
                go_region_held3 (fun u => u.cell? ⟨wr.heap.size, 3, none⟩ = some (.slice la l.length lc)) (first | assumption | (simp only [World.cell?_drew]; assumption) | go_simp) (first
                  | (refine step_append_rowW (by simp [Region.wanted]) (.const (.slice none 0 0)) (.tmp 133) 28 rfl w7.heap.size 55 i0 _ 2 16 Tryz.underlying28 HI.out.1 HI.out.2.1 HI.out.2.2.1 HI.out.2.2.2 (by rfl) (by omega) (.slice none 0 0) 0 [] rfl (World.ownsRow_nil _ _ _ _) av T.length cv (flat Chg.cells T) rfl (by rw [flat_len Chg.len]) (row_liesK (by first | exact H7.out.1.o | exact own_belowK H7.out.1.o (Below.refl _ _).drew)) (flat_all Chg.one _) (by unfold maxLen; omega) (by omega) (Nat.le_refl _) ?_
                     intro v8 w8 o8 g8
                     rw [Nat.zero_add, List.nil_append] at o8
                     have b8 : Below w7.heap.size w7 w8 := Below.trans (by first | exact Below.refl _ _ | exact (Below.refl _ _).drew) ((Below.refl _ _).grown g8 (Nat.le_refl _) (fun k hk => by cases hk))
                     have f8 := (b8.cell (p := ⟨wr.heap.size, 3, none⟩) (cell_lt f7)).trans f7
                     have H8 := Lib.hid (And.intro b8 o8)
                     clear o8 g8 b8)
                  | (refine step_append_rowW (by simp [Region.wanted]) (.tmp 134) (.tmp 136) 28 rfl w7.heap.size 55 i0 _ 2 16 Tryz.underlying28 HI.out.1 HI.out.2.1 HI.out.2.2.1 HI.out.2.2.2 (by rfl) (by omega) v8 T.length (flat Chg.cells T) rfl H8.out.2 la l.length lc (flat Chg.cells l) rfl (by rw [flat_len Chg.len]) (HOl.out.below (H7.out.1.b.trans (H8.out.1.mono H7.out.1.b.size))) (flat_all Chg.one _) (by unfold maxLen; omega) (by omega) H8.out.1.size ?_
                     intro v9 w9 o9 g9
                     have P9 := pl_two H8.out.1 H8.out.2 o9 g9
                     have f9 := (P9.1.cell (p := ⟨wr.heap.size, 3, none⟩) (cell_lt f7)).trans f7
                     have H9 := Lib.hid P9
                     clear o9 g9 P9))
                all_goals
                  have H10 := Lib.hid (H7.out.1.list H9.out.1 H9.out.2)
                  obtain ⟨a9, c9, rfl⟩ := H10.out.form
                  clear H8 f9
                  go_wp2_with (first
                    | (go_at_call 19; refine (pl_head H10.out rfl).mono ?_; rintro e w90 ⟨rfl, rfl⟩)
                    | (go_at_call 20; refine (pl_next H10.out HNX.out).mono ?_; rintro e w91 ⟨rfl, rfl⟩)
                    | (go_at_call 21; refine (pl_room H10.out HL5.out (by omega) (by omega) HNX.out rfl).mono ?_; rintro e w92 ⟨rfl, b92⟩; have HZ := Lib.hid (H10.out.next b92); clear b92))
                  exact ⟨⟨j + 1, hd, nx + l.length + 1, q, K + l.length + 2, ep, T ++ l, L, M, _, by omega, rfl, rfl, rfl, by rw [HNX.out], by go_num, Lib.hid ⟨(by have h := HZ.out.nil; rw [List.length_append] at h; exact h), HD5.out.1, HD5.out.2⟩, Lib.hid (show PB n (j + 1) hd (nx + l.length + 1) ep (K + l.length + 2) (T ++ l) L from ⟨by omega, by omega, by omega, by have := HB.out.k; omega, by have := HB.out.t; rw [List.length_append]; omega, HB.out.next.l⟩)⟩, by simp [intOf]; omega⟩
            · by_cases hbe : 999999990 ≤ ep
              · as_aux_lemma =>
                  have H5 := Lib.hid (And.intro A5 (And.intro HOP.out.1 HOP.out.2))
                  have hri : ¬ (n : Int) - ((nx : Int) - (hd : Int)) < (l.length : Int) + 1 := by omega
                  clear A5 F5
                  go_wp2_with (first
                    | (go_at_call 9; refine (HFI.out _ H5.out.1.b).mono ?_; rintro e w6 ⟨rfl, rfl⟩)
                    | (go_at_call 10; refine (pl_on H5.out.1).mono ?_; rintro e w6 ⟨rfl, rfl⟩; rw [hoff])
                    | (go_at_call 11
                       refine (pl_stays g4 cap4 _ la l lc H5.out.2.2 (HOl.out.below H5.out.1.b) (by omega)).mono ?_
                       rintro e w7 ⟨rfl, b7⟩
                       have H7 := Lib.hid (And.intro (H5.out.1.next b7) (H5.out.2.1.below b7))
                       have f7 := H7.out.2.c3
                       clear b7))
                  go_ret
                  exact ⟨rfl, H7.out.1.b⟩
              · obtain ⟨hs, hcut⟩ := HD.out.1.fell l hok hr (by omega) F5
                have hS5 : Still { D5 with on := true } (K + l.length + 2) := ⟨rfl, F5.waits, F5.same, F5.deeds⟩
                have hl5 : 3 + n ≤ ({ D5 with on := true } : Dsk).lasts.length := by
                  show 3 + n ≤ D5.lasts.length
                  rw [F5.same, F5.len]
                  exact HD.out.1.len
                have HF := Lib.hid (And.intro hcut (And.intro hS5 hl5))
                have H5 := Lib.hid (And.intro A5 (And.intro HOP.out.1 HOP.out.2))
                have hri : ¬ (n : Int) - ((nx : Int) - (hd : Int)) < (l.length : Int) + 1 := by omega
                have hT30 : T.length ≤ 30 := by have := HB.out.t; omega
                obtain ⟨i0, hi, hz0, hz1, hz2⟩ := info_parts chgInfo
                have HI := Lib.hid (And.intro hi (And.intro hz0 (And.intro hz1 hz2)))
                clear A5 F5 hcut hS5 hl5 hok hi hz0 hz1 hz2
                rcases hs with hs | hs
                · as_aux_lemma =>
                    have HS := Lib.hid hs
                    obtain ⟨z, hz⟩ : ∃ z : Int, z = (nx : Int) := ⟨_, rfl⟩
                    have hP : ((hd + (nx - hd) : Nat) : Int) = z := by omega
                    have hP2 : ((nx : Nat) : Int) = (nx : Int) := by omega
                    have HPP := Lib.hid (And.intro hP hP2)
                    have z1 : (z == (nx : Int) + (l.length : Int) + 1) = false := beq_eq_false_iff_ne.2 (by omega)
                    have z3 : ¬ z = IntKind.i64.wrap (IntKind.i64.wrap ((nx : Int) + (l.length : Int)) + 1) := by rw [wrap2 nx l.length (by omega)]; omega
                    have z2 : (z != (nx : Int)) = false := by simp [hz]
                    have hRl : (T).length ≤ 1000 := by first | omega | (rw [List.length_append]; omega)
                    have hm : nx - hd ≤ 10000 := by omega
                    have HL6 := Lib.hid (show PLim n hd (nx) ep (K + l.length + 2) from ⟨n1, n30, by omega, by omega, by omega, by omega, by have := HB.out.k; omega⟩)
                    have HL7 := Lib.hid (show PLim n (nx) (nx) (ep + 1) (K + l.length + 2) from ⟨n1, n30, by omega, by omega, by omega, by omega, by have := HB.out.k; omega⟩)
                    clear hs hP hP2 hz
                    go_wp2_with (first
                      | (go_at_call 9; refine (HFI.out _ (by first | exact H7.out.1.b | exact H5.out.1.b)).mono ?_; rintro e w6 ⟨rfl, rfl⟩)
                      | (go_at_call 10; refine (pl_on H5.out.1).mono ?_; rintro e w6 ⟨rfl, rfl⟩; rw [hoff])
                      | (go_at_call 11
                         refine (pl_stays g4 cap4 _ la l lc H5.out.2.2 (HOl.out.below H5.out.1.b) (by omega)).mono ?_
                         rintro e w7 ⟨rfl, b7⟩
                         have H7 := Lib.hid (And.intro (H5.out.1.next b7) (H5.out.2.1.below b7))
                         have f7 := H7.out.2.c3
                         clear b7)
                      | (go_at_call 12
                         refine (pl_power H7.out.1).mono ?_
                         rintro e w8 ⟨v8, rfl, A8, g8⟩
                         have H8 := Lib.hid (And.intro A8 (H7.out.2.kept (g8 _ (.inl rfl))))
                         have f8 := H8.out.2.c3
                         clear A8 g8)
                      | (go_at_call 13
                         refine (pl_scan (K := K) H8.out.1 rfl HLM.out HF.out.2.2 (T) (nx - hd) hm HPP.out.1 HS.out).mono ?_
                         rintro e w9 ⟨a9, c9, rfl, b9, o9⟩
                         have H9 := Lib.hid (And.intro (H8.out.1.next b9) (And.intro (row_liesK o9) (H8.out.2.below b9)))
                         have f9 := H9.out.2.2.c3
                         clear b9 o9))
                    have hd9 : Below w9.heap.size w9 w9.drew := (Below.refl _ _).drew
                    have f9d : w9.drew.cell? ⟨wr.heap.size, 3, none⟩ = some (.slice la l.length lc) := (hd9.cell (p := ⟨wr.heap.size, 3, none⟩) (cell_lt f9)).trans f9
                    have H9d := Lib.hid (And.intro (H9.out.1.next hd9) (H9.out.2.1.below hd9))
                    clear hd9
                    refine wp_region_held_drew (S := (fun u => u.cell? ⟨wr.heap.size, 3, none⟩ = some (.slice la l.length lc))) (by kernel_rfl) f9d (fun hHeld => ?_)
                    refine wpAnyH_take (i := 0) (oi := { dst := some 164, op := Op.move (Operand.tmp 19), type := 3, pos := "law.go:88", after := #[], guard := none }) (v := ?_) rfl (by kernel_rfl) (by kernel_rfl) (by kernel_rfl) (fun _ _ _ h => h) (Or.inl ⟨by rfl, ?_⟩) (by assumption) ?_
                    rotate_left
                    · (intro u hSu; (try dsimp only at hSu); go_simp) <;> (try with_reducible rfl)
                    try simp only [Act.put, List.setIfInBounds_toArray, List.set_cons_zero, List.set_cons_succ]
                    refine wpAnyH_take (i := 1) (oi := { dst := some 165, op := Op.move (Operand.tmp 10), type := 3, pos := "law.go:88", after := #[], guard := none }) (v := ?_) rfl (by kernel_rfl) (by kernel_rfl) (by kernel_rfl) (fun _ _ _ h => h) (Or.inl ⟨by rfl, ?_⟩) (by assumption) ?_
                    rotate_left
                    · (intro u hSu; (try dsimp only at hSu); go_simp) <;> (try with_reducible rfl)
                    try simp only [Act.put, List.setIfInBounds_toArray, List.set_cons_zero, List.set_cons_succ]
                    refine wpAnyH_take (i := 2) (oi := { dst := some 166, op := Op.fieldAddr 40 (Operand.tmp 14) 3, type := 0, pos := "law.go:88", after := #[], guard := none }) (v := ?_) rfl (by kernel_rfl) (by kernel_rfl) (by kernel_rfl) (fun _ _ _ h => h) (Or.inl ⟨by rfl, ?_⟩) (by assumption) ?_
                    rotate_left
                    · (intro u hSu; (try dsimp only at hSu); go_simp) <;> (try with_reducible rfl)
                    try simp only [Act.put, List.setIfInBounds_toArray, List.set_cons_zero, List.set_cons_succ]
                    refine wpAnyH_take (i := 3) (oi := { dst := some 167, op := Op.load 28 (Operand.tmp 166), type := 28, pos := "law.go:88", after := #[{ on := 2, ground := Ground.data }], guard := none }) (v := ?_) rfl (by kernel_rfl) (by kernel_rfl) (by kernel_rfl) (fun _ _ _ h => h) (Or.inl ⟨by rfl, ?_⟩) (by assumption) ?_
                    rotate_left
                    · (intro u hSu; (try dsimp only at hSu); go_simp) <;> (try with_reducible rfl)
                    try simp only [Act.put, List.setIfInBounds_toArray, List.set_cons_zero, List.set_cons_succ]
                    refine wpAnyH_take (i := 4) (oi := { dst := some 168, op := Op.call { callee := Callee.builtin Builtin.len, args := #[Operand.tmp 167], argTypes := #[28] }, type := 3, pos := "law.go:88", after := #[{ on := 3, ground := Ground.data }], guard := none }) (v := ?_) rfl (by kernel_rfl) (by kernel_rfl) (by kernel_rfl) (fun _ _ _ h => h) (Or.inl ⟨by rfl, ?_⟩) (by assumption) ?_
                    rotate_left
                    · (intro u hSu; (try dsimp only at hSu); go_simp) <;> (try with_reducible rfl)
                    try simp only [Act.put, List.setIfInBounds_toArray, List.set_cons_zero, List.set_cons_succ]
                    refine wpAnyH_take (i := 5) (oi := { dst := some 169, op := Op.binOp BinOp.add 3 (Operand.tmp 165) (Operand.tmp 168) 3, type := 3, pos := "law.go:88", after := #[{ on := 1, ground := Ground.data }, { on := 4, ground := Ground.data }], guard := none }) (v := ?_) rfl (by kernel_rfl) (by kernel_rfl) (by kernel_rfl) (fun _ _ _ h => h) (Or.inl ⟨by rfl, ?_⟩) (by assumption) ?_
                    rotate_left
                    · (intro u hSu; (try dsimp only at hSu); go_simp) <;> (try with_reducible rfl)
                    try simp only [Act.put, List.setIfInBounds_toArray, List.set_cons_zero, List.set_cons_succ]
                    refine wpAnyH_take (i := 6) (oi := { dst := some 170, op := Op.binOp BinOp.add 3 (Operand.tmp 169) (Operand.const (Value.int IntKind.i64 1)) 3, type := 3, pos := "law.go:88", after := #[{ on := 5, ground := Ground.data }], guard := none }) (v := ?_) rfl (by kernel_rfl) (by kernel_rfl) (by kernel_rfl) (fun _ _ _ h => h) (Or.inl ⟨by rfl, ?_⟩) (by assumption) ?_
                    rotate_left
                    · (intro u hSu; (try dsimp only at hSu); go_simp) <;> (try with_reducible rfl)
                    try simp only [Act.put, List.setIfInBounds_toArray, List.set_cons_zero, List.set_cons_succ]
                    refine wpAnyH_take (i := 7) (oi := { dst := some 171, op := Op.binOp BinOp.eql 3 (Operand.tmp 164) (Operand.tmp 170) 3, type := 4, pos := "law.go:88", after := #[{ on := 0, ground := Ground.data }, { on := 6, ground := Ground.data }], guard := none }) (v := Value.bool false) rfl (by kernel_rfl) (by kernel_rfl) (by kernel_rfl) (fun _ _ _ h => h) (Or.inl ⟨by rfl, ?_⟩) (by assumption) ?_
                    · (intro u hSu; (try dsimp only at hSu); go_simp) <;> (first | (with_reducible rfl) | exact z3 | (simp; done) | trace_state)
                    try simp only [Act.put, List.setIfInBounds_toArray, List.set_cons_zero, List.set_cons_succ]
                    refine wpAnyH_take (i := 8) (oi := { dst := some 172, op := Op.move (Operand.tmp 171), type := 4, pos := "law.go:88", after := #[{ on := 7, ground := Ground.data }], guard := none }) (v := Value.bool false) rfl (by kernel_rfl) (by kernel_rfl) (by kernel_rfl) (fun _ _ _ h => h) (Or.inl ⟨by rfl, ?_⟩) (by assumption) ?_
                    · (intro u hSu; (try dsimp only at hSu); go_simp) <;> (first | (with_reducible rfl) | exact z3 | (simp; done) | trace_state)
                    try simp only [Act.put, List.setIfInBounds_toArray, List.set_cons_zero, List.set_cons_succ]
                    refine wpAnyH_take (i := 9) (oi := { dst := some 173, op := Op.move (Operand.tmp 18), type := 28, pos := "law.go:88", after := #[{ on := 8, ground := Ground.guard }], guard := some (8, true) }) (v := undef) rfl (by kernel_rfl) (by kernel_rfl) (by kernel_rfl) (fun _ _ _ h => h) (Or.inr ⟨by first | rfl | (simp [Region.wanted, yielded]; done), rfl⟩) (by assumption) ?_
                    try simp only [Act.put, List.setIfInBounds_toArray, List.set_cons_zero, List.set_cons_succ]
                    refine wpAnyH_take (i := 10) (oi := { dst := some 174, op := Op.move (Operand.tmp 11), type := 28, pos := "law.go:88", after := #[{ on := 8, ground := Ground.guard }], guard := some (8, true) }) (v := undef) rfl (by kernel_rfl) (by kernel_rfl) (by kernel_rfl) (fun _ _ _ h => h) (Or.inr ⟨by first | rfl | (simp [Region.wanted, yielded]; done), rfl⟩) (by assumption) ?_
                    try simp only [Act.put, List.setIfInBounds_toArray, List.set_cons_zero, List.set_cons_succ]
                    refine wpAnyH_take (i := 11) (oi := { dst := some 175, op := Op.call { callee := Callee.builtin Builtin.append, args := #[Operand.const (Value.slice none 0 0), Operand.tmp 174], argTypes := #[28, 28] }, type := 28, pos := "law.go:88", after := #[{ on := 10, ground := Ground.data }, { on := 8, ground := Ground.chain }, { on := 8, ground := Ground.guard }], guard := some (8, true) }) (v := undef) rfl (by kernel_rfl) (by kernel_rfl) (by kernel_rfl) (fun _ _ _ h => h) (Or.inr ⟨by first | rfl | (simp [Region.wanted, yielded]; done), rfl⟩) (by assumption) ?_
                    try simp only [Act.put, List.setIfInBounds_toArray, List.set_cons_zero, List.set_cons_succ]
                    refine wpAnyH_take (i := 12) (oi := { dst := some 176, op := Op.fieldAddr 40 (Operand.tmp 14) 3, type := 0, pos := "law.go:88", after := #[{ on := 8, ground := Ground.guard }], guard := some (8, true) }) (v := undef) rfl (by kernel_rfl) (by kernel_rfl) (by kernel_rfl) (fun _ _ _ h => h) (Or.inr ⟨by first | rfl | (simp [Region.wanted, yielded]; done), rfl⟩) (by assumption) ?_
                    try simp only [Act.put, List.setIfInBounds_toArray, List.set_cons_zero, List.set_cons_succ]
                    refine wpAnyH_take (i := 13) (oi := { dst := some 177, op := Op.load 28 (Operand.tmp 176), type := 28, pos := "law.go:88", after := #[{ on := 12, ground := Ground.data }, { on := 8, ground := Ground.guard }], guard := some (8, true) }) (v := undef) rfl (by kernel_rfl) (by kernel_rfl) (by kernel_rfl) (fun _ _ _ h => h) (Or.inr ⟨by first | rfl | (simp [Region.wanted, yielded]; done), rfl⟩) (by assumption) ?_
                    try simp only [Act.put, List.setIfInBounds_toArray, List.set_cons_zero, List.set_cons_succ]
                    refine wpAnyH_take (i := 14) (oi := { dst := some 178, op := Op.call { callee := Callee.builtin Builtin.append, args := #[Operand.tmp 175, Operand.tmp 177], argTypes := #[28, 28] }, type := 28, pos := "law.go:88", after := #[{ on := 11, ground := Ground.data }, { on := 13, ground := Ground.data }, { on := 11, ground := Ground.chain }, { on := 8, ground := Ground.guard }], guard := some (8, true) }) (v := undef) rfl (by kernel_rfl) (by kernel_rfl) (by kernel_rfl) (fun _ _ _ h => h) (Or.inr ⟨by first | rfl | (simp [Region.wanted, yielded]; done), rfl⟩) (by assumption) ?_
                    try simp only [Act.put, List.setIfInBounds_toArray, List.set_cons_zero, List.set_cons_succ]
                    refine wpAnyH_take (i := 15) (oi := { dst := some 179, op := Op.call { callee := Callee.value (Operand.func 14), args := #[Operand.tmp 173, Operand.tmp 178], argTypes := #[28, 28] }, type := 4, pos := "law.go:88", after := #[{ on := 9, ground := Ground.data }, { on := 14, ground := Ground.data }, { on := 14, ground := Ground.chain }, { on := 8, ground := Ground.guard }], guard := some (8, true) }) (v := undef) rfl (by kernel_rfl) (by kernel_rfl) (by kernel_rfl) (fun _ _ _ h => h) (Or.inr ⟨by first | rfl | (simp [Region.wanted, yielded]; done), rfl⟩) (by assumption) ?_
                    try simp only [Act.put, List.setIfInBounds_toArray, List.set_cons_zero, List.set_cons_succ]
                    refine wpAnyH_take (i := 16) (oi := { dst := some 180, op := Op.pick (Operand.tmp 172) (Operand.tmp 179) (Operand.const (Value.bool false)), type := 4, pos := "law.go:88", after := #[{ on := 8, ground := Ground.data }, { on := 15, ground := Ground.data }], guard := none }) (v := ?_) rfl (by kernel_rfl) (by kernel_rfl) (by kernel_rfl) (fun _ _ _ h => h) (Or.inl ⟨by rfl, ?_⟩) (by assumption) ?_
                    rotate_left
                    · (intro u hSu; (try dsimp only at hSu); go_simp) <;> (try with_reducible rfl)
                    try simp only [Act.put, List.setIfInBounds_toArray, List.set_cons_zero, List.set_cons_succ]
                    refine wpAnyH_done (by kernel_rfl) ?_ _
                    all_goals
                      go_wp2_with (first
                        | (go_at_call 14
                           refine (pl_same H9d.out.2 (row_liesK H9d.out.1.o) hRl hRl true ⟨fun _ => rfl, fun _ => rfl⟩).mono ?_
                           rintro e w10 ⟨rfl, b10⟩
                           have H10 := Lib.hid (H9d.out.1.next b10)
                           clear b10)
                        | (go_at_call 6
                           refine (pl_new (nx' := nx) H10.out rfl HL6.out (by omega) (by omega) HF.out.2.2).mono ?_
                           rintro e w11 ⟨q11, rfl, A11, _⟩
                           have H11 := Lib.hid A11
                           clear A11)
                        | (go_at_call 15
                           refine (pl_cut H11.out (ep + 1) (by omega) (by omega)).mono ?_
                           rintro e w12 ⟨rfl, A12, _⟩
                           have H12 := Lib.hid A12.none
                           clear A12)
                        | (go_at_call 19; refine (pl_head H12.out rfl).mono ?_; rintro e w90 ⟨rfl, rfl⟩)
                        | (go_at_call 20; refine (pl_next H12.out rfl).mono ?_; rintro e w91 ⟨rfl, rfl⟩)
                        | (go_at_call 21; refine (pl_room H12.out HL7.out (Nat.le_refl _) (by omega) rfl rfl).mono ?_; rintro e w92 ⟨rfl, b92⟩; have HZ := Lib.hid (H12.out.next b92); clear b92))
                      exact ⟨⟨j + 1, nx, nx, q11, K + l.length + 2, ep + 1, [], L, M, _, by omega, rfl, rfl, rfl, rfl, by go_num, Lib.hid ⟨HZ.out.nil, HF.out.1 (nx) (ep + 1) (by omega), HF.out.2.1⟩, Lib.hid (show PB n (j + 1) (nx) (nx) (ep + 1) (K + l.length + 2) [] L from ⟨by omega, by omega, by omega, by have := HB.out.k; omega, by simp, HB.out.next.l⟩)⟩, by simp [intOf]; omega⟩
                · as_aux_lemma =>
                    have HS := Lib.hid hs
                    have hP : ((hd + (nx + l.length + 1 - hd) : Nat) : Int) = (nx : Int) + (l.length : Int) + 1 := by omega
                    have hP2 : ((nx + l.length + 1 : Nat) : Int) = (nx : Int) + (l.length : Int) + 1 := by omega
                    have HPP := Lib.hid (And.intro hP hP2)
                    have z3 : (nx : Int) + (l.length : Int) + 1 = IntKind.i64.wrap (IntKind.i64.wrap ((nx : Int) + (l.length : Int)) + 1) := (wrap2 nx l.length (by omega)).symm
                    have hRl : (T ++ l).length ≤ 1000 := by first | omega | (rw [List.length_append]; omega)
                    have hm : nx + l.length + 1 - hd ≤ 10000 := by omega
                    have HL6 := Lib.hid (show PLim n hd (nx + l.length + 1) ep (K + l.length + 2) from ⟨n1, n30, by omega, by omega, by omega, by omega, by have := HB.out.k; omega⟩)
                    have HL7 := Lib.hid (show PLim n (nx + l.length + 1) (nx + l.length + 1) (ep + 1) (K + l.length + 2) from ⟨n1, n30, by omega, by omega, by omega, by omega, by have := HB.out.k; omega⟩)
                    clear hs hP hP2
                    go_wp2_with (first
                      | (go_at_call 9; refine (HFI.out _ (by first | exact H7.out.1.b | exact H5.out.1.b)).mono ?_; rintro e w6 ⟨rfl, rfl⟩)
                      | (go_at_call 10; refine (pl_on H5.out.1).mono ?_; rintro e w6 ⟨rfl, rfl⟩; rw [hoff])
                      | (go_at_call 11
                         refine (pl_stays g4 cap4 _ la l lc H5.out.2.2 (HOl.out.below H5.out.1.b) (by omega)).mono ?_
                         rintro e w7 ⟨rfl, b7⟩
                         have H7 := Lib.hid (And.intro (H5.out.1.next b7) (H5.out.2.1.below b7))
                         have f7 := H7.out.2.c3
                         clear b7)
                      | (go_at_call 12
                         refine (pl_power H7.out.1).mono ?_
                         rintro e w8 ⟨v8, rfl, A8, g8⟩
                         have H8 := Lib.hid (And.intro A8 (H7.out.2.kept (g8 _ (.inl rfl))))
                         have f8 := H8.out.2.c3
                         clear A8 g8)
                      | (go_at_call 13
                         refine (pl_scan (K := K) H8.out.1 rfl HLM.out HF.out.2.2 (T ++ l) (nx + l.length + 1 - hd) hm HPP.out.1 HS.out).mono ?_
                         rintro e w9 ⟨a9, c9, rfl, b9, o9⟩
                         have H9 := Lib.hid (And.intro (H8.out.1.next b9) (And.intro (row_liesK o9) (H8.out.2.below b9)))
                         have f9 := H9.out.2.2.c3
                         clear b9 o9))
                    have hd9 : Below w9.heap.size w9 w9.drew := (Below.refl _ _).drew
                    have f9d : w9.drew.cell? ⟨wr.heap.size, 3, none⟩ = some (.slice la l.length lc) := (hd9.cell (p := ⟨wr.heap.size, 3, none⟩) (cell_lt f9)).trans f9
                    have H9d := Lib.hid (And.intro (H9.out.1.next hd9) (H9.out.2.1.below hd9))
                    clear hd9
                    refine wp_region_held_drew (S := (fun u => u.cell? ⟨wr.heap.size, 3, none⟩ = some (.slice la l.length lc))) (by kernel_rfl) f9d (fun hHeld => ?_)
                    refine wpAnyH_take (i := 0) (oi := { dst := some 164, op := Op.move (Operand.tmp 19), type := 3, pos := "law.go:88", after := #[], guard := none }) (v := ?_) rfl (by kernel_rfl) (by kernel_rfl) (by kernel_rfl) (fun _ _ _ h => h) (Or.inl ⟨by rfl, ?_⟩) (by assumption) ?_
                    rotate_left
                    · (intro u hSu; (try dsimp only at hSu); go_simp) <;> (try with_reducible rfl)
                    try simp only [Act.put, List.setIfInBounds_toArray, List.set_cons_zero, List.set_cons_succ]
                    refine wpAnyH_take (i := 1) (oi := { dst := some 165, op := Op.move (Operand.tmp 10), type := 3, pos := "law.go:88", after := #[], guard := none }) (v := ?_) rfl (by kernel_rfl) (by kernel_rfl) (by kernel_rfl) (fun _ _ _ h => h) (Or.inl ⟨by rfl, ?_⟩) (by assumption) ?_
                    rotate_left
                    · (intro u hSu; (try dsimp only at hSu); go_simp) <;> (try with_reducible rfl)
                    try simp only [Act.put, List.setIfInBounds_toArray, List.set_cons_zero, List.set_cons_succ]
                    refine wpAnyH_take (i := 2) (oi := { dst := some 166, op := Op.fieldAddr 40 (Operand.tmp 14) 3, type := 0, pos := "law.go:88", after := #[], guard := none }) (v := ?_) rfl (by kernel_rfl) (by kernel_rfl) (by kernel_rfl) (fun _ _ _ h => h) (Or.inl ⟨by rfl, ?_⟩) (by assumption) ?_
                    rotate_left
                    · (intro u hSu; (try dsimp only at hSu); go_simp) <;> (try with_reducible rfl)
                    try simp only [Act.put, List.setIfInBounds_toArray, List.set_cons_zero, List.set_cons_succ]
                    refine wpAnyH_take (i := 3) (oi := { dst := some 167, op := Op.load 28 (Operand.tmp 166), type := 28, pos := "law.go:88", after := #[{ on := 2, ground := Ground.data }], guard := none }) (v := ?_) rfl (by kernel_rfl) (by kernel_rfl) (by kernel_rfl) (fun _ _ _ h => h) (Or.inl ⟨by rfl, ?_⟩) (by assumption) ?_
                    rotate_left
                    · (intro u hSu; (try dsimp only at hSu); go_simp) <;> (try with_reducible rfl)
                    try simp only [Act.put, List.setIfInBounds_toArray, List.set_cons_zero, List.set_cons_succ]
                    refine wpAnyH_take (i := 4) (oi := { dst := some 168, op := Op.call { callee := Callee.builtin Builtin.len, args := #[Operand.tmp 167], argTypes := #[28] }, type := 3, pos := "law.go:88", after := #[{ on := 3, ground := Ground.data }], guard := none }) (v := ?_) rfl (by kernel_rfl) (by kernel_rfl) (by kernel_rfl) (fun _ _ _ h => h) (Or.inl ⟨by rfl, ?_⟩) (by assumption) ?_
                    rotate_left
                    · (intro u hSu; (try dsimp only at hSu); go_simp) <;> (try with_reducible rfl)
                    try simp only [Act.put, List.setIfInBounds_toArray, List.set_cons_zero, List.set_cons_succ]
                    refine wpAnyH_take (i := 5) (oi := { dst := some 169, op := Op.binOp BinOp.add 3 (Operand.tmp 165) (Operand.tmp 168) 3, type := 3, pos := "law.go:88", after := #[{ on := 1, ground := Ground.data }, { on := 4, ground := Ground.data }], guard := none }) (v := ?_) rfl (by kernel_rfl) (by kernel_rfl) (by kernel_rfl) (fun _ _ _ h => h) (Or.inl ⟨by rfl, ?_⟩) (by assumption) ?_
                    rotate_left
                    · (intro u hSu; (try dsimp only at hSu); go_simp) <;> (try with_reducible rfl)
                    try simp only [Act.put, List.setIfInBounds_toArray, List.set_cons_zero, List.set_cons_succ]
                    refine wpAnyH_take (i := 6) (oi := { dst := some 170, op := Op.binOp BinOp.add 3 (Operand.tmp 169) (Operand.const (Value.int IntKind.i64 1)) 3, type := 3, pos := "law.go:88", after := #[{ on := 5, ground := Ground.data }], guard := none }) (v := ?_) rfl (by kernel_rfl) (by kernel_rfl) (by kernel_rfl) (fun _ _ _ h => h) (Or.inl ⟨by rfl, ?_⟩) (by assumption) ?_
                    rotate_left
                    · (intro u hSu; (try dsimp only at hSu); go_simp) <;> (try with_reducible rfl)
                    try simp only [Act.put, List.setIfInBounds_toArray, List.set_cons_zero, List.set_cons_succ]
                    refine wpAnyH_take (i := 7) (oi := { dst := some 171, op := Op.binOp BinOp.eql 3 (Operand.tmp 164) (Operand.tmp 170) 3, type := 4, pos := "law.go:88", after := #[{ on := 0, ground := Ground.data }, { on := 6, ground := Ground.data }], guard := none }) (v := Value.bool true) rfl (by kernel_rfl) (by kernel_rfl) (by kernel_rfl) (fun _ _ _ h => h) (Or.inl ⟨by rfl, ?_⟩) (by assumption) ?_
                    · (intro u hSu; (try dsimp only at hSu); go_simp) <;> (first | (with_reducible rfl) | exact z3 | (simp; done) | trace_state)
                    try simp only [Act.put, List.setIfInBounds_toArray, List.set_cons_zero, List.set_cons_succ]
                    refine wpAnyH_take (i := 8) (oi := { dst := some 172, op := Op.move (Operand.tmp 171), type := 4, pos := "law.go:88", after := #[{ on := 7, ground := Ground.data }], guard := none }) (v := Value.bool true) rfl (by kernel_rfl) (by kernel_rfl) (by kernel_rfl) (fun _ _ _ h => h) (Or.inl ⟨by rfl, ?_⟩) (by assumption) ?_
                    · (intro u hSu; (try dsimp only at hSu); go_simp) <;> (first | (with_reducible rfl) | exact z3 | (simp; done) | trace_state)
                    try simp only [Act.put, List.setIfInBounds_toArray, List.set_cons_zero, List.set_cons_succ]
                    refine wpAnyH_take (i := 9) (oi := { dst := some 173, op := Op.move (Operand.tmp 18), type := 28, pos := "law.go:88", after := #[{ on := 8, ground := Ground.guard }], guard := some (8, true) }) (v := ?_) rfl (by kernel_rfl) (by kernel_rfl) (by kernel_rfl) (fun _ _ _ h => h) (Or.inl ⟨by rfl, ?_⟩) (by assumption) ?_
                    rotate_left
                    · (intro u hSu; (try dsimp only at hSu); go_simp) <;> (try with_reducible rfl)
                    try simp only [Act.put, List.setIfInBounds_toArray, List.set_cons_zero, List.set_cons_succ]
                    refine wpAnyH_take (i := 10) (oi := { dst := some 174, op := Op.move (Operand.tmp 11), type := 28, pos := "law.go:88", after := #[{ on := 8, ground := Ground.guard }], guard := some (8, true) }) (v := ?_) rfl (by kernel_rfl) (by kernel_rfl) (by kernel_rfl) (fun _ _ _ h => h) (Or.inl ⟨by rfl, ?_⟩) (by assumption) ?_
                    rotate_left
                    · (intro u hSu; (try dsimp only at hSu); go_simp) <;> (try with_reducible rfl)
                    try simp only [Act.put, List.setIfInBounds_toArray, List.set_cons_zero, List.set_cons_succ]
                    refine wpAnyH_take (i := 12) (oi := { dst := some 176, op := Op.fieldAddr 40 (Operand.tmp 14) 3, type := 0, pos := "law.go:88", after := #[{ on := 8, ground := Ground.guard }], guard := some (8, true) }) (v := ?_) rfl (by kernel_rfl) (by kernel_rfl) (by kernel_rfl) (fun _ _ _ h => h) (Or.inl ⟨by rfl, ?_⟩) (by assumption) ?_
                    rotate_left
                    · (intro u hSu; (try dsimp only at hSu); go_simp) <;> (try with_reducible rfl)
                    try simp only [Act.put, List.setIfInBounds_toArray, List.set_cons_zero, List.set_cons_succ]
                    refine wpAnyH_take (i := 13) (oi := { dst := some 177, op := Op.load 28 (Operand.tmp 176), type := 28, pos := "law.go:88", after := #[{ on := 12, ground := Ground.data }, { on := 8, ground := Ground.guard }], guard := some (8, true) }) (v := ?_) rfl (by kernel_rfl) (by kernel_rfl) (by kernel_rfl) (fun _ _ _ h => h) (Or.inl ⟨by rfl, ?_⟩) (by assumption) ?_
                    rotate_left
                    · (intro u hSu; (try dsimp only at hSu); go_simp) <;> (try with_reducible rfl)
                    try simp only [Act.put, List.setIfInBounds_toArray, List.set_cons_zero, List.set_cons_succ]
                    refine wpAnyH_ready (rs := [11]) (by kernel_rfl) (by simp) ?_
                    refine AllReadyH.cons (o := { dst := some 175, op := Op.call { callee := Callee.builtin Builtin.append, args := #[Operand.const (Value.slice none 0 0), Operand.tmp 174], argTypes := #[28, 28] }, type := 28, pos := "law.go:88", after := #[{ on := 10, ground := Ground.data }, { on := 8, ground := Ground.chain }, { on := 8, ground := Ground.guard }], guard := some (8, true) }) rfl (fun K hK => ?_) AllReadyH.nil
                    refine step_append_rowW (by first | rfl | (simp [Region.wanted]; done) | (simp [Region.wanted, yielded]; done)) (.const (.slice none 0 0)) (.tmp 174) 28 rfl w9.drew.heap.size 55 i0 _ 2 16 Tryz.underlying28 HI.out.1 HI.out.2.1 HI.out.2.2.1 HI.out.2.2.2 (by rfl) (by omega) (.slice none 0 0) 0 [] rfl (World.ownsRow_nil _ _ _ _) av T.length cv (flat Chg.cells T) rfl (by rw [flat_len Chg.len]) (row_liesK H9d.out.1.o) (flat_all Chg.one _) (by unfold maxLen; omega) (by omega) (Nat.le_refl _) ?_
                    intro va wa oa ga
                    rw [Nat.zero_add, List.nil_append] at oa
                    have ba : Below w9.drew.heap.size w9.drew wa := (Below.refl _ _).grown ga (Nat.le_refl _) (fun k hk => by cases hk)
                    have HA1 := Lib.hid (And.intro ba oa)
                    clear ga oa ba
                    refine hK.out _ _ ?_ (fun hNew => ?_)
                    · exact (HA1.out.1.cell (p := ⟨wr.heap.size, 3, none⟩) (cell_lt f9d)).trans f9d
                    clear hK K hHeld
                    have hHeld := hNew
                    clear hNew
                    try simp only [Act.put, List.setIfInBounds_toArray, List.set_cons_zero, List.set_cons_succ]
                    refine wpAnyH_ready (rs := [14]) (by kernel_rfl) (by simp) ?_
                    refine AllReadyH.cons (o := { dst := some 178, op := Op.call { callee := Callee.builtin Builtin.append, args := #[Operand.tmp 175, Operand.tmp 177], argTypes := #[28, 28] }, type := 28, pos := "law.go:88", after := #[{ on := 11, ground := Ground.data }, { on := 13, ground := Ground.data }, { on := 11, ground := Ground.chain }, { on := 8, ground := Ground.guard }], guard := some (8, true) }) rfl (fun K hK => ?_) AllReadyH.nil
                    refine step_append_rowW (by first | rfl | (simp [Region.wanted]; done) | (simp [Region.wanted, yielded]; done)) (.tmp 175) (.tmp 177) 28 rfl w9.drew.heap.size 55 i0 _ 2 16 Tryz.underlying28 HI.out.1 HI.out.2.1 HI.out.2.2.1 HI.out.2.2.2 (by rfl) (by omega) va T.length (flat Chg.cells T) rfl HA1.out.2 la l.length lc (flat Chg.cells l) rfl (by rw [flat_len Chg.len]) (HOl.out.below (H9d.out.1.b.trans (HA1.out.1.mono H9d.out.1.b.size))) (flat_all Chg.one _) (by unfold maxLen; omega) (by omega) HA1.out.1.size ?_
                    intro vb wb ob gb
                    have Pb := pl_two HA1.out.1 HA1.out.2 ob gb
                    obtain ⟨ab, cb, rfl⟩ := (H9d.out.1.list Pb.1 Pb.2).form
                    have HB2 := Lib.hid Pb
                    clear ob gb Pb
                    refine hK.out _ _ ?_ (fun hNew => ?_)
                    · exact (HB2.out.1.cell (p := ⟨wr.heap.size, 3, none⟩) (cell_lt f9d)).trans f9d
                    clear hK K hHeld
                    have hHeld := hNew
                    clear hNew
                    try simp only [Act.put, List.setIfInBounds_toArray, List.set_cons_zero, List.set_cons_succ]
                    refine wpAnyH_ready (rs := [15]) (by kernel_rfl) (by simp) ?_
                    refine AllReadyH.cons (o := { dst := some 179, op := Op.call { callee := Callee.value (Operand.func 14), args := #[Operand.tmp 173, Operand.tmp 178], argTypes := #[28, 28] }, type := 4, pos := "law.go:88", after := #[{ on := 9, ground := Ground.data }, { on := 14, ground := Ground.data }, { on := 14, ground := Ground.chain }, { on := 8, ground := Ground.guard }], guard := some (8, true) }) rfl (fun K hK => ?_) AllReadyH.nil
                    clear z3
                    have HC9 := pl_same (c1 := c9) (c2 := cb) (H9d.out.2.below HB2.out.1) (row_liesK HB2.out.2) hRl hRl true ⟨fun _ => rfl, fun _ => rfl⟩
                    rw [List.length_append] at HC9
                    have HC := Lib.hid HC9
                    clear HC9
                    go_simp
                    go_wp2_with (go_at_call 14; refine HC.out.mono ?_; rintro e w10 ⟨rfl, b10⟩; have H10 := Lib.hid (H9d.out.1.next (HB2.out.1.trans (b10.mono HB2.out.1.size))))
                    refine hK.out _ _ ?_ (fun hNew => ?_)
                    · exact ((HB2.out.1.trans (b10.mono HB2.out.1.size)).cell (p := ⟨wr.heap.size, 3, none⟩) (cell_lt f9d)).trans f9d
                    clear hK K hHeld
                    have hHeld := hNew
                    clear hNew
                    try simp only [Act.put, List.setIfInBounds_toArray, List.set_cons_zero, List.set_cons_succ]
                    refine wpAnyH_take (i := 16) (oi := { dst := some 180, op := Op.pick (Operand.tmp 172) (Operand.tmp 179) (Operand.const (Value.bool false)), type := 4, pos := "law.go:88", after := #[{ on := 8, ground := Ground.data }, { on := 15, ground := Ground.data }], guard := none }) (v := ?_) rfl (by kernel_rfl) (by kernel_rfl) (by kernel_rfl) (fun _ _ _ h => h) (Or.inl ⟨by rfl, ?_⟩) (by assumption) ?_
                    rotate_left
                    · (intro u hSu; (try dsimp only at hSu); go_simp) <;> (try with_reducible rfl)
                    try simp only [Act.put, List.setIfInBounds_toArray, List.set_cons_zero, List.set_cons_succ]
                    refine wpAnyH_done (by kernel_rfl) ?_ _
                    all_goals
                      go_wp2_with (first
                        | (go_at_call 6
                           refine (pl_new (nx' := nx + l.length + 1) H10.out (cast3 nx l.length) HL6.out (by omega) (by omega) HF.out.2.2).mono ?_
                           rintro e w11 ⟨q11, rfl, A11, _⟩
                           have H11 := Lib.hid A11
                           clear A11)
                        | (go_at_call 15
                           refine (pl_cut H11.out (ep + 1) (by omega) (by omega)).mono ?_
                           rintro e w12 ⟨rfl, A12, _⟩
                           have H12 := Lib.hid A12.none
                           clear A12)
                        | (go_at_call 19; refine (pl_head H12.out (cast3 nx l.length)).mono ?_; rintro e w90 ⟨rfl, rfl⟩)
                        | (go_at_call 20; refine (pl_next H12.out (cast3 nx l.length)).mono ?_; rintro e w91 ⟨rfl, rfl⟩)
                        | (go_at_call 21; refine (pl_room H12.out HL7.out (Nat.le_refl _) (by omega) (cast3 nx l.length) (cast3 nx l.length)).mono ?_; rintro e w92 ⟨rfl, b92⟩; have HZ := Lib.hid (H12.out.next b92); clear b92))
                      exact ⟨⟨j + 1, nx + l.length + 1, nx + l.length + 1, q11, K + l.length + 2, ep + 1, [], L, M, _, by omega, by rw [cast3], rfl, rfl, by rw [cast3], by go_num, Lib.hid ⟨HZ.out.nil, HF.out.1 (nx + l.length + 1) (ep + 1) (by omega), HF.out.2.1⟩, Lib.hid (show PB n (j + 1) (nx + l.length + 1) (nx + l.length + 1) (ep + 1) (K + l.length + 2) [] L from ⟨by omega, by omega, by omega, by have := HB.out.k; omega, by simp, HB.out.next.l⟩)⟩, by simp [intOf]; omega⟩
          · have k1b : (ok == 1) = false := by simpa using k1
            by_cases k2 : ok = 2
            · subst k2
              by_cases he : 0 < oe
              · by_cases hm : ep < oe
                · by_cases hm2 : oe < 1000000000
                  · as_aux_lemma =>
                      have hcu := HD.out.1.cut (show ep < oe by omega)
                      have HD4 := Lib.hid (And.intro hcu HD.out.2.1)
                      have HL4 := Lib.hid (show PLim n nx nx (oe) K from ⟨n1, n30, by omega, by omega, by omega, by omega, by have := HB.out.k; omega⟩)
                      clear hcu
                      go_wp2_with (first
                        | (go_at_call 15
                           refine (pl_cut H0.out (oe) (by omega) (by omega)).mono ?_
                           rintro e w4 ⟨rfl, A4, _⟩
                           have H4 := Lib.hid A4.none
                           clear A4)
                        | (go_at_call 19; refine (pl_head H4.out rfl).mono ?_; rintro e w90 ⟨rfl, rfl⟩)
                        | (go_at_call 20; refine (pl_next H4.out rfl).mono ?_; rintro e w91 ⟨rfl, rfl⟩)
                        | (go_at_call 21; refine (pl_room H4.out HL4.out (Nat.le_refl _) (by omega) rfl rfl).mono ?_; rintro e w92 ⟨rfl, b92⟩; have HZ := Lib.hid (H4.out.next b92); clear b92))
                      exact ⟨⟨j + 1, nx, nx, q, K, oe, [], L, M, D, by omega, rfl, rfl, rfl, by go_num, by go_num, Lib.hid ⟨HZ.out.nil, HD4.out.1, HD4.out.2⟩, Lib.hid (show PB n (j + 1) nx nx (oe) K [] L from ⟨by omega, by omega, HB.out.next.x, HB.out.next.k, by simp, HB.out.next.l⟩)⟩, by simp [intOf]; omega⟩
                  · as_aux_lemma =>
                      go_wp2_with (first
                        | (go_at_call 15
                           refine (pl_cut_no H0.out (oe) (by omega)).mono ?_
                           rintro e w4 ⟨rfl, rfl⟩)
                        | (go_at_call 19; refine (pl_head H0.out rfl).mono ?_; rintro e w90 ⟨rfl, rfl⟩)
                        | (go_at_call 20; refine (pl_next H0.out rfl).mono ?_; rintro e w91 ⟨rfl, rfl⟩)
                        | (go_at_call 21; refine (pl_room H0.out HLM.out hord hcap rfl rfl).mono ?_; rintro e w92 ⟨rfl, b92⟩; have HZ := Lib.hid (H0.out.next b92); clear b92))
                      exact ⟨⟨j + 1, hd, nx, q, K, ep, T, L, M, D, by omega, rfl, rfl, rfl, by go_num, by go_num, Lib.hid ⟨HZ.out.nil, HD.out.1, HD.out.2.1⟩, Lib.hid HB.out.next⟩, by simp [intOf]; omega⟩
                · as_aux_lemma =>
                    go_wp2_with (first
                      | (go_at_call 15
                         refine (pl_cut_no H0.out (oe) (by omega)).mono ?_
                         rintro e w4 ⟨rfl, rfl⟩)
                      | (go_at_call 19; refine (pl_head H0.out rfl).mono ?_; rintro e w90 ⟨rfl, rfl⟩)
                      | (go_at_call 20; refine (pl_next H0.out rfl).mono ?_; rintro e w91 ⟨rfl, rfl⟩)
                      | (go_at_call 21; refine (pl_room H0.out HLM.out hord hcap rfl rfl).mono ?_; rintro e w92 ⟨rfl, b92⟩; have HZ := Lib.hid (H0.out.next b92); clear b92))
                    exact ⟨⟨j + 1, hd, nx, q, K, ep, T, L, M, D, by omega, rfl, rfl, rfl, by go_num, by go_num, Lib.hid ⟨HZ.out.nil, HD.out.1, HD.out.2.1⟩, Lib.hid HB.out.next⟩, by simp [intOf]; omega⟩
              · by_cases hm2 : ep + 1 < 1000000000
                · as_aux_lemma =>
                    have hcu := HD.out.1.cut (show ep < ep + 1 by omega)
                    have HD4 := Lib.hid (And.intro hcu HD.out.2.1)
                    have HL4 := Lib.hid (show PLim n nx nx (ep + 1) K from ⟨n1, n30, by omega, by omega, by omega, by omega, by have := HB.out.k; omega⟩)
                    clear hcu
                    go_wp2_with (first
                      | (go_at_call 15
                         refine (pl_cut H0.out (ep + 1) (by omega) (by omega)).mono ?_
                         rintro e w4 ⟨rfl, A4, _⟩
                         have H4 := Lib.hid A4.none
                         clear A4)
                      | (go_at_call 19; refine (pl_head H4.out rfl).mono ?_; rintro e w90 ⟨rfl, rfl⟩)
                      | (go_at_call 20; refine (pl_next H4.out rfl).mono ?_; rintro e w91 ⟨rfl, rfl⟩)
                      | (go_at_call 21; refine (pl_room H4.out HL4.out (Nat.le_refl _) (by omega) rfl rfl).mono ?_; rintro e w92 ⟨rfl, b92⟩; have HZ := Lib.hid (H4.out.next b92); clear b92))
                    exact ⟨⟨j + 1, nx, nx, q, K, ep + 1, [], L, M, D, by omega, rfl, rfl, rfl, by go_num, by go_num, Lib.hid ⟨HZ.out.nil, HD4.out.1, HD4.out.2⟩, Lib.hid (show PB n (j + 1) nx nx (ep + 1) K [] L from ⟨by omega, by omega, HB.out.next.x, HB.out.next.k, by simp, HB.out.next.l⟩)⟩, by simp [intOf]; omega⟩
                · as_aux_lemma =>
                    go_wp2_with (first
                      | (go_at_call 15
                         refine (pl_cut_no H0.out (ep + 1) (by omega)).mono ?_
                         rintro e w4 ⟨rfl, rfl⟩)
                      | (go_at_call 19; refine (pl_head H0.out rfl).mono ?_; rintro e w90 ⟨rfl, rfl⟩)
                      | (go_at_call 20; refine (pl_next H0.out rfl).mono ?_; rintro e w91 ⟨rfl, rfl⟩)
                      | (go_at_call 21; refine (pl_room H0.out HLM.out hord hcap rfl rfl).mono ?_; rintro e w92 ⟨rfl, b92⟩; have HZ := Lib.hid (H0.out.next b92); clear b92))
                    exact ⟨⟨j + 1, hd, nx, q, K, ep, T, L, M, D, by omega, rfl, rfl, rfl, by go_num, by go_num, Lib.hid ⟨HZ.out.nil, HD.out.1, HD.out.2.1⟩, Lib.hid HB.out.next⟩, by simp [intOf]; omega⟩
            · have k2b : (ok == 2) = false := by simpa using k2
              by_cases k3 : ok = 3
              · subst k3
                by_cases hbe : 999999990 ≤ ep
                · as_aux_lemma =>
                    go_wp2
                    go_ret
                    exact ⟨rfl, H0.out.b⟩
                · as_aux_lemma =>
                    have hcs := crash_still HD.out.2.1 kl
                    have hI5 := HD.out.1.of (D' := { D.crash kl with on := true }) rfl hcs.1
                    have HD5 := Lib.hid (And.intro hI5 hcs.2)
                    have hl5 : 3 + n ≤ ({ D.crash kl with on := true } : Dsk).lasts.length := by rw [hcs.2.same]; exact hI5.len
                    have hTl : T.length ≤ 1000 := by have := HB.out.t; omega
                    have hLl : L.length ≤ 100 := by have := HB.out.l; omega
                    have hnx : ((hd + (nx - hd) : Nat) : Int) = (nx : Int) := by omega
                    have hs5 := hI5.scan
                    have HS5 := Lib.hid (And.intro hs5 hl5)
                    clear hcs hI5 hs5 hl5
                    go_wp2_with (first
                      | (go_at_call 16
                         refine (pl_crash (K := K) ⟨H0.out, HD.out.1, HD.out.2.1⟩ ka kl kc (low_of HOk.out rfl H0.out.b) (by omega)).mono ?_
                         rintro e w4 ⟨v4, rfl, A4, _⟩
                         have H4 := Lib.hid A4
                         clear A4)
                      | (go_at_call 12
                         refine (pl_power H4.out).mono ?_
                         rintro e w5 ⟨v5, rfl, A5, _⟩
                         have H5 := Lib.hid A5
                         clear A5)
                      | (go_at_call 13
                         refine (pl_scan (K := K) H5.out rfl HLM.out HS5.out.2 T (nx - hd) (by omega) hnx HS5.out.1).mono ?_
                         rintro e w6 ⟨a6, c6, rfl, b6, o6⟩
                         have H6 := Lib.hid (And.intro (H5.out.next b6) (And.intro b6 o6))
                         clear b6 o6)
                      | (go_at_call 17
                         refine (pl_keep H6.out.1 H6.out.2.1 H5.out a6 T c6 H6.out.2.2 hTl hLl).mono ?_
                         rintro e w7 ⟨rfl, _, l7, y7, A7⟩
                         have H7 := Lib.hid (And.intro A7 l7)
                         clear A7 l7)
                      | (go_at_call 14
                         refine (pl_same H7.out.2 (row_liesK H7.out.1.o) hTl hTl true ⟨fun _ => rfl, fun _ => rfl⟩).mono ?_
                         rintro e w8 ⟨rfl, b8⟩
                         have H8 := Lib.hid (H7.out.1.next b8)
                         clear b8)
                      | (go_at_call 6
                         refine (pl_new (K := K) H8.out rfl HLM.out hord hcap HS5.out.2).mono ?_
                         rintro e w9 ⟨q9, rfl, A9, _⟩
                         have H9 := Lib.hid A9
                         clear A9)
                      | (go_at_call 19; refine (pl_head H9.out rfl).mono ?_; rintro e w90 ⟨rfl, rfl⟩)
                      | (go_at_call 20; refine (pl_next H9.out rfl).mono ?_; rintro e w91 ⟨rfl, rfl⟩)
                      | (go_at_call 21; refine (pl_room H9.out HLM.out hord hcap rfl rfl).mono ?_; rintro e w92 ⟨rfl, b92⟩; have HZ := Lib.hid (H9.out.next b92); clear b92))
                    exact ⟨⟨j + 1, hd, nx, q9, K, ep, T, L ++ [⟨a6, T, c6⟩], M ++ [y7], _, by omega, rfl, rfl, rfl, by go_num, by go_num, Lib.hid ⟨HZ.out.nil, HD5.out.1, HD5.out.2⟩, Lib.hid (show PB n (j + 1) hd nx ep K T (L ++ [⟨a6, T, c6⟩]) from (fun h => ⟨h.e0, h.e1, h.x, h.k, h.t, by have := HB.out.l; simp; omega⟩) (HB.out.next))⟩, by simp [intOf]; omega⟩
              · have k3b : (ok == 3) = false := by simpa using k3
                by_cases k4 : ok = 4
                · subst k4
                  as_aux_lemma =>
                    go_wp2_with (first
                      | (go_at_call 18
                         refine (pl_arm (K := K) ⟨H0.out, HD.out.1, HD.out.2.1⟩ on n63 ka kl kc (low_of HOk.out rfl H0.out.b) (by omega)).mono ?_
                         rintro e w4 ⟨rfl, A4, _⟩
                         have H4 := Lib.hid A4.m
                         have HD4 := Lib.hid (And.intro A4.i A4.s)
                         clear A4)
                      | (go_at_call 19; refine (pl_head H4.out rfl).mono ?_; rintro e w90 ⟨rfl, rfl⟩)
                      | (go_at_call 20; refine (pl_next H4.out rfl).mono ?_; rintro e w91 ⟨rfl, rfl⟩)
                      | (go_at_call 21; refine (pl_room H4.out HLM.out hord hcap rfl rfl).mono ?_; rintro e w92 ⟨rfl, b92⟩; have HZ := Lib.hid (H4.out.next b92); clear b92))
                    exact ⟨⟨j + 1, hd, nx, q, K, ep, T, L, M, _, by omega, rfl, rfl, rfl, by go_num, by go_num, Lib.hid ⟨HZ.out.nil, HD4.out.1, HD4.out.2⟩, Lib.hid HB.out.next⟩, by simp [intOf]; omega⟩
                · have k4b : (ok == 4) = false := by simpa using k4
                  as_aux_lemma =>
                    go_wp2_with (first
                      | (go_at_call 19; refine (pl_head H0.out rfl).mono ?_; rintro e w90 ⟨rfl, rfl⟩)
                      | (go_at_call 20; refine (pl_next H0.out rfl).mono ?_; rintro e w91 ⟨rfl, rfl⟩)
                      | (go_at_call 21; refine (pl_room H0.out HLM.out hord hcap rfl rfl).mono ?_; rintro e w92 ⟨rfl, b92⟩; have HZ := Lib.hid (H0.out.next b92); clear b92))
                    exact ⟨⟨j + 1, hd, nx, q, K, ep, T, L, M, D, by omega, rfl, rfl, rfl, rfl, by go_num, Lib.hid ⟨HZ.out.nil, HD.out.1, HD.out.2.1⟩, Lib.hid HB.out.next⟩, by simp [intOf]; omega⟩
      · obtain rfl : j = OPS.length := by omega
        have hn1 : ¬ (OPS.length : Int) < (OPS.length : Int) := by omega
        as_aux_lemma =>
          have hLl : L.length ≤ 100 := by have := HB.out.l; omega
          go_wp2_with (first
            | (go_at_call 8; refine (append_nil _ _).mono ?_; rintro e w4 ⟨rfl, rfl⟩)
            | (go_at_call 15; refine (cut_nil _ _).mono ?_; rintro e w5 ⟨rfl, rfl⟩)
            | (go_at_call 21; refine (nil_Room _).mono ?_; rintro e w6 ⟨rfl, rfl⟩)
            | (go_at_call 19; refine (nil_Head _).mono ?_; rintro e w7 ⟨rfl, rfl⟩)
            | (go_at_call 20; refine (nil_Next _).mono ?_; rintro e w8 ⟨rfl, rfl⟩)
            | (go_at_call 22
               refine (apartC_is W _ W.heap.size pb L M HP.out.m.k hLl).mono ?_
               rintro e w9 ⟨rfl, b9⟩))
          go_ret
          exact ⟨rfl, b9⟩
end Go.Proofs.YtbcdmcafobjpcaaGreatDoor

