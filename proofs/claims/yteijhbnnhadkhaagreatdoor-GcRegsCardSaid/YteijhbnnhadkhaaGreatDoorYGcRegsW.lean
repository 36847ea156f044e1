/- GcRegs: the walk. -/
import Derived.Test.YteijhbnnhadkhaaGreatDoorYGcG
set_option linter.unusedVariables false
set_option linter.unusedSimpArgs false
namespace Go.Proofs.YteijhbnnhadkhaaGreatDoor
open Go.RowKit Sec
open Go.Proofs.YteijhbnnhadkhaaGreatDoor.Bk

section
variable {W u u' : World} {h l : Int} {B s H L : Nat} {V V' : List Int} {v : Value} {T : List Int}
/-- Some numbers more. -/
theorem LwA.pushL (x : LwA W h l B s H L V v T u) {u1 : World} (y : Below u.heap.size u u1) {g c n : Nat} {Z : List Int} (hn : n = T.length + Z.length)
    (ho : u'.ownsRow B 3 1 (.slice (some ⟨g, 0, none⟩) n c) n (vals T ++ vals Z)) (hg : u1.grownBy u' v.ownBlock) (hat : v.ownBlock = some g ∨ g = u1.heap.size) (hlt : g < u'.heap.size) : LwA W h l B s H L V (.slice (some ⟨g, 0, none⟩) n c) (T ++ Z) u' := by
  obtain ⟨⟨G, x1, x2, x3⟩, o⟩ := x
  subst hn
  have hB := x1.s.le
  have b1 : Below B u u' := (y.mono hB).grown hg (Nat.le_trans hB y.size) (fun k q => (o.lt k q).1)
  have hne : v.ownBlock ≠ some W.heap.size := fun e => by
    have := (o.lt _ e).1
    have := x1.lt
    omega
  have hW : W.heap.size < u.heap.size := x1.g.lt
  have same : ∀ k, k < u.heap.size → v.ownBlock ≠ some k → u'.heap[k]? = u.heap[k]? := fun k q r =>
    (hg.block k (Nat.lt_of_lt_of_le q y.size) (fun e => r e.symm)).trans (y.block k q)
  refine ⟨⟨_, x1.turn b1 (fun k q r => same k q (fun e => r (x2 k e))) (same _ hW hne), fun g' e => ?_, fun k q => ?_⟩, ?_⟩
  · obtain rfl : g = g' := by simpa [Value.ownBlock] using e
    rcases hat with q | q
    · exact .inl (x2 g q)
    · exact .inr ⟨by rw [q]; exact y.size, hlt⟩
  · rcases q with q | q
    · exact Nat.lt_of_lt_of_le (x3 k q) b1.size
    · exact q.2
  · rw [List.length_append]
    simpa [vals] using ho
/-- The list as registers. -/
theorem LwA.lent (x : LwA W h l B s H L V v T u) (hT : T.length ≤ 1000) {g n c : Nat} (hv : v = .slice (some ⟨g, 0, none⟩) n c) : ∃ G, LwS W h l B G s H L V u ∧ Lent B G u (some ⟨g, 0, none⟩) T := by
  obtain ⟨⟨G, x1, x2, x3⟩, o⟩ := x
  subst hv
  obtain ⟨a, k, e, hl, _⟩ := own_formK o
  cases e
  exact ⟨G, x1, hl, fun a e => by obtain rfl := Option.some.inj e; exact .inr (x2 g rfl), hT⟩
/-- What is there behind the collection: what the registers name, the store. -/
structure RgL (W : World) (B s H L : Nat) (V : List Int) (g : Nat) (R : List Int) (u : World) : Prop where
  x : ∃ G, LwS W (H : Int) (L : Int) B G s H L V u
  l : LiesAt u (some ⟨g, 0, none⟩) (vals R)
  lt : g < u.heap.size
theorem RgL.below {g : Nat} {R : List Int} (x : RgL W B s H L V g R u) (y : Below u.heap.size u u') : RgL W B s H L V g R u' := by
  obtain ⟨⟨G, x1⟩, x2, x3⟩ := x
  exact ⟨⟨G, x1.below y⟩, x2.below y, Nat.lt_of_lt_of_le x3 y.size⟩
theorem RgL.st {g : Nat} {R : List Int} (x : RgL W B s H L V g R u) : ∃ G, St B G u s H L V := x.x.elim fun G y => ⟨G, y.s⟩
theorem RgL.b {g : Nat} {R : List Int} (x : RgL W B s H L V g R u) : Below W.heap.size W u := x.x.elim fun G y => y.b
theorem RgL.at_ {g : Nat} {R : List Int} (x : RgL W B s H L V g R u) {k : Nat} (hk : k < R.length) : u.cell? ⟨g, k, none⟩ = some (.int .i64 (R.getD k 0)) := by
  obtain ⟨g1, o1, e, _, d⟩ := gl_lies x.l hk
  cases e
  rwa [Nat.zero_add] at d
end
section
variable {W : World}
set_option maxRecDepth 100000 in
set_option maxHeartbeats 4000000 in
theorem Regs_no (ht : TyOk W.heap.size W) (h l n wo : Int) (no : ¬ (geOk h l = true ∧ 1 ≤ n ∧ n ≤ 8 ∧ 1 ≤ wo ∧ wo ≤ 10 ∧ n * (wo + 1) ≤ h)) : Calls Tryz.prog 7 #[.agg #[.int .i64 h, .int .i64 l], .int .i64 n, .int .i64 wo] W fun e w' => e = .returned (.bool true) ∧ Below W.heap.size W w' := by
  have HT := Lib.hid ht
  have HR := Lib.hid (fun u => rgeo_is h l u)
  have cases : geOk h l = false ∨ (geOk h l = true ∧ (n < 1 ∨ (1 ≤ n ∧ (8 < n ∨ (n ≤ 8 ∧ (wo < 1 ∨ (1 ≤ wo ∧ (10 < wo ∨ (wo ≤ 10 ∧ h < n * (wo + 1)))))))))) := by
    cases q : geOk h l
    · exact .inl rfl
    · have no2 : ¬ (1 ≤ n ∧ n ≤ 8 ∧ 1 ≤ wo ∧ wo ≤ 10 ∧ n * (wo + 1) ≤ h) := fun x => no ⟨q, x⟩
      exact .inr ⟨rfl, by omega⟩
  clear no ht
  generalize geOk h l = ok at *
  rcases cases with rfl | ⟨rfl, c⟩
  rotate_left
  rcases c with c | ⟨c1, c⟩
  rotate_left
  rcases c with c | ⟨c2, c⟩
  rotate_left
  rcases c with c | ⟨c3, c⟩
  rotate_left
  rcases c with c | ⟨c4, c⟩
  rotate_left
  have hmul : 0 ≤ n * (wo + 1) ∧ n * (wo + 1) ≤ 88 := ⟨Int.mul_nonneg (by omega) (by omega), Int.mul_le_mul c2 (show wo + 1 ≤ 11 by omega) (by omega) (by decide)⟩
  obtain ⟨hm1, hm2⟩ := hmul
  all_goals
    go_enter Tryz.func7, Tryz.ntmps7
    go_wp2_with (first
      | (go_at_call 11; refine (HR.out _).mono ?_; rintro e' w1 ⟨rfl, b1⟩; have H1 := Lib.hid (GBox.laid b1); obtain ⟨_, c0', c1'⟩ := H1.out.1; clear b1)
      | (go_at_call 12; refine (gcalive_is ((HT.out.below H1.out.2).more H1.out.2.size)).mono ?_; rintro e' w2 ⟨rfl, b2⟩; have H2 := Lib.hid (geo_next H1.out.2 b2); clear b2))
    go_ret
    exact ⟨rfl, H2.out⟩
set_option maxRecDepth 100000 in
set_option maxHeartbeats 8000000 in
theorem Regs_yes (ht : TyOk W.heap.size W) (H L n z : Nat) (wo : Int) (hg : geOk H L = true) (hn1 : 1 ≤ n) (hn8 : n ≤ 8) (hw1 : 1 ≤ wo) (hw10 : wo ≤ 10) (hz : 1 + wo = (z : Int)) (room : n * z ≤ H) : Calls Tryz.prog 7 #[.agg #[.int .i64 (H : Int), .int .i64 (L : Int)], .int .i64 (n : Int), .int .i64 wo] W fun e w' => e = .returned (.bool true) ∧ Below W.heap.size W w' := by
  obtain ⟨i0, hi, hz0, hz1, hz2⟩ := info_parts (show (Tryz.prog.info? 3).map (fun i => (i.zero, i.size, i.bytes)) = some (some (.int .i64 0), 1, 8) by kernel_rfl)
  have HI := Lib.hid (And.intro hi (And.intro hz0 (And.intro hz1 hz2)))
  clear hi hz0 hz1 hz2
  have hge := geOk_yes hg
  have HT := Lib.hid ht
  have HR := Lib.hid (fun u => rgeo_is H L u)
  rw [hg] at HR
  have HBg : Hid (∀ u, TyOk u.heap.size u → Calls Tryz.prog 48 #[.agg #[.int .i64 (H : Int), .int .i64 (L : Int)]] u fun r w' => ∃ s p, r = .returned (.tuple #[.pointer (some ⟨p, 0, none⟩), .pointer (some ⟨s, 0, none⟩)]) ∧ St u.heap.size (fun b => b < u.heap.size) w' s H L (freshC H) ∧ Below u.heap.size u w') := Lib.hid (fun u x => Begin_st x H L (by omega))
  have sh : shOk 0 wo = true := decide_eq_true (by omega)
  have HF0 : Hid (∃ T, Rgs H L z wo 0 (freshC H) T) := Lib.hid ⟨_, Rgs.start hg z wo⟩
  have HSt : Hid (∀ k V, (∃ T, Rgs H L z wo k V T) → k < n → ∃ V1 V2, (∃ T, Rgs H L z wo (k + 1) V2 T) ∧ (∀ B G u s, St B G u s H L V → Calls Tryz.prog 25 #[.pointer (some ⟨s, 0, none⟩), .int .i64 0, .int .i64 wo] u fun r w' => r = .returned (.tuple #[.int .i64 ((16 + k * z : Nat) : Int), .int .i64 0]) ∧ St B G w' s H L V1 ∧ Below B u w' ∧ KeptG G u w') ∧
      (∀ B G u s, St B G u s H L V1 → Calls Tryz.prog 46 #[.pointer (some ⟨s, 0, none⟩), .int .i64 ((16 + k * z : Nat) : Int), .int .i64 0, .int .i64 ((k : Int) + 7)] u fun r w' => r = .returned (.int .i64 0) ∧ St B G w' s H L V2 ∧ Below B u w' ∧ KeptG G u w')) := Lib.hid (fun k V ⟨T, f⟩ hk => by
    obtain ⟨q1, q2, q3, q4⟩ := f.step hz sh hw1 (Nat.le_trans (Nat.mul_le_mul_right z hk) room) (by omega)
    refine ⟨newW H L V 0 wo, _, ⟨_, q4⟩, fun B G u s x => ?_, fun B G u s x => ?_⟩
    · have := anew_st x 0 wo
      rwa [q1, q2] at this
    · have := fSetWord_is x ((16 + k * z : Nat) : Int) 0 ((k : Int) + 7)
      rwa [q3] at this)
  have HAl : Hid (∀ V, (∃ T, Rgs H L z wo n V T) → ∃ V2, (∀ B G u s q c, St B G u s H L V → Lent B G u q (regL z n) → (q = none → c = 0) → Calls Tryz.prog 21 #[.pointer (some ⟨s, 0, none⟩), .slice q (n + 2) c] u fun e w' => ∃ r, e = .returned (.tuple #[r, .int .i64 0]) ∧ St B G w' s H L V2 ∧ Below B u w' ∧ KeptG G u w' ∧ w'.ownsRow u.heap.size 3 1 r (n + 2) (vals (regN H z n))) ∧
      (∀ B G u s, St B G u s H L V2 → (Calls Tryz.prog 39 #[.pointer (some ⟨s, 0, none⟩)] u fun e w' => e = .returned (.int .i64 ((n : Int) * (z : Int))) ∧ Below u.heap.size u w') ∧
        ∀ j, j < n → Calls Tryz.prog 49 #[.pointer (some ⟨s, 0, none⟩), .int .i64 ((regN H z n).getD j 0), .int .i64 0] u fun e w' => e = .returned (.tuple #[.int .i64 ((j : Int) + 7), .int .i64 0]) ∧ Below u.heap.size u w')) := Lib.hid (fun V ⟨T, f⟩ => by
    obtain ⟨V2, T2, q1, q2, q3, q4, q5⟩ := f.all hz sh hw1 room hn1 hn8
    refine ⟨V2, fun B G u s q c x y hq => ?_, fun B G u s x => ⟨?_, fun j hj => ?_⟩⟩
    · have := gAll_off x q (regL z n) c y hq (by rw [f.o.f.off]; decide)
      rw [q1, regL_len] at this
      refine this.mono fun e w' ⟨r, h1, h2, h3, h4, h5⟩ => ⟨r, h1, h2.mono (fun _ g => .inl g), h3, h4, ?_⟩
      have h5 : w'.ownsRow u.heap.size 3 1 r (regN H z n).length (vals (regN H z n)) := h5
      rwa [regN_len] at h5
    · have := spused_st x
      rwa [q2.gi.ok, if_pos rfl, q3, q4, show ((16 + H + n * z : Nat) : Int) - (16 + 1 * (H : Int)) = (n : Int) * (z : Int) by rw [Int.natCast_add, Int.natCast_add, Int.natCast_mul]; omega] at this
    · obtain ⟨e1, e2⟩ := q5 j hj
      have := fWord_is x ((regN H z n).getD j 0) 0
      rw [regN_at hj] at this ⊢
      rwa [e1, e2] at this)
  have hN : Hid (wo + 1 = (z : Int)) := Lib.hid (by omega)
  have HM := Lib.hid (GBox.made W (H : Int) (L : Int) 23)
  have HRl : Hid (∀ k, ((List.range k).map (fun j => ((16 + j * z : Nat) : Int))).length = k) := Lib.hid (fun k => by simp)
  have HRs : Hid (∀ k, (List.range (k + 1)).map (fun j => ((16 + j * z : Nat) : Int)) = (List.range k).map (fun j => ((16 + j * z : Nat) : Int)) ++ [((16 + k * z : Nat) : Int)]) := Lib.hid (fun k => by rw [List.range_succ, List.map_append]; rfl)
  have HR0 : Hid (vals ((List.range n).map (fun j => ((16 + j * z : Nat) : Int))) = .int .i64 16 :: (vals ((List.range n).map (fun j => ((16 + j * z : Nat) : Int)))).tail) := Lib.hid (by
    obtain ⟨m, rfl⟩ : ∃ m, n = m + 1 := ⟨n - 1, by omega⟩
    rw [List.range_succ_eq_map, List.map_cons, Nat.zero_mul]
    rfl)
  have HLa := Lib.hid (And.intro (regN_last (H := H) (z := z) (n := n)) (And.intro (regN_at (H := H) (z := z) (n := n) (j := 0) (by omega)) (regN_len (H := H) (z := z) (n := n))))
  have hHi : (H : Int) ≤ 400 := by omega
  have hz11 : (z : Int) ≤ 11 := by omega
  have hni : (n : Int) ≤ 8 := by omega
  have hni1 : (1 : Int) ≤ (n : Int) := by omega
  have hnz : (n : Int) * (z : Int) ≤ 400 := by
    have : ((n * z : Nat) : Int) ≤ 400 := by omega
    rwa [Int.natCast_mul] at this
  have hnz0 : 0 ≤ (n : Int) * (z : Int) := Int.mul_nonneg (by omega) (by omega)
  have hnzH : ¬ ((H : Int) < (n : Int) * (z : Int)) := by
    rw [← Int.natCast_mul]
    omega
  clear sh ht hg hge hz room
  have hsx : wo + 1 = (z : Int) := hN.out
  go_enter Tryz.func7, Tryz.ntmps7
  go_wp2_with (first
    | (go_at_call 11; refine (HR.out _).mono ?_; rintro e' w1 ⟨rfl, b1⟩; have H1 := Lib.hid (GBox.laid b1); obtain ⟨_, c0, c1⟩ := H1.out.1; clear b1)
    | (go_at_call 12; refine (gcalive_is ((HT.out.below H1.out.2).more H1.out.2.size)).mono ?_; rintro e' w2 ⟨rfl, b2⟩; replace H1 := Lib.hid (And.intro (H1.out.1.below b2) (geo_next H1.out.2 b2)); clear b2 c0 c1; obtain ⟨_, c0, c1⟩ := H1.out.1)
    | (go_at_call 48; refine (HBg.out _ ((HT.out.below H1.out.2).more H1.out.2.size)).mono ?_; rintro e' w3 ⟨s, p, rfl, h3, b3⟩; have HS := Lib.hid (LwA.start (LwS.start H1.out.1 H1.out.2 h3 b3)); clear h3 b3 c0 c1))
  clear H1 HR HBg HT HM
  generalize w2.heap.size = B at *
  go_loopw [9, 10] (fun v i wr => ∃ (k : Nat) (V : List Int), k ≤ n ∧ i = .int .i64 (k : Int) ∧ Hid (∃ T, Rgs H L z wo k V T) ∧ Hid (LwA W H L B s H L V v ((List.range k).map (fun j => ((16 + j * z : Nat) : Int))) wr)) (fun _ i _ => n - (intOf i).toNat)
  case atStart => exact ⟨0, freshC H, Nat.zero_le _, rfl, HF0, HS⟩
  case round =>
    clear HS HF0
    obtain ⟨k, V, hk, rfl, HF, HS⟩ := hrel
    have hki : (k : Int) ≤ 8 := by omega
    by_cases hlt : k < n
    · have hi1 : (k : Int) < (n : Int) := by omega
      obtain ⟨V1, V2, F2, N2, S2⟩ := HSt.out k V HF.out hlt
      have HF2 := Lib.hid F2
      have HNw : Hid (∀ u, LwA W H L B s H L V u9 ((List.range k).map (fun j => ((16 + j * z : Nat) : Int))) u → Calls Tryz.prog 25 #[.pointer (some ⟨s, 0, none⟩), .int .i64 0, .int .i64 wo] u fun r w' => r = .returned (.tuple #[.int .i64 ((16 + k * z : Nat) : Int), .int .i64 0]) ∧ LwA W H L B s H L V1 u9 ((List.range k).map (fun j => ((16 + j * z : Nat) : Int))) w') := Lib.hid (fun u x => x.new (fun G y => N2 B G u s y))
      have HSw : Hid (∀ u, LwA W H L B s H L V1 u9 ((List.range k).map (fun j => ((16 + j * z : Nat) : Int))) u → Calls Tryz.prog 46 #[.pointer (some ⟨s, 0, none⟩), .int .i64 ((16 + k * z : Nat) : Int), .int .i64 0, .int .i64 ((k : Int) + 7)] u fun r w' => r = .returned (.int .i64 0) ∧ LwA W H L B s H L V2 u9 ((List.range k).map (fun j => ((16 + j * z : Nat) : Int))) w') := Lib.hid (fun u x => x.new (fun G y => S2 B G u s y))
      have HL2 := Lib.hid (HRs.out k)
      have HLn := Lib.hid (HRl.out k)
      clear F2 N2 S2 HSt HAl HRs HRl
      generalize (List.range k).map (fun j => ((16 + j * z : Nat) : Int)) = T1 at *
      generalize ((16 + k * z : Nat) : Int) = at_ at *
      have hA1 : k + 1 ≤ maxLen := by unfold maxLen; omega
      have hA2 : (k + 1) * 8 ≤ 140737488355328 := by omega
      go_wp2_with (first
        | (go_at_call 25; refine (HNw.out _ HS.out).mono ?_; rintro e' w4 ⟨rfl, h4⟩; have H4 := Lib.hid h4; clear h4)
        | (go_at_call 46; refine (HSw.out _ H4.out).mono ?_; rintro e' w5 ⟨rfl, h5⟩; have H5 := Lib.hid h5; have hBs : B ≤ w5.heap.size := h5.st.elim fun _ y => y.le; clear h5)
        | (refine wpList_append_lies _ rfl (.tmp 79) (.tmp 81) 25 rfl B 3 i0 _ 1 8 Tryz.underlying25 HI.out.1 HI.out.2.1 HI.out.2.2.1 HI.out.2.2.2 rfl (by omega) u9 T1.length (vals T1) rfl (H5.out.o.alloc _) _ 1 1 [.int .i64 at_] rfl rfl (by exact World.news_of_block (heap_alloc_last _ _)) (by intro u hu; simp at hu; rw [hu]; rfl) (by decide) (by rw [HLn.out]; exact hA1) (by rw [HLn.out]; exact hA2) (Nat.le_trans hBs (by rw [size_alloc]; exact Nat.le_succ _)) _ rfl ?_
           intro g6 cap w6 hown6 hgr6 hat6 hlt6
           have HY := Lib.hid (And.intro hown6 (And.intro hgr6 (And.intro hat6 hlt6)))
           clear hown6 hgr6 hat6 hlt6))
      have HY2 := Lib.hid (H5.out.push ((Below.refl w5.heap.size w5).alloc (Nat.le_refl _) _) rfl HY.out.1 HY.out.2.1 HY.out.2.2.1 HY.out.2.2.2)
      exact ⟨⟨k + 1, V2, by omega, by go_num, HF2, by rw [HL2.out]; exact HY2⟩, by simp [intOf]; omega⟩
    · obtain rfl : k = n := by omega
      have hnl : ¬ (k : Int) < (k : Int) := by omega
      obtain ⟨V2, A2, U2⟩ := HAl.out V HF.out
      have HAll := Lib.hid A2
      have HUse := Lib.hid U2
      have HLn := Lib.hid (HRl.out k)
      have ho : wr.ownsRow B 3 1 u9 k (vals ((List.range k).map (fun j => ((16 + j * z : Nat) : Int)))) := by
        have := HS.out.o
        rwa [HRl.out] at this
      obtain ⟨g9, c9, rfl, _, _, _⟩ := own_blk ho (by omega)
      have d0 : wr.cell? ⟨g9, 0, none⟩ = some (.int .i64 16) := (owns_cell ho (k := 0) (by rw [HR0.out]; rfl)).1
      have HO := Lib.hid ho
      have hBs : B ≤ wr.heap.size := HS.out.st.elim fun _ y => y.le
      have HRg : Hid ((List.range k).map (fun j => ((16 + j * z : Nat) : Int)) ++ [16, 0] = regL z k) := Lib.hid rfl
      clear HSt HAl A2 U2 HF HR0 HRl HRs ho hlt hk
      generalize (List.range k).map (fun j => ((16 + j * z : Nat) : Int)) = T1 at *
      have hA1 : k + 2 ≤ maxLen := by unfold maxLen; omega
      have hA2 : (k + 2) * 8 ≤ 140737488355328 := by omega
      have hA3 : T1.length + 2 ≤ 1000 := by rw [HLn.out]; omega
      go_wp2_with (first
        | (refine wpList_append_lies _ rfl (.tmp 83) (.tmp 87) 25 rfl B 3 i0 _ 1 8 Tryz.underlying25 HI.out.1 HI.out.2.1 HI.out.2.2.1 HI.out.2.2.2 rfl (by omega) (.slice (some ⟨g9, 0, none⟩) k c9) k (vals T1) rfl (HO.out.alloc _) _ 2 2 [.int .i64 16, .int .i64 0] rfl rfl (by exact World.news_of_block (heap_alloc_last _ _)) (by intro u hu; simp at hu; rcases hu with rfl | rfl <;> rfl) (by decide) hA1 hA2 (Nat.le_trans hBs (by rw [size_alloc]; exact Nat.le_succ _)) _ rfl ?_
           intro g6 cap w6 hown6 hgr6 hat6 hlt6
           have HQ := Lib.hid (HS.out.pushL (Z := [16, 0]) ((Below.refl wr.heap.size wr).alloc (Nat.le_refl _) _) (by rw [HLn.out]; rfl) hown6 hgr6 hat6 hlt6)
           clear hown6 hgr6 hat6 hlt6)
        | (go_at_call 21
           obtain ⟨G6, x6, y6⟩ := HQ.out.lent (by rw [List.length_append]; exact hA3) rfl
           rw [HRg.out] at y6
           refine (HAll.out _ _ _ _ _ _ x6.s y6 (fun q => by cases q)).mono ?_
           rintro e w7 ⟨r7, rfl, h7, b7, k7, o7⟩
           obtain ⟨g7, c7, rfl, _, _, _⟩ := own_blk o7 (by omega)
           have H7 : Hid (RgL W B s H L V2 g7 (regN H z k) w7) := Lib.hid ⟨⟨_, x6.set h7 b7 k7⟩, row_liesK o7, (o7.lt _ rfl).2⟩
           clear h7 b7 k7 o7 x6 y6))
      have HWd : Hid (∀ u j, j < k → RgL W B s H L V2 g7 (regN H z k) u → Calls Tryz.prog 49 #[.pointer (some ⟨s, 0, none⟩), .int .i64 ((regN H z k).getD j 0), .int .i64 0] u fun e w' => e = .returned (.tuple #[.int .i64 ((j : Int) + 7), .int .i64 0]) ∧ Below u.heap.size u w') := Lib.hid (fun u j hj x => x.st.elim fun G y => (HUse.out _ _ _ _ y).2 j hj)
      have HU : Hid (∀ u, RgL W B s H L V2 g7 (regN H z k) u → Calls Tryz.prog 39 #[.pointer (some ⟨s, 0, none⟩)] u fun e w' => e = .returned (.int .i64 ((k : Int) * (z : Int))) ∧ Below u.heap.size u w') := Lib.hid (fun u x => x.st.elim fun G y => (HUse.out _ _ _ _ y).1)
      have dn := H7.out.at_ (k := k) (by rw [HLa.out.2.2]; omega)
      have dn1 := H7.out.at_ (k := k + 1) (by rw [HLa.out.2.2]; omega)
      have d7 := H7.out.at_ (k := 0) (by rw [HLa.out.2.2]; omega)
      rw [HLa.out.1.1] at dn
      rw [HLa.out.1.2] at dn1
      rw [HLa.out.2.1, Nat.zero_mul, Nat.add_zero] at d7
      have HLl := Lib.hid HLa.out.2.2
      clear HUse HAll HS HQ HO HRg HLn HLa d0
      generalize regN H z k = RN at *
      generalize ((16 + H : Nat) : Int) = hh at *
      have hb0 : (0 : Int) < ((k + 2 : Nat) : Int) := by omega
      have hb1 : (k : Int) < ((k + 2 : Nat) : Int) := by omega
      have hb2 : (k : Int) + 1 < ((k + 2 : Nat) : Int) := by omega
      have hb3 : ((k + 2 : Nat) : Int) = (k : Int) + 2 := by omega
      go_quiet (fail)
      have H8 := Lib.hid (H7.out.below (bel_drewN (Below.refl _ _) nq))
      clear H7 dn dn1 d7
      go_wp2_with fail
      go_loopw [15] (fun i wr => ∃ j : Nat, j ≤ k ∧ i = .int .i64 (j : Int) ∧ Hid (RgL W B s H L V2 g7 RN wr)) (fun i _ => k - (intOf i).toNat)
      case atStart => exact ⟨0, Nat.zero_le _, rfl, H8⟩
      case round =>
        clear H8
        obtain ⟨j, hj, rfl, HX⟩ := hrel
        have hj8 : (j : Int) ≤ 8 := by omega
        by_cases hlt : j < k
        · have hj1 : (j : Int) < (k : Int) := by omega
          have hj2 : (j : Int) < ((k + 2 : Nat) : Int) := by omega
          have dj := HX.out.at_ (k := j) (by rw [HLl.out]; omega)
          have HW := Lib.hid (fun u => HWd.out u j hlt)
          generalize RN.getD j 0 = rj at *
          go_wp2_with (first
            | (go_at_call 49; refine (HW.out _ HX.out).mono ?_; rintro e' w8 ⟨rfl, b8⟩; have HX2 := Lib.hid (HX.out.below b8); clear b8))
          exact ⟨⟨j + 1, by omega, by go_num, HX2⟩, by simp [intOf]; omega⟩
        · obtain rfl : j = k := by omega
          have hnl2 : ¬ (j : Int) < (j : Int) := by omega
          go_wp2_with (first
            | (go_at_call 39; refine (HU.out _ HX.out).mono ?_; rintro e' w9 ⟨rfl, b9⟩; have H9 := Lib.hid (HX.out.below b9); clear b9))
          go_ret
          exact ⟨rfl, H9.out.b⟩
theorem Regs_walk (ht : TyOk W.heap.size W) (h l n wo : Int) : Calls Tryz.prog 7 #[.agg #[.int .i64 h, .int .i64 l], .int .i64 n, .int .i64 wo] W fun e w' => e = .returned (.bool true) ∧ Below W.heap.size W w' := by
  by_cases c : geOk h l = true ∧ 1 ≤ n ∧ n ≤ 8 ∧ 1 ≤ wo ∧ wo ≤ 10 ∧ n * (wo + 1) ≤ h
  · obtain ⟨c0, c1, c2, c3, c4, c5⟩ := c
    have hq := geOk_yes c0
    obtain ⟨H, rfl⟩ := Int.eq_ofNat_of_zero_le (show 0 ≤ h by omega)
    obtain ⟨L, rfl⟩ := Int.eq_ofNat_of_zero_le (show 0 ≤ l by omega)
    obtain ⟨m, rfl⟩ := Int.eq_ofNat_of_zero_le (show 0 ≤ n by omega)
    obtain ⟨z, hz⟩ := Int.eq_ofNat_of_zero_le (show 0 ≤ wo + 1 by omega)
    rw [hz, ← Int.natCast_mul] at c5
    exact Regs_yes ht H L m z wo c0 (by omega) (by omega) c3 c4 (by omega) (by omega)
  · exact Regs_no ht h l n wo c
end
end Go.Proofs.YteijhbnnhadkhaaGreatDoor
