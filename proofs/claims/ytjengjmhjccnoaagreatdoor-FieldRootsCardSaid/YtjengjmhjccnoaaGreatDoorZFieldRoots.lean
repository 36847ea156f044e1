/- FieldRoots: the walk. -/
import Derived.Test.YtjengjmhjccnoaaGreatDoorZFieldLaws
import Derived.Test.YtjengjmhjccnoaaGreatDoorZFieldRt
import Derived.Test.YtjengjmhjccnoaaGreatDoorZGeo
import Derived.Test.YtjengjmhjccnoaaGreatDoorZStoreC
set_option linter.unusedVariables false
set_option linter.unusedSimpArgs false
namespace Go.Proofs.YtjengjmhjccnoaaGreatDoor
open Go.RowKit Sec
open Go.Proofs.YtjengjmhjccnoaaGreatDoor.Bk

section
variable {W : World}
theorem rt_flat : ∀ l : List Int, vals l = flat (fun z : Int => [Value.int .i64 z]) l
  | [] => rfl
  | z :: l => by
    show Value.int .i64 z :: vals l = [Value.int .i64 z] ++ flat _ l
    rw [rt_flat l]
    rfl
theorem rt_lies {w : World} {a : Option Addr} {l : List Int} (h : LiesAt w a (vals l)) {k : Nat} (hk : k < l.length) : ∃ g o : Nat, a = some ⟨g, o, none⟩ ∧ g < w.heap.size ∧ w.cell? ⟨g, o + k, none⟩ = some (.int .i64 (l.getD k 0)) := by
  rw [rt_flat] at h
  obtain ⟨g, o, h1, h2, h3⟩ := h.elem (k := 1) (fun _ => rfl) (by decide) (List.getElem?_eq_getElem hk)
  have := h3 0 _ rfl
  rw [Nat.mul_one, Nat.add_zero] at this
  exact ⟨g, o, h1, h2, by rw [this, List.getD_eq_getElem?_getD, List.getElem?_eq_getElem hk]; rfl⟩
/-- The lowest three bits of a number. -/
theorem and7_range (x : Int) : ∃ r : Nat, r < 8 ∧ bits BinOp.and IntKind.i64 x 7 = (r : Int) := by
  show ∃ r : Nat, r < 8 ∧ IntKind.i64.wrap ((BitVec.ofInt 64 x &&& BitVec.ofInt 64 7).toNat : Int) = (r : Int)
  refine ⟨(BitVec.ofInt 64 x &&& BitVec.ofInt 64 7).toNat, ?_, ?_⟩
  · rw [BitVec.toNat_and]
    exact Nat.lt_of_le_of_lt Nat.and_le_right (by decide)
  · have : (BitVec.ofInt 64 x &&& BitVec.ofInt 64 7).toNat ≤ 7 := by
      rw [BitVec.toNat_and]
      exact Nat.le_trans Nat.and_le_right (by decide)
    rw [IntKind.wrap_i64]
    omega
theorem seven_at (y : Int) : (-7 < y.tmod 7 ∧ y.tmod 7 < 7) ∧ ∃ j : Nat, j < 7 ∧ (y.tmod 7 + 7).tmod 7 = (j : Int) := by
  obtain ⟨⟨a, b⟩, K, h, _, e⟩ := turn_at y 7 (by decide)
  exact ⟨⟨a, b⟩, K, h, e⟩
set_option maxRecDepth 100000 in
set_option maxHeartbeats 4000000 in
theorem Roots_no (ht : TyOk W.heap.size W) (q : Option Addr) (n m : Nat) (hn : (n : Int) ≤ 9223372036854775807) (no : (60 : Int) < (n : Int)) : Calls Tryz.prog 4 #[.slice q n m] W fun e w' => e = .returned (.bool true) ∧ Below W.heap.size W w' := by
  have HT := Lib.hid ht
  clear ht
  go_enter Tryz.func4, Tryz.ntmps4
  go_wp2_with (first
    | (go_at_call 6; refine (fialive_is HT.out).mono ?_; rintro e' w2 ⟨rfl, b2⟩; have H2 := Lib.hid b2; clear b2))
  go_ret
  exact ⟨rfl, H2.out⟩
set_option maxRecDepth 100000 in
set_option maxHeartbeats 8000000 in
theorem Roots_yes (ht : TyOk W.heap.size W) (q : Option Addr) (l : List Int) (m : Nat) (hq : LiesAt W q (vals l)) (hl : l.length ≤ 60) : Calls Tryz.prog 4 #[.slice q l.length m] W fun e w' => e = .returned (.bool true) ∧ Below W.heap.size W w' := by
  obtain ⟨i0, hi, hz0, hz1, hz2⟩ := info_parts (show (Tryz.prog.info? 3).map (fun i => (i.zero, i.size, i.bytes)) = some (some (.int .i64 0), 1, 8) by kernel_rfl)
  have HI := Lib.hid (And.intro hi (And.intro hz0 (And.intro hz1 hz2)))
  clear hi hz0 hz1 hz2
  have HT := Lib.hid ht
  have HL := Lib.hid hq
  have HBg : Hid (∀ u, TyOk u.heap.size u → Calls Tryz.prog 7 #[.agg #[.int .i64 40, .int .i64 20]] u fun r w' => ∃ s p, r = .returned (.tuple #[.pointer (some ⟨p, 0, none⟩), .pointer (some ⟨s, 0, none⟩)]) ∧ St u.heap.size (fun b => b < u.heap.size) w' s 40 20 (sxW 0) ∧ Below u.heap.size u w') := Lib.hid (fun u x => Begin_st x 40 20 (by omega))
  have HNw : Hid (∀ B s v T u (k : Nat), k < 6 → RwS W B s 40 20 (sxW k) v T u → Calls Tryz.prog 8 #[.pointer (some ⟨s, 0, none⟩), .int .i64 0, .int .i64 1] u fun r w' => r = .returned (.tuple #[.int .i64 (16 + 2 * (k : Int)), .int .i64 0]) ∧ RwS W B s 40 20 (sxW (k + 1)) v T w') := Lib.hid (fun B s v T u k hk x => x.new (fun G y => by
    obtain ⟨q1, q2⟩ := sx_step hk
    have := anew_st y 0 1
    rwa [q1, q2] at this))
  have hl1 : ¬ (60 : Int) < (l.length : Int) := by omega
  have hl2 : (l.length : Int) ≤ 60 := by omega
  clear ht hq
  go_enter Tryz.func4, Tryz.ntmps4
  go_wp2_with (first
    | (go_at_call 6; refine (fialive_is HT.out).mono ?_; rintro e' w2 ⟨rfl, b2⟩; have H1 := Lib.hid b2; clear b2)
    | (go_at_call 7; refine (HBg.out _ ((HT.out.below H1.out).more H1.out.size)).mono ?_; rintro e' w3 ⟨s, p, rfl, h3, b3⟩; have HS := Lib.hid (RwS.start H1.out h3 b3); clear h3 b3))
  clear H1 HBg HT
  generalize w2.heap.size = B at *
  go_loopw [5, 6] (fun v i wr => ∃ k : Nat, k ≤ 6 ∧ i = .int .i64 (k : Int) ∧ Hid (RwS W B s 40 20 (sxW k) v (atsL k) wr)) (fun _ i _ => 6 - (intOf i).toNat)
  case atStart => exact ⟨0, Nat.zero_le _, rfl, HS⟩
  case round =>
    clear HS
    obtain ⟨k, hk, rfl, HS⟩ := hrel
    by_cases hlt : k < 6
    · have hi1 : (k : Int) < 6 := by omega
      have HNk := Lib.hid (fun u => HNw.out B s u5 (atsL k) u k hlt)
      have HLk := Lib.hid (atsL_len k)
      have hA1 : k + 1 ≤ maxLen := by unfold maxLen; omega
      have hA2 : (k + 1) * 8 ≤ 140737488355328 := by omega
      go_wp2_with (first
        | (go_at_call 8; refine (HNk.out _ HS.out).mono ?_; rintro e' w4 ⟨rfl, h4⟩; have H4 := Lib.hid h4; have hBs : B ≤ w4.heap.size := h4.le; clear h4)
        | (refine wpList_append_lies _ rfl (.tmp 43) (.tmp 45) 35 rfl B 3 i0 _ 1 8 Tryz.underlying35 HI.out.1 HI.out.2.1 HI.out.2.2.1 HI.out.2.2.2 rfl (by omega) u5 (atsL k).length (vals (atsL k)) rfl (H4.out.o.alloc _) _ 1 1 [.int .i64 (16 + 2 * (k : Int))] rfl rfl (by exact World.news_of_block (heap_alloc_last _ _)) (by intro u hu; simp at hu; rw [hu]; rfl) (by decide) (by rw [HLk.out]; exact hA1) (by rw [HLk.out]; exact hA2) (Nat.le_trans hBs (by rw [size_alloc]; exact Nat.le_succ _)) _ rfl ?_
           intro g5 cap w5 hown5 hgr5 hat5 hlt5
           have HY := Lib.hid (And.intro hown5 (And.intro hgr5 (And.intro hat5 hlt5)))
           clear hown5 hgr5 hat5 hlt5))
      have HY2 := Lib.hid (H4.out.push ((Below.refl w4.heap.size w4).alloc (Nat.le_refl _) _) rfl HY.out.1 HY.out.2.1 HY.out.2.2.1 HY.out.2.2.2)
      exact ⟨⟨k + 1, by omega, by go_num, HY2⟩, by simp [intOf]; omega⟩
    · obtain rfl : k = 6 := by omega
      have hlen : (atsL 6).length = 6 := rfl
      have HTA : Hid (∀ j, j < 7 → RtA ((atsL 6 ++ [0]).getD j 0)) := Lib.hid ats_at
      have HT0 : Hid ((atsL 6 ++ [0]).getD 0 0 = 16) := Lib.hid rfl
      have HT7 : Hid ((atsL 6 ++ [0]).length = 7) := Lib.hid rfl
      have HRt := Lib.hid Rt.start
      generalize atsL 6 = T6 at *
      generalize hV0 : sxW 6 = V0 at *
      clear hV0
      have HO6 : Hid (wr.ownsRow B 3 1 u5 6 (vals T6)) := Lib.hid (by
        have := HS.out.o
        rwa [hlen] at this)
      have HL6 := Lib.hid hlen
      have hBs : B ≤ wr.heap.size := HS.out.le
      clear hlen HNw hlt hk
      go_wp2_with (first
        | (refine wpList_append_lies _ rfl (.tmp 47) (.tmp 48) 35 rfl B 3 i0 _ 1 8 Tryz.underlying35 HI.out.1 HI.out.2.1 HI.out.2.2.1 HI.out.2.2.2 rfl (by omega) u5 6 (vals T6) rfl (HO6.out.alloc _) _ 1 1 [.int .i64 0] rfl rfl (by exact World.news_of_block (heap_alloc_last _ _)) (by intro u hu; simp at hu; rw [hu]; rfl) (by decide) (by decide) (by decide) (Nat.le_trans hBs (by rw [size_alloc]; exact Nat.le_succ _)) _ rfl ?_
           intro g6 c6 w6 hown5 hgr5 hat5 hlt5
           have HY := Lib.hid (And.intro hown5 (And.intro hgr5 (And.intro hat5 hlt5)))
           clear hown5 hgr5 hat5 hlt5))
      have H6 := Lib.hid (RwA.start (HS.out.push ((Below.refl wr.heap.size wr).alloc (Nat.le_refl _) _) (by rw [HL6.out]) HY.out.1 HY.out.2.1 HY.out.2.2.1 HY.out.2.2.2))
      clear HS HY HO6 HL6 hBs HI
      generalize T6 ++ [0] = T at *
      generalize w6.heap.size = wb at *
      have hRl : ([0, 0, 0, 0, 0, 0, 0, 0] : List Int).length = 8 := rfl
      generalize ([0, 0, 0, 0, 0, 0, 0, 0] : List Int) = R0 at *
      clear hRl
      go_loopw [52] (fun i wr => ∃ (n : Nat) (V R : List Int), n ≤ l.length ∧ i = .int .i64 (n : Int) ∧ Hid (Rt V R) ∧ Hid (RwA W B s 40 20 V (.slice (some ⟨g6, 0, none⟩) 7 c6) T wb R wr)) (fun i _ => l.length - (intOf i).toNat)
      case atStart => exact ⟨0, V0, R0, Nat.zero_le _, rfl, HRt, H6⟩
      case round =>
        clear HRt H6
        obtain ⟨n, V, R, hn, rfl, HX, HR⟩ := hrel
        by_cases hlt : n < l.length
        · obtain ⟨g2, og2, rfl, hg2, e2⟩ := rt_lies HL.out hlt
          have hi1 : (n : Int) < (l.length : Int) := by omega
          have d2 := (HR.out.b.cell (p := ⟨g2, og2 + n, none⟩) hg2).trans e2
          clear e2
          generalize l.getD n 0 = x at *
          obtain ⟨r, hr8, er⟩ := and7_range x
          obtain ⟨⟨r0, r1⟩, j, hj, hjr⟩ := seven_at (x / 8)
          have hwr : IntKind.i64.wrap ((x / 8).tmod 7 + 7) = (x / 8).tmod 7 + 7 := by rw [IntKind.wrap_i64]; omega
          have d7 := HR.out.elem (j := j) HT7.out.symm (by rw [HT7.out]; exact hj)
          have HA := Lib.hid (HTA.out j hj)
          have hj7 : (j : Int) < 7 := by omega
          have hr7 : (r : Int) < 8 := by omega
          clear r0 r1
          generalize T.getD j 0 = a at *
          obtain ⟨q1, q2⟩ := HX.out.put hr8 HA.out
          have HPut : Hid (∀ u, RwA W B s 40 20 V (.slice (some ⟨g6, 0, none⟩) 7 c6) T wb R u → Calls Tryz.prog 13 #[.pointer (some ⟨s, 0, none⟩), .int .i64 (r : Int), .int .i64 a] u fun e w' => e = .returned (.int .i64 0) ∧ RwA W B s 40 20 (srW (40 : Nat) (20 : Nat) V r a) (.slice (some ⟨g6, 0, none⟩) 7 c6) T wb R w') := Lib.hid (fun u x => x.new (fun G y => by
            have := fSetRoot_is y (r : Int) a
            rwa [q1] at this))
          have HX2 := Lib.hid q2
          clear q1 q2 HA HX
          generalize srW (40 : Nat) (20 : Nat) V r a = V2 at *
          have HRo : Hid (∀ u (k : Nat), k < 8 → RwA W B s 40 20 V2 (.slice (some ⟨g6, 0, none⟩) 7 c6) T wb (R.set r a) u → Calls Tryz.prog 14 #[.pointer (some ⟨s, 0, none⟩), .int .i64 (k : Int)] u fun e w' => e = .returned (.tuple #[.int .i64 ((R.set r a).getD k 0), .int .i64 0]) ∧ RwA W B s 40 20 V2 (.slice (some ⟨g6, 0, none⟩) 7 c6) T wb (R.set r a) w') := Lib.hid (fun u k hk x => x.new (fun G y => by
            obtain ⟨q1, q2, q3⟩ := HX2.out.root hk
            have := fRoot_is y (k : Int)
            rwa [q1, q2, q3] at this))
          go_wp2_with fail
          go_region
          have HR2 := Lib.hid (HR.out.below (Below.refl _ _).drew)
          clear HR
          go_wp2_with (first
            | (go_at_call 13; refine (HPut.out _ HR2.out).mono ?_; rintro e' w7 ⟨rfl, h7⟩; have H7 := Lib.hid h7; obtain ⟨x1, x2⟩ := H7.out.arr hr8; have H8 := Lib.hid (H7.out.put r a); clear h7))
          clear HPut HR2 H7 x1 x2 d2 d7 hjr hwr er
          generalize hwo : w7.setCell ⟨wb, r, none⟩ (.int .i64 a) = wo at *
          clear hwo
          generalize hR2 : R.set r a = R2 at *
          clear hR2
          go_loopw [14] (fun i wr => ∃ k : Nat, k ≤ 8 ∧ i = .int .i64 (k : Int) ∧ Hid (RwA W B s 40 20 V2 (.slice (some ⟨g6, 0, none⟩) 7 c6) T wb R2 wr)) (fun i _ => 8 - (intOf i).toNat)
          case atStart => exact ⟨0, Nat.zero_le _, rfl, H8⟩
          case round =>
            clear H8
            obtain ⟨k, hk, rfl, HR⟩ := hrel
            by_cases hlt2 : k < 8
            · have hk8 : (k : Int) < 8 := by omega
              go_wp2_with (first
                | (go_at_call 14; refine (HRo.out _ k hlt2 HR.out).mono ?_; rintro e' w9 ⟨rfl, h9⟩; obtain ⟨x1, x2⟩ := h9.arr hlt2; have H9 := Lib.hid h9; clear h9))
              exact ⟨⟨k + 1, by omega, by go_num, H9⟩, by simp [intOf]; omega⟩
            · obtain rfl : k = 8 := by omega
              go_wp2_with fail
              exact ⟨⟨n + 1, V2, R2, by omega, by go_num, HX2, HR⟩, by simp [intOf]; omega⟩
        · obtain rfl : n = l.length := by omega
          have hnl : ¬ (l.length : Int) < (l.length : Int) := by omega
          obtain ⟨e1, e2, e3⟩ := HX.out.ends
          have HE1 : Hid (∀ u, RwA W B s 40 20 V (.slice (some ⟨g6, 0, none⟩) 7 c6) T wb R u → Calls Tryz.prog 13 #[.pointer (some ⟨s, 0, none⟩), .int .i64 0, .int .i64 17] u fun e w' => e = .returned (.int .i64 1) ∧ RwA W B s 40 20 V (.slice (some ⟨g6, 0, none⟩) 7 c6) T wb R w') := Lib.hid (fun u x => x.new (fun G y => by
            have := fSetRoot_is y 0 17
            rwa [e1, e2] at this))
          have HE2 : Hid (∀ u, RwA W B s 40 20 V (.slice (some ⟨g6, 0, none⟩) 7 c6) T wb R u → Calls Tryz.prog 13 #[.pointer (some ⟨s, 0, none⟩), .int .i64 8, .int .i64 16] u fun e w' => e = .returned (.int .i64 8) ∧ RwA W B s 40 20 (srW (40 : Nat) (20 : Nat) V 8 16) (.slice (some ⟨g6, 0, none⟩) 7 c6) T wb R w') := Lib.hid (fun u x => x.new (fun G y => by
            have := fSetRoot_is y 8 16
            rwa [e3] at this))
          clear e1 e2 e3 HX
          go_wp2_with (first
            | (go_at_call 13; with_reducible refine (HE1.out _ HR.out).mono ?_; rintro e' w7 ⟨rfl, h7⟩; have d7 := h7.elem (j := 0) HT7.out.symm (by rw [HT7.out]; decide); rw [HT0.out] at d7; have H7 := Lib.hid h7; clear h7)
            | (go_at_call 13; with_reducible refine (HE2.out _ H7.out).mono ?_; rintro e' w8 ⟨rfl, h8⟩; have H8 := Lib.hid h8; clear h8))
          go_ret
          exact ⟨rfl, H8.out.b⟩
theorem Roots_walk (ht : TyOk W.heap.size W) (x : List Int) (q : Option Addr) (m : Nat) (hq : LiesAt W q (vals x)) (hx : x.length ≤ maxLen) : Calls Tryz.prog 4 #[.slice q x.length m] W fun e w' => e = .returned (.bool true) ∧ Below W.heap.size W w' := by
  by_cases k : x.length ≤ 60
  · exact Roots_yes ht q x m hq k
  · exact Roots_no ht q x.length m (by unfold maxLen at hx; omega) (by omega)
end
end Go.Proofs.YtjengjmhjccnoaaGreatDoor
