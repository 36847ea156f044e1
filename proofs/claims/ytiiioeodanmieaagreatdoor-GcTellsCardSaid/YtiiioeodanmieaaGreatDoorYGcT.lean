import Derived.Test.YtiiioeodanmieaaGreatDoorYGcF
import Derived.Test.YtiiioeodanmieaaGreatDoorYHeapStart
import Derived.Test.YtiiioeodanmieaaGreatDoorYBook
import Derived.Test.YtiiioeodanmieaaGreatDoorYAllocTellsA
import Derived.Test.YtiiioeodanmieaaGreatDoorYGcE
import Derived.Test.YtiiioeodanmieaaGreatDoorYBookD
import Derived.Test.YtiiioeodanmieaaGreatDoorYField
import Derived.Test.YtiiioeodanmieaaGreatDoorYHeapC
import Derived.Test.YtiiioeodanmieaaGreatDoorYHeapB
import Derived.Test.YtiiioeodanmieaaGreatDoorYHeap
import Derived.Test.YtiiioeodanmieaaGreatDoorYHeapD
set_option linter.unusedVariables false
set_option linter.unusedSimpArgs false
-- GcDall
namespace Go.Proofs.YtiiioeodanmieaaGreatDoor
open Go.RowKit Sec
open Go.Proofs.YtiiioeodanmieaaGreatDoor.Bk

theorem alg_no {h l : Int} {W rs : List Int} (e : hOk h l W = false) : alg h l W rs = (1, [], W) := by
  have e1 : stp h l W 10000 = (false, 1, W) := if_pos (.inl e)
  have e2 : str h l W rs = (1, [], W) := if_pos e
  rw [alg, e1, e2]
  split
  · exact if_neg (show ¬ (1 : Int) = 0 by decide)
  · exact if_neg (show ¬ (1 : Int) = 0 by decide)
theorem alg_zero {h l : Int} {W rs : List Int} (hoff : hGc W = 0) : alg h l W rs = if (str h l W rs).1 = 0 then (if (stp h l (str h l W rs).2.2 10000).2.1 = 0 then (0, (str h l W rs).2.1, (stp h l (str h l W rs).2.2 10000).2.2) else ((stp h l (str h l W rs).2.2 10000).2.1, [], (stp h l (str h l W rs).2.2 10000).2.2)) else ((str h l W rs).1, [], (str h l W rs).2.2) := by
  rw [alg, if_neg (by rw [hoff]; decide)]
theorem alg_one {h l : Int} {W rs : List Int} (hon : hGc W = 1) : alg h l W rs = if (stp h l W 10000).2.1 = 0 then (0, rs, (stp h l W 10000).2.2) else ((stp h l W 10000).2.1, [], (stp h l W 10000).2.2) := by
  rw [alg, if_pos hon]
section
variable {B : Nat} {w w' : World} {b g c : Nat} {h l : Int} {W : List Int}
theorem HGo.row {w1 : World} {v : Value} {n : Nat} {xs : List Value} (y : HGo B g w1 w') (o : w1.ownsRow w.heap.size 3 1 v n xs) (hg : g < w.heap.size) : w'.ownsRow w.heap.size 3 1 v n xs :=
  hb_same o (fun k hk => y.k k (o.lt k hk).2 (by have := (o.lt k hk).1; omega))
set_option maxRecDepth 100000 in
set_option maxHeartbeats 8000000 in
theorem dall_is (k : HIs B w b h l W g c) (hWl : (W.length : Int) = 16 + 2 * h) (hr : NumC W) (hN : ∀ rs, NumC (str h l W rs).2.2 ∧ (str h l W rs).2.2.length = W.length) (a : Option Addr) (rs : List Int) (ca : Nat) (hl : LiesAt w a (vals rs)) (hag : ∀ x : Addr, a = some x → x.block ≠ g ∨ rs = []) (hrl : rs.length ≤ 1000) : Calls Tryz.prog 22 #[.pointer (some ⟨b, 0, none⟩), .slice a rs.length ca] w fun e w' => ∃ v, e = .returned (.tuple #[v, .int .i64 (alg h l W rs).1]) ∧ HIs B w' b h l (alg h l W rs).2.2 g c ∧ HGo B g w w' ∧ w'.ownsRow w.heap.size 3 1 v (alg h l W rs).2.1.length (vals (alg h l W rs).2.1) := by
  obtain ⟨i0, hi, hz0, hz1, hz2⟩ := info_parts (show (Tryz.prog.info? 3).map (fun i => (i.zero, i.size, i.bytes)) = some (some (.int .i64 0), 1, 8) by kernel_rfl)
  have HInf := Lib.hid (And.intro hi (And.intro hz0 (And.intro hz1 hz2)))
  clear hi hz0 hz1 hz2
  have HR := Lib.hid (rright_is k)
  have HK := Lib.hid k
  have HLe := Lib.hid k.le'
  have hgl := k.glt
  cases q1 : hOk h l W with
  | false =>
    rw [alg_no q1]
    rw [q1] at HR
    clear k q1 hWl hr hN
    go_enter Tryz.func22, Tryz.ntmps22
    go_wp2_with (go_at_call 56; refine HR.out.mono ?_; rintro e w1 ⟨rfl, b1⟩; have H1 := Lib.hid b1; clear b1)
    go_ret2
    exact ⟨_, rfl, HK.out.below H1.out, HGo.of_below HLe.out H1.out, World.ownsRow_nil _ _ _ _⟩
  | true =>
    rw [q1] at HR
    have hge := k.ge
    have HV : Hid (∀ u ∈ vals rs, u.oneCell' = true) := Lib.hid (fun u hu => by
      obtain ⟨z, _, rfl⟩ := List.mem_map.1 hu
      rfl)
    have hm1 : 0 + rs.length ≤ maxLen := by unfold maxLen; omega
    have hm2 : (0 + rs.length) * 8 ≤ 140737488355328 := by omega
    have HVl : Hid ((vals rs).length = rs.length * 1) := Lib.hid (by simp [vals])
    have HL := Lib.hid hl
    have HGl := Lib.hid hgl
    have HBl := Lib.hid k.lt
    have HD : Hid (∀ u, HIs B u b h l W g c → u.cell? ⟨b, 2, none⟩ = some (.slice (some ⟨g, 0, none⟩) W.length c) ∧ u.cell? ⟨g, 2, none⟩ = some (.int .i64 (hGc W))) := Lib.hid (fun u y => ⟨y.cs.2.2, (y.at (i := 2) (by omega)).1⟩)
    have y2 : (2 : Int) < (W.length : Int) := by omega
    -- behind the append: the heap as it was, the list anew
    have HA : Hid (∀ u1 u2 v, Below w.heap.size w u1 → u2.ownsRow u1.heap.size 3 1 v rs.length (vals rs) → u1.grownBy u2 none → HIs B u2 b h l W g c ∧ HGo B g w u2 ∧ u2.ownsRow w.heap.size 3 1 v rs.length (vals rs) ∧ LiesAt u2 a (vals rs)) := Lib.hid (fun u1 u2 v y o gr => by
      have hB := HLe.out
      have yB : Below w.heap.size w u2 := y.grown gr y.size (fun k q => by cases q)
      exact ⟨k.below yB, HGo.of_below hB yB, owns_base y.size o, hl.below yB⟩)
    have f5 : hGc W = 0 ∨ hGc W = 1 := by
      obtain ⟨f1, f2, f3, f4, f5⟩ := fine_yes q1
      omega
    rcases f5 with g0 | g1
    · rw [alg_zero g0]
      rw [g0] at HD
      have HSt : Hid (∀ u, HIs B u b h l W g c → LiesAt u a (vals rs) → Calls Tryz.prog 17 #[.pointer (some ⟨b, 0, none⟩), .slice a rs.length ca] u fun e w' => ∃ v, e = .returned (.tuple #[v, .int .i64 (str h l W rs).1]) ∧ HIs B w' b h l (str h l W rs).2.2 g c ∧ HGo B g u w' ∧ w'.ownsRow u.heap.size 3 1 v (str h l W rs).2.1.length (vals (str h l W rs).2.1)) := Lib.hid (fun u x y => rstart_is x hWl hr a rs ca y hag hrl)
      have HSp : Hid (∀ u, HIs B u b h l (str h l W rs).2.2 g c → Calls Tryz.prog 20 #[.pointer (some ⟨b, 0, none⟩), .int .i64 10000] u fun e w' => e = .returned (.tuple #[.bool (stp h l (str h l W rs).2.2 10000).1, .int .i64 (stp h l (str h l W rs).2.2 10000).2.1]) ∧ HIs B w' b h l (stp h l (str h l W rs).2.2 10000).2.2 g c ∧ HGo B g u w') := Lib.hid (fun u x => rstep_is x (by rw [(hN rs).2]; exact hWl) (hN rs).1 10000 (by decide))
      clear k q1 hWl hr hN hl hag g0
      generalize str h l W rs = X at *
      generalize stp h l X.2.2 10000 = Y at *
      obtain ⟨x, o1, U1⟩ := X
      obtain ⟨y0, y1, U2⟩ := Y
      have HSt : Hid (∀ u, HIs B u b h l W g c → LiesAt u a (vals rs) → Calls Tryz.prog 17 #[.pointer (some ⟨b, 0, none⟩), .slice a rs.length ca] u fun e w' => ∃ v, e = .returned (.tuple #[v, .int .i64 x]) ∧ HIs B w' b h l U1 g c ∧ HGo B g u w' ∧ w'.ownsRow u.heap.size 3 1 v o1.length (vals o1)) := HSt
      have HSp : Hid (∀ u, HIs B u b h l U1 g c → Calls Tryz.prog 20 #[.pointer (some ⟨b, 0, none⟩), .int .i64 10000] u fun e w' => e = .returned (.tuple #[.bool y0, .int .i64 y1]) ∧ HIs B w' b h l U2 g c ∧ HGo B g u w') := HSp
      show Calls _ _ _ _ fun e w' => ∃ v, e = .returned (.tuple #[v, .int .i64 (if x = 0 then (if y1 = 0 then (0, o1, U2) else (y1, [], U2)) else (x, [], U1)).1]) ∧ HIs B w' b h l (if x = 0 then (if y1 = 0 then (0, o1, U2) else (y1, [], U2)) else (x, [], U1)).2.2 g c ∧ HGo B g w w' ∧ w'.ownsRow w.heap.size 3 1 v (if x = 0 then (if y1 = 0 then (0, o1, U2) else (y1, [], U2)) else (x, [], U1)).2.1.length (vals (if x = 0 then (if y1 = 0 then (0, o1, U2) else (y1, [], U2)) else (x, [], U1)).2.1)
      by_cases e0 : x = 0
      · subst e0
        rw [if_pos rfl]
        by_cases e1 : y1 = 0
        · subst e1
          rw [if_pos rfl]
          show Calls _ _ _ _ fun e w' => ∃ v, e = .returned (.tuple #[v, .int .i64 0]) ∧ HIs B w' b h l U2 g c ∧ HGo B g w w' ∧ w'.ownsRow w.heap.size 3 1 v o1.length (vals o1)
          go_enter Tryz.func22, Tryz.ntmps22
          go_wp2_with (first
            | (go_at_call 56; refine HR.out.mono ?_; rintro e w1 ⟨rfl, b1⟩; have H1 := Lib.hid b1; clear b1)
            | (refine wpList_append_row rfl (.const (.slice none 0 0)) (.tmp 14) 25 rfl w1.heap.size 3 i0 _ 1 8 Tryz.underlying25 HInf.out.1 HInf.out.2.1 HInf.out.2.2.1 HInf.out.2.2.2 rfl (by decide) (.slice none 0 0) 0 [] rfl (World.ownsRow_nil _ _ _ _) a rs.length ca (vals rs) rfl HVl.out (HL.out.below H1.out) HV.out hm1 hm2 (Nat.le_refl _) ?_
               intro v5 w5 own5 gr5
               rw [Nat.zero_add, List.nil_append] at own5
               have H5 := Lib.hid (HA.out _ _ v5 H1.out own5 gr5)
               obtain ⟨d0, d1⟩ := HD.out _ H5.out.1
               clear own5 gr5)
            | (go_at_call 17; refine (HSt.out _ H5.out.1 H5.out.2.2.2).mono ?_; rintro e w6 ⟨v6, rfl, h6, g6, o6⟩; have H6 := Lib.hid (And.intro h6 (And.intro (H5.out.2.1.trans g6) (owns_base H5.out.2.1.b.size o6))); clear h6 g6 o6 d0 d1)
            | (go_at_call 20; refine (HSp.out _ H6.out.1).mono ?_; rintro e w7 ⟨rfl, h7, g7⟩; have H7 := Lib.hid (And.intro h7 (And.intro (H6.out.2.1.trans g7) (HGo.row g7 H6.out.2.2 HGl.out.2))); clear h7 g7))
          go_ret2
          exact ⟨_, rfl, H7.out⟩
        · rw [if_neg e1]
          show Calls _ _ _ _ fun e w' => ∃ v, e = .returned (.tuple #[v, .int .i64 y1]) ∧ HIs B w' b h l U2 g c ∧ HGo B g w w' ∧ w'.ownsRow w.heap.size 3 1 v 0 []
          go_enter Tryz.func22, Tryz.ntmps22
          go_wp2_with (first
            | (go_at_call 56; refine HR.out.mono ?_; rintro e w1 ⟨rfl, b1⟩; have H1 := Lib.hid b1; clear b1)
            | (refine wpList_append_row rfl (.const (.slice none 0 0)) (.tmp 14) 25 rfl w1.heap.size 3 i0 _ 1 8 Tryz.underlying25 HInf.out.1 HInf.out.2.1 HInf.out.2.2.1 HInf.out.2.2.2 rfl (by decide) (.slice none 0 0) 0 [] rfl (World.ownsRow_nil _ _ _ _) a rs.length ca (vals rs) rfl HVl.out (HL.out.below H1.out) HV.out hm1 hm2 (Nat.le_refl _) ?_
               intro v5 w5 own5 gr5
               rw [Nat.zero_add, List.nil_append] at own5
               have H5 := Lib.hid (HA.out _ _ v5 H1.out own5 gr5)
               obtain ⟨d0, d1⟩ := HD.out _ H5.out.1
               clear own5 gr5)
            | (go_at_call 17; refine (HSt.out _ H5.out.1 H5.out.2.2.2).mono ?_; rintro e w6 ⟨v6, rfl, h6, g6, o6⟩; have H6 := Lib.hid (And.intro h6 (And.intro (H5.out.2.1.trans g6) (owns_base H5.out.2.1.b.size o6))); clear h6 g6 o6 d0 d1)
            | (go_at_call 20; refine (HSp.out _ H6.out.1).mono ?_; rintro e w7 ⟨rfl, h7, g7⟩; have H7 := Lib.hid (And.intro h7 (H6.out.2.1.trans g7)); clear h7 g7))
          go_ret2
          exact ⟨_, rfl, H7.out.1, H7.out.2, World.ownsRow_nil _ _ _ _⟩
      · rw [if_neg e0]
        clear HSp
        show Calls _ _ _ _ fun e w' => ∃ v, e = .returned (.tuple #[v, .int .i64 x]) ∧ HIs B w' b h l U1 g c ∧ HGo B g w w' ∧ w'.ownsRow w.heap.size 3 1 v 0 []
        go_enter Tryz.func22, Tryz.ntmps22
        go_wp2_with (first
          | (go_at_call 56; refine HR.out.mono ?_; rintro e w1 ⟨rfl, b1⟩; have H1 := Lib.hid b1; clear b1)
          | (refine wpList_append_row rfl (.const (.slice none 0 0)) (.tmp 14) 25 rfl w1.heap.size 3 i0 _ 1 8 Tryz.underlying25 HInf.out.1 HInf.out.2.1 HInf.out.2.2.1 HInf.out.2.2.2 rfl (by decide) (.slice none 0 0) 0 [] rfl (World.ownsRow_nil _ _ _ _) a rs.length ca (vals rs) rfl HVl.out (HL.out.below H1.out) HV.out hm1 hm2 (Nat.le_refl _) ?_
             intro v5 w5 own5 gr5
             rw [Nat.zero_add, List.nil_append] at own5
             have H5 := Lib.hid (HA.out _ _ v5 H1.out own5 gr5)
             obtain ⟨d0, d1⟩ := HD.out _ H5.out.1
             clear own5 gr5)
          | (go_at_call 17; refine (HSt.out _ H5.out.1 H5.out.2.2.2).mono ?_; rintro e w6 ⟨v6, rfl, h6, g6, o6⟩; have H6 := Lib.hid (And.intro h6 (And.intro (H5.out.2.1.trans g6) (owns_base H5.out.2.1.b.size o6))); clear h6 g6 o6 d0 d1))
        go_ret2
        exact ⟨_, rfl, H6.out.1, H6.out.2.1, World.ownsRow_nil _ _ _ _⟩
    · rw [alg_one g1]
      rw [g1] at HD
      have HSp : Hid (∀ u, HIs B u b h l W g c → Calls Tryz.prog 20 #[.pointer (some ⟨b, 0, none⟩), .int .i64 10000] u fun e w' => e = .returned (.tuple #[.bool (stp h l W 10000).1, .int .i64 (stp h l W 10000).2.1]) ∧ HIs B w' b h l (stp h l W 10000).2.2 g c ∧ HGo B g u w') := Lib.hid (fun u x => rstep_is x hWl hr 10000 (by decide))
      clear k q1 hWl hr hN hl hag g1
      generalize stp h l W 10000 = Y at *
      obtain ⟨y0, y1, U2⟩ := Y
      have HSp : Hid (∀ u, HIs B u b h l W g c → Calls Tryz.prog 20 #[.pointer (some ⟨b, 0, none⟩), .int .i64 10000] u fun e w' => e = .returned (.tuple #[.bool y0, .int .i64 y1]) ∧ HIs B w' b h l U2 g c ∧ HGo B g u w') := HSp
      show Calls _ _ _ _ fun e w' => ∃ v, e = .returned (.tuple #[v, .int .i64 (if y1 = 0 then (0, rs, U2) else (y1, [], U2)).1]) ∧ HIs B w' b h l (if y1 = 0 then (0, rs, U2) else (y1, [], U2)).2.2 g c ∧ HGo B g w w' ∧ w'.ownsRow w.heap.size 3 1 v (if y1 = 0 then (0, rs, U2) else (y1, [], U2)).2.1.length (vals (if y1 = 0 then (0, rs, U2) else (y1, [], U2)).2.1)
      by_cases e1 : y1 = 0
      · subst e1
        rw [if_pos rfl]
        show Calls _ _ _ _ fun e w' => ∃ v, e = .returned (.tuple #[v, .int .i64 0]) ∧ HIs B w' b h l U2 g c ∧ HGo B g w w' ∧ w'.ownsRow w.heap.size 3 1 v rs.length (vals rs)
        go_enter Tryz.func22, Tryz.ntmps22
        go_wp2_with (first
          | (go_at_call 56; refine HR.out.mono ?_; rintro e w1 ⟨rfl, b1⟩; have H1 := Lib.hid b1; clear b1)
          | (refine wpList_append_row rfl (.const (.slice none 0 0)) (.tmp 14) 25 rfl w1.heap.size 3 i0 _ 1 8 Tryz.underlying25 HInf.out.1 HInf.out.2.1 HInf.out.2.2.1 HInf.out.2.2.2 rfl (by decide) (.slice none 0 0) 0 [] rfl (World.ownsRow_nil _ _ _ _) a rs.length ca (vals rs) rfl HVl.out (HL.out.below H1.out) HV.out hm1 hm2 (Nat.le_refl _) ?_
             intro v5 w5 own5 gr5
             rw [Nat.zero_add, List.nil_append] at own5
             have H5 := Lib.hid (HA.out _ _ v5 H1.out own5 gr5)
             obtain ⟨d0, d1⟩ := HD.out _ H5.out.1
             clear own5 gr5)
          | (go_at_call 20; refine (HSp.out _ H5.out.1).mono ?_; rintro e w7 ⟨rfl, h7, g7⟩; have H7 := Lib.hid (And.intro h7 (And.intro (H5.out.2.1.trans g7) (HGo.row g7 H5.out.2.2.1 HGl.out.2))); clear h7 g7))
        go_ret2
        exact ⟨_, rfl, H7.out⟩
      · rw [if_neg e1]
        show Calls _ _ _ _ fun e w' => ∃ v, e = .returned (.tuple #[v, .int .i64 y1]) ∧ HIs B w' b h l U2 g c ∧ HGo B g w w' ∧ w'.ownsRow w.heap.size 3 1 v 0 []
        go_enter Tryz.func22, Tryz.ntmps22
        go_wp2_with (first
          | (go_at_call 56; refine HR.out.mono ?_; rintro e w1 ⟨rfl, b1⟩; have H1 := Lib.hid b1; clear b1)
          | (refine wpList_append_row rfl (.const (.slice none 0 0)) (.tmp 14) 25 rfl w1.heap.size 3 i0 _ 1 8 Tryz.underlying25 HInf.out.1 HInf.out.2.1 HInf.out.2.2.1 HInf.out.2.2.2 rfl (by decide) (.slice none 0 0) 0 [] rfl (World.ownsRow_nil _ _ _ _) a rs.length ca (vals rs) rfl HVl.out (HL.out.below H1.out) HV.out hm1 hm2 (Nat.le_refl _) ?_
             intro v5 w5 own5 gr5
             rw [Nat.zero_add, List.nil_append] at own5
             have H5 := Lib.hid (HA.out _ _ v5 H1.out own5 gr5)
             obtain ⟨d0, d1⟩ := HD.out _ H5.out.1
             clear own5 gr5)
          | (go_at_call 20; refine (HSp.out _ H5.out.1).mono ?_; rintro e w7 ⟨rfl, h7, g7⟩; have H7 := Lib.hid (And.intro h7 (H5.out.2.1.trans g7)); clear h7 g7))
        go_ret2
        exact ⟨_, rfl, H7.out.1, H7.out.2, World.ownsRow_nil _ _ _ _⟩
end
end Go.Proofs.YtiiioeodanmieaaGreatDoor
-- GcTellsA
namespace Go.Proofs.YtiiioeodanmieaaGreatDoor
open Go.RowKit Sec
open Go.Proofs.YtiiioeodanmieaaGreatDoor.Bk

theorem str_num {h l : Int} {W : List Int} (hWl : (W.length : Int) = 16 + 2 * h) (hr : NumC W) (rs : List Int) : NumC (str h l W rs).2.2 ∧ (str h l W rs).2.2.length = W.length := by
  cases q : hOk h l W with
  | false =>
    rw [str, if_pos q]
    exact ⟨hr, rfl⟩
  | true =>
    by_cases hg : hGc W = 1
    · rw [str, if_neg (by rw [q]; decide), if_pos hg]
      exact ⟨hr, rfl⟩
    · obtain ⟨k0, hlen⟩ := turned_keeps hWl q hr
      have hTl : ((turned h W).length : Int) = 16 + 2 * h := by rw [hlen]; exact hWl
      have k1 := (slotsGo_keeps k0 hTl (show 4 ≤ 7 by decide) 8).1
      rw [str, if_neg (by rw [q]; decide), if_neg hg]
      by_cases e : (slotsGo h l (turned h W) 7 8).1 = 0
      · rw [if_pos e]
        have k2 := regsGo_keeps k1 hTl rs rs.length
        by_cases e2 : (regsGo h l (slotsGo h l (turned h W) 7 8).2 rs rs.length).1 = 0
        · rw [if_pos e2]
          exact ⟨k2.num, k2.len.trans hlen⟩
        · rw [if_neg e2]
          exact ⟨k2.num, k2.len.trans hlen⟩
      · rw [if_neg e]
        exact ⟨k1.num, k1.len.trans hlen⟩
theorem LiesAt.left {w : World} {a : Option Addr} {xs ys : List Value} (h : LiesAt w a (xs ++ ys)) : LiesAt w a xs := fun j u hu => h j u (by
  rw [List.getElem?_append_left (List.getElem?_eq_some_iff.1 hu).1]
  exact hu)
section
variable {W : World} {h l : Int} {B B' C s H L : Nat} {V V' U U' : List Int} {p g cc kp : Nat} {LI MI : List IL} {X Y Q : Nat → Prop} {u u' : World}
theorem AtS.called (a : AtS W h l B B' C s H L V U p g cc kp LI MI X u) {G G' : Nat → Prop} (s2 : ∀ i, (i = W.heap.size ∨ i = p ∨ i = g ∨ BGI u kp LI MI i ∨ X i) → G i) (y1 : St B G' u' s H L V') (y2 : Below B u u') (y3 : KeptG G u u') (hG : ∀ i, G i → G' i) (hY : ∀ i, Y i → G' i ∧ C ≤ i ∧ i < u'.heap.size) :
    AtS W h l B B' C s H L V' U p g cc kp LI MI (fun i => X i ∨ Y i) u' := by
  obtain ⟨k1, k2⟩ := a.bk.stay y2.size (fun i q => y3 i (s2 i (.inr (.inr (.inr (.inl q))))))
  have c := s2 _ (.inl rfl)
  refine ⟨⟨Nat.lt_of_lt_of_le a.gb.lt y2.size, (y3.cell ⟨_, 0, none⟩ c).trans a.gb.c0, (y3.cell ⟨_, 1, none⟩ c).trans a.gb.c1⟩, a.b.trans (y2.mono (Nat.le_of_lt a.lt.1)), ⟨G', y1, fun i q => ?_⟩,
    a.d.of_blocks (fun i q => y3 i (s2 i (by rcases q with q | q; exact .inr (.inl q); exact .inr (.inr (.inl q))))), k1, a.lt, fun i q => ?_⟩
  · rw [k2 i] at q
    rcases q with q | q | q | q | q | q
    · exact hG i (s2 i (.inl q))
    · exact hG i (s2 i (.inr (.inl q)))
    · exact hG i (s2 i (.inr (.inr (.inl q))))
    · exact hG i (s2 i (.inr (.inr (.inr (.inl q)))))
    · exact hG i (s2 i (.inr (.inr (.inr (.inr q)))))
    · exact (hY i q).1
  · rcases q with q | q
    · exact ⟨(a.x i q).1, Nat.lt_of_lt_of_le (a.x i q).2 y2.size⟩
    · exact (hY i q).2
theorem AtS.gone (a : AtS W h l B B' C s H L V U p g cc kp LI MI X u) (y : HGo B' g u u') (z : HIs B' u' p H L U' g cc) : AtS W h l B B' C s H L V U' p g cc kp LI MI (fun i => X i ∨ (u.heap.size ≤ i ∧ i < u'.heap.size)) u' := by
  obtain ⟨G, s1, s2⟩ := a.s
  obtain ⟨l1, l2, l3, l4, l5⟩ := a.lt
  have hC : C ≤ u.heap.size := Nat.le_trans a.bk.hp (Nat.le_of_lt a.bk.book.lt)
  obtain ⟨k1, k2⟩ := a.bk.stay y.b.size (fun i q => y.k i (a.bk.lt i q).2 (by have := (a.bk.lt i q).1; omega))
  have hg := a.d.glt.1
  have hW := a.gb.lt
  have e : ∀ o, u'.cell? ⟨W.heap.size, o, none⟩ = u.cell? ⟨W.heap.size, o, none⟩ := fun o => World.cell?_of_block (a := ⟨W.heap.size, o, none⟩) (y.k _ hW (show W.heap.size ≠ g by omega))
  refine ⟨⟨Nat.lt_of_lt_of_le hW y.b.size, (e 0).trans a.gb.c0, (e 1).trans a.gb.c1⟩, a.b.trans (y.b.mono (by omega)), ⟨_, s1.turn (y.b.mono l2) (fun k q r => y.k k q (fun e => r (s2 k (.inr (.inr (.inl e)))))), fun i q => ?_⟩, z, k1, a.lt, fun i q => ?_⟩
  · rw [k2 i] at q
    rcases q with q | q | q | q | q | q
    · exact .inl (s2 i (.inl q))
    · exact .inl (s2 i (.inr (.inl q)))
    · exact .inl (s2 i (.inr (.inr (.inl q))))
    · exact .inl (s2 i (.inr (.inr (.inr (.inl q)))))
    · exact .inl (s2 i (.inr (.inr (.inr (.inr q)))))
    · exact .inr q
  · rcases q with q | q
    · exact ⟨(a.x i q).1, Nat.lt_of_lt_of_le (a.x i q).2 y.b.size⟩
    · exact ⟨Nat.le_trans hC q.1, q.2⟩
def GtS (W : World) (h l : Int) (B B' C s H L : Nat) (V U : List Int) (p g cc kp : Nat) (LI MI : List IL) (Q : Nat → Prop) (u : World) : Prop :=
  ∃ X, AtS W h l B B' C s H L V U p g cc kp LI MI X u ∧ ∀ i, Q i → X i ∧ ¬ BGI u kp LI MI i
theorem GtS.st (a : GtS W h l B B' C s H L V U p g cc kp LI MI Q u) : ∃ G, St B G u s H L V := by
  obtain ⟨X, a, _⟩ := a
  exact a.st
theorem GtS.d (a : GtS W h l B B' C s H L V U p g cc kp LI MI Q u) : HIs B' u p H L U g cc := by
  obtain ⟨X, a, _⟩ := a
  exact a.d
theorem GtS.b (a : GtS W h l B B' C s H L V U p g cc kp LI MI Q u) : Below W.heap.size W u := by
  obtain ⟨X, a, _⟩ := a
  exact a.b
theorem GtS.hC (a : GtS W h l B B' C s H L V U p g cc kp LI MI Q u) : C ≤ u.heap.size := by
  obtain ⟨X, a, _⟩ := a
  exact Nat.le_trans a.bk.hp (Nat.le_of_lt a.bk.book.lt)
theorem GtS.ofE (a : AtE W h l B B' C s H L V U p g cc kp LI MI u) : GtS W h l B B' C s H L V U p g cc kp LI MI (fun _ => False) u := by
  obtain ⟨X, a⟩ := a
  exact ⟨X, a, fun i q => q.elim⟩
theorem GtS.toE (a : GtS W h l B B' C s H L V U p g cc kp LI MI Q u) : AtE W h l B B' C s H L V U p g cc kp LI MI u := by
  obtain ⟨X, a, _⟩ := a
  exact ⟨X, a⟩
theorem GtS.less (a : GtS W h l B B' C s H L V U p g cc kp LI MI Q u) {Q' : Nat → Prop} (hQ : ∀ i, Q' i → Q i) : GtS W h l B B' C s H L V U p g cc kp LI MI Q' u := by
  obtain ⟨X, a, q⟩ := a
  exact ⟨X, a, fun i r => q i (hQ i r)⟩
theorem AtS.keep2 (a : AtS W h l B B' C s H L V U p g cc kp LI MI X u) (x : IL) (hx : u.ownsRow C 3 1 x.cell x.l.length (vals x.l)) (hX : ∀ i, x.cell.ownBlock = some i → X i) (hap : ∀ y ∈ LI, ∀ i, y.cell.ownBlock = some i → x.cell.ownBlock ≠ some i) (hs : x.l.length ≤ 1000) (hL : LI.length ≤ 200) :
    Calls Tryz.prog 18 #[.pointer (some ⟨kp, 0, none⟩), .slice x.a x.l.length x.c] u fun e w' => e = .returned (.tuple #[]) ∧ ∃ y, AtS W h l B B' C s H L V U p g cc kp (LI ++ [x]) (MI ++ [y]) (fun i => X i ∨ (u.heap.size ≤ i ∧ i < w'.heap.size)) w' ∧ (∀ i, i < u.heap.size → ¬ BGI u kp LI MI i → w'.heap[i]? = u.heap[i]?) ∧ (∀ i, BGI w' kp (LI ++ [x]) (MI ++ [y]) i → BGI u kp LI MI i ∨ x.cell.ownBlock = some i ∨ u.heap.size ≤ i) ∧ u.heap.size ≤ w'.heap.size := by
  obtain ⟨G, s1, s2⟩ := a.s
  obtain ⟨l1, l2, l3, l4, l5⟩ := a.lt
  refine (keepInts_isB C kp LI MI x u a.bk.book a.bk.hp a.bk.kInts hx hap hs hL).mono fun e w' ⟨h1, h2, h3, h4, y, h5, h6⟩ => ⟨h1, y, ?_⟩
  have nb : ∀ i, i < C → ¬ BGI u kp LI MI i := fun i q r => by
    have := (a.bk.lt i r).1
    omega
  have hC : C ≤ u.heap.size := Nat.le_trans a.bk.hp (Nat.le_of_lt a.bk.book.lt)
  have same : ∀ i, i < C → w'.heap[i]? = u.heap[i]? := fun i q => h4 i (Nat.lt_of_lt_of_le q hC) (nb i q)
  have bk := BookI.addInts a.bk h2 h3 h5
  have hWC : W.heap.size < C := by omega
  have e : ∀ o, w'.cell? ⟨W.heap.size, o, none⟩ = u.cell? ⟨W.heap.size, o, none⟩ := fun o => World.cell?_of_block (same _ hWC)
  refine ⟨⟨⟨Nat.lt_of_lt_of_le a.gb.lt h2.size, (e 0).trans a.gb.c0, (e 1).trans a.gb.c1⟩, a.b.trans (h2.mono (Nat.le_of_lt hWC)), ⟨_, s1.turn (h2.mono l5) (fun k q r => h4 k q (fun z => r (s2 k (.inr (.inr (.inr (.inl z))))))), fun i q => ?_⟩, a.d.of_blocks (fun i q => same i (by rcases q with rfl | rfl <;> assumption)), (bk.stay (Nat.le_refl _) (fun _ _ => rfl)).1, a.lt, fun i q => ?_⟩, h4, h6, h2.size⟩
  · rcases q with q | q | q | q | q | q
    · exact .inl (s2 i (.inl q))
    · exact .inl (s2 i (.inr (.inl q)))
    · exact .inl (s2 i (.inr (.inr (.inl q))))
    · have hlt := (bk.lt i q).2
      rcases h6 i q with r | r | r
      · exact .inl (s2 i (.inr (.inr (.inr (.inl r)))))
      · exact .inl (s2 i (.inr (.inr (.inr (.inr (hX i r))))))
      · exact .inr ⟨r, hlt⟩
    · exact .inl (s2 i (.inr (.inr (.inr (.inr q)))))
    · exact .inr q
  · rcases q with q | q
    · exact ⟨(a.x i q).1, Nat.lt_of_lt_of_le (a.x i q).2 h2.size⟩
    · exact ⟨Nat.le_trans hC q.1, q.2⟩
theorem GtS.more (a : GtS W h l B B' C s H L V U p g cc kp LI MI Q u) (y : Below u.heap.size u u') : GtS W h l B B' C s H L V U p g cc kp LI MI (fun i => Q i ∨ (u.heap.size ≤ i ∧ i < u'.heap.size)) u' ∧ ∀ i, Q i → u'.heap[i]? = u.heap[i]? := by
  obtain ⟨X, a, q⟩ := a
  obtain ⟨k1, k2⟩ := a.bk.stay y.size (fun i q => y.block i (a.bk.lt i q).2)
  refine ⟨⟨_, a.more y, fun i r => ?_⟩, fun i r => y.block i (a.x i (q i r).1).2⟩
  rw [k2 i]
  rcases r with r | r
  · exact ⟨.inl (q i r).1, (q i r).2⟩
  · exact ⟨.inr r, fun z => by have := (a.bk.lt i z).2; omega⟩
theorem GtS.call (a : GtS W h l B B' C s H L V U p g cc kp LI MI Q u) {f : FuncId} {args : Array Value} {r : Ending} (y : ∀ G, St B G u s H L V → Calls Tryz.prog f args u fun e w' => e = r ∧ St B G w' s H L V' ∧ Below B u w' ∧ KeptG G u w') :
    Calls Tryz.prog f args u fun e w' => e = r ∧ GtS W h l B B' C s H L V' U p g cc kp LI MI Q w' ∧ ∀ i, Q i → w'.heap[i]? = u.heap[i]? := by
  obtain ⟨X, a, q⟩ := a
  obtain ⟨G, s1, s2⟩ := a.s
  refine (y G s1).mono fun e w' ⟨y0, y1, y2, y3⟩ => ⟨y0, ?_, fun i r => y3 i (s2 i (.inr (.inr (.inr (.inr (q i r).1)))))⟩
  obtain ⟨k1, k2⟩ := a.bk.stay y2.size (fun i q => y3 i (s2 i (.inr (.inr (.inr (.inl q))))))
  exact ⟨_, a.called (Y := fun _ => False) s2 y1 y2 y3 (fun _ r => r) (fun i r => r.elim), fun i r => by rw [k2 i]; exact ⟨.inl (q i r).1, (q i r).2⟩⟩
theorem GtS.go (a : GtS W h l B B' C s H L V U p g cc kp LI MI Q u) (y : HGo B' g u u') (z : HIs B' u' p H L U' g cc) : GtS W h l B B' C s H L V U' p g cc kp LI MI (fun i => Q i ∨ (u.heap.size ≤ i ∧ i < u'.heap.size)) u' ∧ ∀ i, Q i → u'.heap[i]? = u.heap[i]? := by
  obtain ⟨X, a, q⟩ := a
  have hl := a.lt
  obtain ⟨k1, k2⟩ := a.bk.stay y.b.size (fun i q => y.k i (a.bk.lt i q).2 (by have := (a.bk.lt i q).1; omega))
  refine ⟨⟨_, a.gone y z, fun i r => ?_⟩, fun i r => y.k i (a.x i (q i r).1).2 (by have := (a.x i (q i r).1).1; omega)⟩
  rw [k2 i]
  rcases r with r | r
  · exact ⟨.inl (q i r).1, (q i r).2⟩
  · exact ⟨.inr r, fun z => by have := (a.bk.lt i z).2; omega⟩
theorem GtS.row (a : GtS W h l B B' C s H L V U p g cc kp LI MI Q u) {f : FuncId} {args : Array Value} {R : Value → Ending} {out : List Int} (y : ∀ G, St B G u s H L V → (∀ i, Q i → G i) → Calls Tryz.prog f args u fun e w' => ∃ r, e = R r ∧ St B (fun k => G k ∨ r.ownBlock = some k) w' s H L V' ∧ Below B u w' ∧ KeptG G u w' ∧ w'.ownsRow u.heap.size 3 1 r out.length (vals out)) :
    Calls Tryz.prog f args u fun e w' => ∃ x : IL, x.l = out ∧ e = R x.cell ∧ GtS W h l B B' C s H L V' U p g cc kp LI MI (fun i => Q i ∨ x.cell.ownBlock = some i) w' ∧ w'.ownsRow C 3 1 x.cell x.l.length (vals x.l) ∧ (∀ y ∈ LI, ∀ i, y.cell.ownBlock = some i → x.cell.ownBlock ≠ some i) ∧ (∀ i, Q i → w'.heap[i]? = u.heap[i]?) ∧ ∀ i, Q i → x.cell.ownBlock ≠ some i := by
  have hC := a.hC
  obtain ⟨X, a, q⟩ := a
  obtain ⟨G, s1, s2⟩ := a.s
  refine (y G s1 (fun i r => s2 i (.inr (.inr (.inr (.inr (q i r).1)))))).mono fun e w' ⟨r, y0, y1, y2, y3, y4⟩ => ?_
  obtain ⟨ad, c, rfl⟩ := owns_slice y4
  obtain ⟨k1, k2⟩ := a.bk.stay y2.size (fun i q => y3 i (s2 i (.inr (.inr (.inr (.inl q))))))
  refine ⟨⟨ad, out, c⟩, rfl, y0, ⟨_, a.called (Y := fun i => (Value.slice ad out.length c).ownBlock = some i) s2 y1 y2 y3 (fun _ r => .inl r) (fun i r => ⟨.inr r, Nat.le_trans hC (y4.lt i r).1, (y4.lt i r).2⟩), fun i r => ?_⟩, owns_base hC y4, fun z hz i r1 r2 => ?_, fun i r => y3 i (s2 i (.inr (.inr (.inr (.inr (q i r).1))))), fun i r1 r2 => ?_⟩
  · rw [k2 i]
    rcases r with r | r
    · exact ⟨.inl (q i r).1, (q i r).2⟩
    · exact ⟨.inr r, fun z => by have := (a.bk.lt i z).2; have := (y4.lt i r).1; omega⟩
  · have z1 := ((a.bk.kInts.each z hz).lt i r1).2
    have z2 := (y4.lt i r2).1
    omega
  · have z1 := (a.x i (q i r1).1).2
    have z2 := (y4.lt i r2).1
    omega
theorem GtS.keep (a : GtS W h l B B' C s H L V U p g cc kp LI MI Q u) (x : IL) (hx : u.ownsRow C 3 1 x.cell x.l.length (vals x.l)) (hX : ∀ i, x.cell.ownBlock = some i → Q i) (hap : ∀ y ∈ LI, ∀ i, y.cell.ownBlock = some i → x.cell.ownBlock ≠ some i) (hs : x.l.length ≤ 1000) (hL : LI.length ≤ 200) :
    Calls Tryz.prog 18 #[.pointer (some ⟨kp, 0, none⟩), .slice x.a x.l.length x.c] u fun e w' => e = .returned (.tuple #[]) ∧ ∃ y, GtS W h l B B' C s H L V U p g cc kp (LI ++ [x]) (MI ++ [y]) (fun i => Q i ∧ x.cell.ownBlock ≠ some i) w' ∧ (∀ i, Q i → w'.heap[i]? = u.heap[i]?) ∧ u.heap.size ≤ w'.heap.size := by
  obtain ⟨X, a, q⟩ := a
  refine (a.keep2 x hx (fun i r => (q i (hX i r)).1) hap hs hL).mono fun e w' ⟨h1, y, h2, h3, h4, h5⟩ => ⟨h1, y, ⟨_, h2, fun i r => ⟨.inl (q i r.1).1, fun z => ?_⟩⟩, fun i r => h3 i (a.x i (q i r).1).2 (q i r).2, h5⟩
  rcases h4 i z with e | e | e
  · exact (q i r.1).2 e
  · exact r.2 e
  · have := (a.x i (q i r.1).1).2
    omega
end
end Go.Proofs.YtiiioeodanmieaaGreatDoor
-- BookLent

namespace Go.Proofs.YtiiioeodanmieaaGreatDoor.Bk
open Go.RowKit

set_option maxRecDepth 100000 in
set_option maxHeartbeats 1000000 in
theorem lentInts_is (a : Option Addr) (l : List Int) (c : Nat) (w : World) (h : LiesAt w a (vals l)) (hl : l.length ≤ 1000) :
    Calls Tryz.prog 15 #[.slice a l.length c] w fun e w' => ∃ g cap, e = .returned (.slice (some ⟨g, 0, none⟩) l.length cap) ∧ Below w.heap.size w w' ∧ w'.ownsRow w.heap.size 3 1 (.slice (some ⟨g, 0, none⟩) (l.length + 1) cap) (l.length + 1) (vals l ++ [.int .i64 (-77)]) := by
  obtain ⟨i0, hi, hz0, hz1, hz2⟩ := info_parts intInfo
  have HI := Lib.hid (And.intro hi (And.intro hz0 (And.intro hz1 hz2)))
  clear hi hz0 hz1 hz2
  have H := Lib.hid h
  clear h
  go_enter Tryz.func15, Tryz.ntmps15
  go_wp2_with (first
    | (go_at_call 53
       refine (copyInts_is a l c _ H.out (by omega)).mono ?_
       rintro e w1 ⟨v, rfl, b1, o1⟩
       have H1 := Lib.hid (And.intro b1 o1)
       clear b1 o1)
    | (refine wpList_append_lies _ rfl (.tmp 4) (.tmp 5) 25 rfl w.heap.size 3 i0 _ 1 8 Tryz.underlying25 HI.out.1 HI.out.2.1 HI.out.2.2.1 HI.out.2.2.2 rfl (by omega) v l.length (vals l) rfl (H1.out.2.alloc _) _ 1 1 [.int .i64 (-77)] rfl rfl (by exact World.news_of_block (heap_alloc_last _ _)) (by intro u hu; simp at hu; rw [hu]; rfl) (by omega) (by unfold maxLen; omega) (by omega) (by have := H1.out.1.size; simp; omega) _ rfl ?_
       intro g cap w4 hown4 hgr4 hat4 hlt4
       have hcap := owns_cap hown4
       have HX := Lib.hid (And.intro hown4 (And.intro hgr4 hlt4))
       clear hown4 hgr4 hat4 hlt4
       have hci : (l.length : Int) ≤ (cap : Int) := by omega
       have hc0 : ¬ cap = 0 := by omega))
  all_goals
    go_ret
    exact ⟨g, cap, rfl, (H1.out.1.alloc (H1.out.1.size) _).grown HX.out.2.1 (by have := H1.out.1.size; simp; omega) (fun b hb => (H1.out.2.lt b hb).1), HX.out.1⟩

set_option maxRecDepth 100000 in
set_option maxHeartbeats 1000000 in
theorem staysInts_is (g cap base : Nat) (a2 : Option Addr) (l : List Int) (c2 : Nat) (w : World) (h : w.ownsRow base 3 1 (.slice (some ⟨g, 0, none⟩) (l.length + 1) cap) (l.length + 1) (vals l ++ [.int .i64 (-77)])) (h2 : LiesAt w a2 (vals l)) (hl : l.length ≤ 1000) :
    Calls Tryz.prog 32 #[.slice (some ⟨g, 0, none⟩) l.length cap, .slice a2 l.length c2] w fun e w' => e = .returned (.bool true) ∧ ∃ m, w' = w.drewN m := by
  have hcap := owns_cap h
  have hci : (l.length : Int) + 1 ≤ (cap : Int) := by omega
  have hc0 : ¬ cap = 0 := by omega
  have e1 := (owns_cell h (k := l.length) (x := .int .i64 (-77)) (by rw [List.getElem?_append_right (by rw [vals_len]; exact Nat.le_refl _), vals_len, Nat.sub_self]; rfl)).1
  have hL1 : LiesAt w (some ⟨g, 0, none⟩) (vals l) := by
    obtain ⟨a', c', hv, hl, _⟩ := own_form h
    obtain ⟨rfl, _⟩ : some ⟨g, 0, none⟩ = a' ∧ cap = c' := by simpa using hv
    exact fun j u hu => hl j u (by rw [List.getElem?_append_left (List.getElem?_eq_some_iff.1 hu).1]; exact hu)
  have H := Lib.hid (And.intro hL1 h2)
  clear h h2 hL1
  go_enter Tryz.func32, Tryz.ntmps32
  go_wp2_with (go_at_call 29
               refine (SameInts_is l l _ a2 _ c2 _ H.out.1 H.out.2 (by unfold maxLen; omega) (by unfold maxLen; omega) true ⟨fun _ => rfl, fun _ => rfl⟩).mono ?_
               rintro e w1 ⟨rfl, m, rfl⟩)
  all_goals
    go_ret
    exact ⟨rfl, _, rfl⟩
end Go.Proofs.YtiiioeodanmieaaGreatDoor.Bk
-- GcTellsB
namespace Go.Proofs.YtiiioeodanmieaaGreatDoor
open Go.RowKit Sec
open Go.Proofs.YtiiioeodanmieaaGreatDoor.Bk

structure GtF (W : World) (B B' C s H L : Nat) (V : List Int) (p g cc kp : Nat) (LI MI : List IL) (gm cap : Nat) (rs : List Int) (xa xb : IL) (u : World) : Prop where
  e : AtE W (H : Int) (L : Int) B B' C s H L V V p g cc kp LI MI u
  m : u.ownsRow C 3 1 (.slice (some ⟨gm, 0, none⟩) (rs.length + 1) cap) (rs.length + 1) (vals rs ++ [.int .i64 (-77)])
  a : LiesAt u xa.a (vals xa.l)
  b : LiesAt u xb.a (vals xa.l)
  n : xb.l = xa.l ∧ xa.l.length ≤ 1000
section
variable {W : World} {B B' C s H L : Nat} {V V' U U' : List Int} {p g cc kp : Nat} {LI MI : List IL} {gm cap : Nat} {rs : List Int} {xa xb : IL} {u u' : World} {Q : Nat → Prop}
theorem GtF.below (x : GtF W B B' C s H L V p g cc kp LI MI gm cap rs xa xb u) (y : Below u.heap.size u u') : GtF W B B' C s H L V p g cc kp LI MI gm cap rs xa xb u' :=
  ⟨x.e.below y, own_below x.m y, x.a.below y, x.b.below y, x.n⟩
theorem GtF.cells (x : GtF W B B' C s H L V p g cc kp LI MI gm cap rs xa xb u) : u.cell? ⟨p, 2, none⟩ = some (.slice (some ⟨g, 0, none⟩) V.length cc) ∧ u.cell? ⟨g, 2, none⟩ = some (.int .i64 (hGc V)) :=
  ⟨x.e.d.cs.2.2, (x.e.d.at (i := 2) (by have := x.e.d.ge; omega)).1⟩
theorem GtF.same (x : GtF W B B' C s H L V p g cc kp LI MI gm cap rs xa xb u) : Calls Tryz.prog 29 #[xa.cell, xb.cell] u fun e w' => e = .returned (.bool true) ∧ Below u.heap.size u w' := by
  have h := x.n
  have := SameInts_is xa.l xa.l xa.a xb.a xa.c xb.c u x.a x.b (by unfold maxLen; omega) (by unfold maxLen; omega) true (by simp)
  rw [show xb.cell = .slice xb.a xa.l.length xb.c by rw [← h.1]; rfl]
  exact this.mono fun e w' ⟨h3, m, h4⟩ => ⟨h3, by rw [h4]; exact bel_drewN (Below.refl _ _) m⟩
theorem GtF.is (x : GtF W B B' C s H L V p g cc kp LI MI gm cap rs xa xb u) : Calls Tryz.prog 30 #[.pointer (some ⟨s, 0, none⟩), .pointer (some ⟨p, 0, none⟩)] u fun e w' => e = .returned (.bool true) ∧ Below u.heap.size u w' := by
  obtain ⟨G, y⟩ := x.e.st
  have := Is_st y x.e.d
  rwa [decide_eq_true rfl] at this
theorem GtF.on (x : GtF W B B' C s H L V p g cc kp LI MI gm cap rs xa xb u) : Calls Tryz.prog 31 #[.pointer (some ⟨s, 0, none⟩)] u fun e w' => e = .returned (.bool (decide (hGc V = 1))) ∧ Below u.heap.size u w' := by
  obtain ⟨G, y⟩ := x.e.st
  exact gOn_is y
theorem GtF.stays (x : GtF W B B' C s H L V p g cc kp LI MI gm cap rs xa xb u) {q : Option Addr} (hq : LiesAt u q (vals rs)) (c : Nat) (hl : rs.length ≤ 1000) : Calls Tryz.prog 32 #[.slice (some ⟨gm, 0, none⟩) rs.length cap, .slice q rs.length c] u fun e w' => e = .returned (.bool true) ∧ Below u.heap.size u w' :=
  (staysInts_is gm cap C q rs c u x.m hq hl).mono fun e w' ⟨h1, m, h2⟩ => ⟨h1, by rw [h2]; exact bel_drewN (Below.refl _ _) m⟩
def Mrk (C gm cap : Nat) (rs : List Int) (u : World) : Prop := u.ownsRow C 3 1 (.slice (some ⟨gm, 0, none⟩) (rs.length + 1) cap) (rs.length + 1) (vals rs ++ [.int .i64 (-77)])
theorem Mrk.same (m : Mrk C gm cap rs u) (h : u'.heap[gm]? = u.heap[gm]?) : Mrk C gm cap rs u' := hb_same m (fun k hk => by
  obtain rfl : gm = k := by simpa [Value.ownBlock] using hk
  exact h)
theorem gt_code (x : GtS W H L B B' C s H L V U p g cc kp LI MI (fun i => i = gm) u) (m : Mrk C gm cap rs u) (hrl : rs.length ≤ 8) {f : FuncId} {E : Int} {out : List Int}
    (y : ∀ G, St B G u s H L V → Lent B G u (some ⟨gm, 0, none⟩) rs → Calls Tryz.prog f #[.pointer (some ⟨s, 0, none⟩), .slice (some ⟨gm, 0, none⟩) rs.length cap] u fun e w' => ∃ r, e = .returned (.tuple #[r, .int .i64 E]) ∧ St B (fun k => G k ∨ r.ownBlock = some k) w' s H L V' ∧ Below B u w' ∧ KeptG G u w' ∧ w'.ownsRow u.heap.size 3 1 r out.length (vals out)) :
    Calls Tryz.prog f #[.pointer (some ⟨s, 0, none⟩), .slice (some ⟨gm, 0, none⟩) rs.length cap] u fun e w' => ∃ xa : IL, xa.l = out ∧ e = .returned (.tuple #[xa.cell, .int .i64 E]) ∧ GtS W H L B B' C s H L V' U p g cc kp LI MI (fun i => i = gm ∨ xa.cell.ownBlock = some i) w' ∧ Mrk C gm cap rs w' ∧ w'.ownsRow C 3 1 xa.cell xa.l.length (vals xa.l) ∧ (∀ y ∈ LI, ∀ i, y.cell.ownBlock = some i → xa.cell.ownBlock ≠ some i) ∧ xa.cell.ownBlock ≠ some gm :=
  (x.row (R := fun r => .returned (.tuple #[r, .int .i64 E])) (fun G z hG => y G z ⟨LiesAt.left (row_liesK m), fun a e => by obtain rfl := Option.some.inj e; exact .inr (hG gm rfl), by omega⟩)).mono fun e w' ⟨xa, h1, h2, h3, h4, h5, h6, h7⟩ => ⟨xa, h1, h2, h3, m.same (h6 gm rfl), h4, h5, h7 gm rfl⟩
theorem gt_doc {Q : Nat → Prop} (x : GtS W H L B B' C s H L V U p g cc kp LI MI Q u) (hm : Q gm) (m : Mrk C gm cap rs u) (o : u.ownsRow C 3 1 xa.cell xa.l.length (vals xa.l)) (ho : ∀ i, xa.cell.ownBlock = some i → Q i) {f : FuncId} {args : Array Value} {E : Int} {out : List Int}
    (y : HIs B' u p H L U g cc → Calls Tryz.prog f args u fun e w' => ∃ v, e = .returned (.tuple #[v, .int .i64 E]) ∧ HIs B' w' p H L U' g cc ∧ HGo B' g u w' ∧ w'.ownsRow u.heap.size 3 1 v out.length (vals out)) :
    Calls Tryz.prog f args u fun e w' => ∃ xb : IL, xb.l = out ∧ e = .returned (.tuple #[xb.cell, .int .i64 E]) ∧ GtS W H L B B' C s H L V U' p g cc kp LI MI (fun i => Q i ∨ xb.cell.ownBlock = some i) w' ∧ Mrk C gm cap rs w' ∧ w'.ownsRow C 3 1 xa.cell xa.l.length (vals xa.l) ∧ LiesAt w' xb.a (vals xb.l) ∧ (∀ b, xb.a = some b → Q b.block ∨ xb.cell.ownBlock = some b.block) ∧ ∀ i, Q i → xb.cell.ownBlock ≠ some i := by
  refine (y x.d).mono fun e w' ⟨v, h1, h2, h3, h4⟩ => ?_
  obtain ⟨ad, c, rfl⟩ := owns_slice h4
  obtain ⟨z1, z2⟩ := x.go h3 h2
  have hlt : ∀ i, Q i → i < u.heap.size := fun i r => by
    obtain ⟨X, a, q⟩ := x
    exact (a.x i (q i r).1).2
  refine ⟨⟨ad, out, c⟩, rfl, h1, z1.less (fun i r => r.imp id (fun e => ⟨(h4.lt i e).1, (h4.lt i e).2⟩)), m.same (z2 gm hm), hb_same o (fun k hk => z2 k (ho k hk)), row_liesK h4, fun b e => .inr (by subst e; rfl), fun i r e => ?_⟩
  have := (h4.lt i e).1
  have := hlt i r
  omega
theorem gt_keep (x : GtS W H L B B' C s H L V V p g cc kp LI MI (fun i => (i = gm ∨ xa.cell.ownBlock = some i) ∨ xb.cell.ownBlock = some i) u) (m : Mrk C gm cap rs u) (o : u.ownsRow C 3 1 xa.cell xa.l.length (vals xa.l)) (lb : LiesAt u xb.a (vals xb.l)) (hn : xb.l = xa.l ∧ xa.l.length ≤ 1000) (hap : ∀ y ∈ LI, ∀ i, y.cell.ownBlock = some i → xa.cell.ownBlock ≠ some i) (hL : LI.length ≤ 200) (hb : ∀ b, xb.a = some b → xb.cell.ownBlock = some b.block) :
    Calls Tryz.prog 18 #[.pointer (some ⟨kp, 0, none⟩), xa.cell] u fun e w' => e = .returned (.tuple #[]) ∧ ∃ LI2 MI2, LI2.length = LI.length + 1 ∧ GtF W B B' C s H L V p g cc kp LI2 MI2 gm cap rs xa xb w' := by
  refine (x.keep xa o (fun i r => .inl (.inr r)) hap hn.2 hL).mono fun e w' ⟨h1, y, h2, h3, h5⟩ => ⟨h1, LI ++ [xa], MI ++ [y], by simp, ⟨h2.toE, m.same (h3 gm (.inl (.inl rfl))), ?_, ?_, hn⟩⟩
  · obtain ⟨a, c, e1, e2, _⟩ := own_formK (hb_same o (fun k hk => h3 k (.inl (.inr hk))))
    cases e1
    exact e2
  · rw [← hn.1]
    exact lb.of_blocks h5 (fun b e => h3 b.block (.inr (hb b e)))
theorem gt_call (x : GtS W H L B B' C s H L V U p g cc kp LI MI (fun i => i = gm) u) (m : Mrk C gm cap rs u) {f : FuncId} {args : Array Value} {r : Ending} (y : ∀ G, St B G u s H L V → Calls Tryz.prog f args u fun e w' => e = r ∧ St B G w' s H L V' ∧ Below B u w' ∧ KeptG G u w') :
    Calls Tryz.prog f args u fun e w' => e = r ∧ GtS W H L B B' C s H L V' U p g cc kp LI MI (fun i => i = gm) w' ∧ Mrk C gm cap rs w' :=
  (x.call y).mono fun e w' ⟨h1, h2, h3⟩ => ⟨h1, h2, m.same (h3 gm rfl)⟩
theorem gt_go (x : GtS W H L B B' C s H L V U p g cc kp LI MI (fun i => i = gm) u) (m : Mrk C gm cap rs u) {f : FuncId} {args : Array Value} {r : Ending} (y : HIs B' u p H L U g cc → Calls Tryz.prog f args u fun e w' => e = r ∧ HIs B' w' p H L U' g cc ∧ HGo B' g u w') :
    Calls Tryz.prog f args u fun e w' => e = r ∧ GtS W H L B B' C s H L V U' p g cc kp LI MI (fun i => i = gm) w' ∧ Mrk C gm cap rs w' :=
  (y x.d).mono fun e w' ⟨h1, h2, h3⟩ => ⟨h1, (x.go h3 h2).1.less (fun _ r => .inl r), m.same ((x.go h3 h2).2 gm rfl)⟩
theorem gt_fin (x : GtS W H L B B' C s H L V V p g cc kp LI MI (fun i => i = gm) u) (m : Mrk C gm cap rs u) : GtF W B B' C s H L V p g cc kp LI MI gm cap rs ⟨none, [], 0⟩ ⟨none, [], 0⟩ u :=
  ⟨x.toE, m, fun j u hu => (by cases hu), fun j u hu => (by cases hu), rfl, by decide⟩
end
end Go.Proofs.YtiiioeodanmieaaGreatDoor
-- GcTellsC
namespace Go.Proofs.YtiiioeodanmieaaGreatDoor
open Go.RowKit Sec
open Go.Proofs.YtiiioeodanmieaaGreatDoor.Bk

theorem i64_top {x : Int} (h : (Lit.int .i64 x).wf = true) : x ≤ 9223372036854775807 := by
  have h2 : (decide (IntKind.i64.min ≤ x) && decide (x ≤ IntKind.i64.max)) = true := h
  rw [Bool.and_eq_true, decide_eq_true_eq, decide_eq_true_eq] at h2
  exact h2.2
theorem str_few {h l : Int} {W rs : List Int} : (str h l W rs).2.1.length ≤ rs.length := by
  unfold str
  split
  · exact Nat.zero_le _
  split
  · exact Nat.zero_le _
  split
  · split
    · rename_i e
      exact Nat.le_of_eq (regsGo_len _ e)
    · exact Nat.zero_le _
  · exact Nat.zero_le _
theorem alg_few {h l : Int} {W rs : List Int} : (alg h l W rs).2.1.length ≤ rs.length := by
  unfold alg
  split
  · split
    · exact Nat.le_refl _
    · exact Nat.zero_le _
  split
  · split
    · exact str_few
    · exact Nat.zero_le _
  · exact Nat.zero_le _
structure GtM (W : World) (B B' C s H L : Nat) (V U : List Int) (p g cc kp : Nat) (LI MI : List IL) (gm cap : Nat) (rs : List Int) (u : World) : Prop where
  x : GtS W (H : Int) (L : Int) B B' C s H L V U p g cc kp LI MI (fun i => i = gm) u
  m : Mrk C gm cap rs u
structure GtA (W : World) (B B' C s H L : Nat) (V U : List Int) (p g cc kp : Nat) (LI MI : List IL) (gm cap : Nat) (rs out : List Int) (xa : IL) (u : World) : Prop where
  x : GtS W (H : Int) (L : Int) B B' C s H L V U p g cc kp LI MI (fun i => i = gm ∨ xa.cell.ownBlock = some i) u
  m : Mrk C gm cap rs u
  o : u.ownsRow C 3 1 xa.cell xa.l.length (vals xa.l)
  p : ∀ y ∈ LI, ∀ i, y.cell.ownBlock = some i → xa.cell.ownBlock ≠ some i
  l : xa.l = out
structure GtB (W : World) (B B' C s H L : Nat) (V U : List Int) (p g cc kp : Nat) (LI MI : List IL) (gm cap : Nat) (rs : List Int) (xa xb : IL) (u : World) : Prop where
  x : GtS W (H : Int) (L : Int) B B' C s H L V U p g cc kp LI MI (fun i => (i = gm ∨ xa.cell.ownBlock = some i) ∨ xb.cell.ownBlock = some i) u
  m : Mrk C gm cap rs u
  o : u.ownsRow C 3 1 xa.cell xa.l.length (vals xa.l)
  p : ∀ y ∈ LI, ∀ i, y.cell.ownBlock = some i → xa.cell.ownBlock ≠ some i
  b : LiesAt u xb.a (vals xb.l)
  n : xb.l = xa.l ∧ xa.l.length ≤ 1000
section
variable {W : World} {B B' C s H L : Nat} {V V' U U' : List Int} {p g cc kp : Nat} {LI MI : List IL} {gm cap : Nat} {rs out : List Int} {xa xb : IL} {u u' : World} {Q : Nat → Prop}
theorem GtM.nums (x : GtM W B B' C s H L V U p g cc kp LI MI gm cap rs u) : ((V.length : Nat) : Int) = 16 + 2 * (H : Int) ∧ NumC V := by
  obtain ⟨G, y⟩ := x.x.st
  exact ⟨by have := y.len; omega, fun i => y.num i⟩
theorem GtS.away {h l : Int} (x : GtS W h l B B' C s H L V U p g cc kp LI MI Q u) {i : Nat} (q : i < W.heap.size) : i ≠ g := by
  obtain ⟨X, a, _⟩ := x
  have := a.lt
  have := (a.d.o.lt g rfl).1
  omega
theorem gm_keep (x : GtB W B B' C s H L V V p g cc kp LI MI gm cap rs xa xb u) (hL : LI.length ≤ 200) : Calls Tryz.prog 18 #[.pointer (some ⟨kp, 0, none⟩), xa.cell] u fun e w' => e = .returned (.tuple #[]) ∧ ∃ LI2 MI2, LI2.length = LI.length + 1 ∧ GtF W B B' C s H L V p g cc kp LI2 MI2 gm cap rs xa xb w' :=
  gt_keep x.x x.m x.o x.b x.n x.p hL (fun b e => by rw [IL.cell, e]; rfl)
theorem gm_code (hrl : rs.length ≤ 8) {f : FuncId} {E : Int} (y : ∀ u G, St B G u s H L V → Lent B G u (some ⟨gm, 0, none⟩) rs → Calls Tryz.prog f #[.pointer (some ⟨s, 0, none⟩), .slice (some ⟨gm, 0, none⟩) rs.length cap] u fun e w' => ∃ r, e = .returned (.tuple #[r, .int .i64 E]) ∧ St B (fun k => G k ∨ r.ownBlock = some k) w' s H L V' ∧ Below B u w' ∧ KeptG G u w' ∧ w'.ownsRow u.heap.size 3 1 r out.length (vals out)) :
    ∀ u, GtM W B B' C s H L V U p g cc kp LI MI gm cap rs u → Calls Tryz.prog f #[.pointer (some ⟨s, 0, none⟩), .slice (some ⟨gm, 0, none⟩) rs.length cap] u fun e w' => ∃ xa : IL, e = .returned (.tuple #[xa.cell, .int .i64 E]) ∧ GtA W B B' C s H L V' U p g cc kp LI MI gm cap rs out xa w' := fun u x =>
  (gt_code x.x x.m hrl (y u)).mono fun _ _ ⟨xa, h1, h2, h3, h4, h5, h6, _⟩ => ⟨xa, h2, h3, h4, h5, h6, h1⟩
theorem gm_doc (hrl : rs.length ≤ 8) (hol : out.length ≤ rs.length) {f : FuncId} {args : Array Value} {E : Int} {q2 : Option Addr} (hq : LiesAt W q2 (vals rs)) (hb : ∀ x : Addr, q2 = some x → x.block < W.heap.size ∨ rs = [])
    (y : ∀ u, HIs B' u p H L U g cc → LiesAt u q2 (vals rs) → (∀ x : Addr, q2 = some x → x.block ≠ g ∨ rs = []) → Calls Tryz.prog f args u fun e w' => ∃ v, e = .returned (.tuple #[v, .int .i64 E]) ∧ HIs B' w' p H L U' g cc ∧ HGo B' g u w' ∧ w'.ownsRow u.heap.size 3 1 v out.length (vals out)) :
    ∀ xa u, GtA W B B' C s H L V U p g cc kp LI MI gm cap rs out xa u → Calls Tryz.prog f args u fun e w' => ∃ xb : IL, e = .returned (.tuple #[xb.cell, .int .i64 E]) ∧ GtB W B B' C s H L V U' p g cc kp LI MI gm cap rs xa xb w' := fun xa u x =>
  (gt_doc x.x (.inl rfl) x.m x.o (fun i r => .inr r) (fun d => y u d (hq.below x.x.b) (fun a e => (hb a e).imp (fun z => x.x.away z) id))).mono fun _ _ ⟨xb, h1, h2, h3, h4, h5, h6, _, _⟩ => ⟨xb, h2, h3, h4, h5, x.p, h6, h1.trans x.l.symm, by rw [x.l]; omega⟩
theorem gm_start (hV : ((V.length : Nat) : Int) = 16 + 2 * (H : Int)) (hn : NumC V) (hrl : rs.length ≤ 8) (q2 : Option Addr) (m2 : Nat) (hq : LiesAt W q2 (vals rs)) (hb : ∀ x : Addr, q2 = some x → x.block < W.heap.size ∨ rs = []) : ∃ (E : Int) (out V2 : List Int),
    (∀ u, GtM W B B' C s H L V V p g cc kp LI MI gm cap rs u → Calls Tryz.prog 16 #[.pointer (some ⟨s, 0, none⟩), .slice (some ⟨gm, 0, none⟩) rs.length cap] u fun e w' => ∃ xa : IL, e = .returned (.tuple #[xa.cell, .int .i64 E]) ∧ GtA W B B' C s H L V2 V p g cc kp LI MI gm cap rs out xa w') ∧
    (∀ xa u, GtA W B B' C s H L V2 V p g cc kp LI MI gm cap rs out xa u → Calls Tryz.prog 17 #[.pointer (some ⟨p, 0, none⟩), .slice q2 rs.length m2] u fun e w' => ∃ xb : IL, e = .returned (.tuple #[xb.cell, .int .i64 E]) ∧ GtB W B B' C s H L V2 V2 p g cc kp LI MI gm cap rs xa xb w') :=
  ⟨_, _, _, gm_code hrl (fun _ _ z y => gStart_is z _ rs cap y), gm_doc hrl str_few hq hb (fun _ d y z => rstart_is d hV hn q2 rs m2 y z (by omega))⟩
theorem gm_all (hV : ((V.length : Nat) : Int) = 16 + 2 * (H : Int)) (hn : NumC V) (hrl : rs.length ≤ 8) (q2 : Option Addr) (m2 : Nat) (hq : LiesAt W q2 (vals rs)) (hb : ∀ x : Addr, q2 = some x → x.block < W.heap.size ∨ rs = []) : ∃ (E : Int) (out V2 : List Int),
    (∀ u, GtM W B B' C s H L V V p g cc kp LI MI gm cap rs u → Calls Tryz.prog 21 #[.pointer (some ⟨s, 0, none⟩), .slice (some ⟨gm, 0, none⟩) rs.length cap] u fun e w' => ∃ xa : IL, e = .returned (.tuple #[xa.cell, .int .i64 E]) ∧ GtA W B B' C s H L V2 V p g cc kp LI MI gm cap rs out xa w') ∧
    (∀ xa u, GtA W B B' C s H L V2 V p g cc kp LI MI gm cap rs out xa u → Calls Tryz.prog 22 #[.pointer (some ⟨p, 0, none⟩), .slice q2 rs.length m2] u fun e w' => ∃ xb : IL, e = .returned (.tuple #[xb.cell, .int .i64 E]) ∧ GtB W B B' C s H L V2 V2 p g cc kp LI MI gm cap rs xa xb w') :=
  ⟨_, _, _, gm_code hrl (fun _ _ z y => gAll_is z _ rs cap y (fun e => nomatch e)), gm_doc hrl alg_few hq hb (fun _ d y z => dall_is d hV hn (fun r => str_num hV hn r) q2 rs m2 y z (by omega))⟩
theorem gm_step (hV : ((V.length : Nat) : Int) = 16 + 2 * (H : Int)) (hn : NumC V) (n : Int) (hnm : n ≤ 9223372036854775807) : ∃ (E : Int) (b : Bool) (V2 : List Int),
    (∀ u, GtM W B B' C s H L V V p g cc kp LI MI gm cap rs u → Calls Tryz.prog 19 #[.pointer (some ⟨s, 0, none⟩), .int .i64 n] u fun e w' => e = .returned (.tuple #[.bool b, .int .i64 E]) ∧ GtM W B B' C s H L V2 V p g cc kp LI MI gm cap rs w') ∧
    (∀ u, GtM W B B' C s H L V2 V p g cc kp LI MI gm cap rs u → Calls Tryz.prog 20 #[.pointer (some ⟨p, 0, none⟩), .int .i64 n] u fun e w' => e = .returned (.tuple #[.bool b, .int .i64 E]) ∧ GtM W B B' C s H L V2 V2 p g cc kp LI MI gm cap rs w') :=
  ⟨_, _, _, fun _ x => (gt_call x.x x.m (fun _ y => gStep_is y n hnm)).mono fun _ _ ⟨h1, h2, h3⟩ => ⟨h1, h2, h3⟩, fun _ x => (gt_go x.x x.m (fun d => rstep_is d hV hn n hnm)).mono fun _ _ ⟨h1, h2, h3⟩ => ⟨h1, h2, h3⟩⟩
theorem gm_root (hV : ((V.length : Nat) : Int) = 16 + 2 * (H : Int)) (hn : NumC V) (n : Int) : ∃ (E z : Int) (V2 : List Int),
    (∀ u, GtM W B B' C s H L V V p g cc kp LI MI gm cap rs u → Calls Tryz.prog 23 #[.pointer (some ⟨s, 0, none⟩), .int .i64 n] u fun e w' => e = .returned (.tuple #[.int .i64 z, .int .i64 E]) ∧ GtM W B B' C s H L V2 V p g cc kp LI MI gm cap rs w') ∧
    (∀ u, GtM W B B' C s H L V2 V p g cc kp LI MI gm cap rs u → Calls Tryz.prog 24 #[.pointer (some ⟨p, 0, none⟩), .int .i64 n] u fun e w' => e = .returned (.tuple #[.int .i64 z, .int .i64 E]) ∧ GtM W B B' C s H L V2 V2 p g cc kp LI MI gm cap rs w') :=
  ⟨_, _, _, fun _ x => (gt_call x.x x.m (fun _ y => fRoot_is y n)).mono fun _ _ ⟨h1, h2, h3⟩ => ⟨h1, h2, h3⟩, fun _ x => (gt_go x.x x.m (fun d => rroot_is d hV hn.ints n)).mono fun _ _ ⟨h1, h2, h3⟩ => ⟨h1, h2, h3⟩⟩
theorem gm_new (hV : ((V.length : Nat) : Int) = 16 + 2 * (H : Int)) (n : Int) : ∃ (E z : Int) (V2 : List Int),
    (∀ u, GtM W B B' C s H L V V p g cc kp LI MI gm cap rs u → Calls Tryz.prog 25 #[.pointer (some ⟨s, 0, none⟩), .int .i64 n, .int .i64 1] u fun e w' => e = .returned (.tuple #[.int .i64 z, .int .i64 E]) ∧ GtM W B B' C s H L V2 V p g cc kp LI MI gm cap rs w') ∧
    (∀ u, GtM W B B' C s H L V2 V p g cc kp LI MI gm cap rs u → Calls Tryz.prog 26 #[.pointer (some ⟨p, 0, none⟩), .int .i64 n, .int .i64 1] u fun e w' => e = .returned (.tuple #[.int .i64 z, .int .i64 E]) ∧ GtM W B B' C s H L V2 V2 p g cc kp LI MI gm cap rs w') :=
  ⟨_, _, _, fun _ x => (gt_call x.x x.m (fun _ y => anew_st y n 1)).mono fun _ _ ⟨h1, h2, h3⟩ => ⟨h1, h2, h3⟩, fun _ x => (gt_go x.x x.m (fun d => rnew_is d hV n 1)).mono fun _ _ ⟨h1, h2, h3⟩ => ⟨h1, h2, h3⟩⟩
theorem gm_set (hV : ((V.length : Nat) : Int) = 16 + 2 * (H : Int)) (n a : Int) : ∃ (E : Int) (V2 : List Int),
    (∀ u, GtM W B B' C s H L V V p g cc kp LI MI gm cap rs u → Calls Tryz.prog 27 #[.pointer (some ⟨s, 0, none⟩), .int .i64 n, .int .i64 a] u fun e w' => e = .returned (.int .i64 E) ∧ GtM W B B' C s H L V2 V p g cc kp LI MI gm cap rs w') ∧
    (∀ u, GtM W B B' C s H L V2 V p g cc kp LI MI gm cap rs u → Calls Tryz.prog 28 #[.pointer (some ⟨p, 0, none⟩), .int .i64 n, .int .i64 a] u fun e w' => e = .returned (.int .i64 E) ∧ GtM W B B' C s H L V2 V2 p g cc kp LI MI gm cap rs w') :=
  ⟨_, _, fun _ x => (gt_call x.x x.m (fun _ y => fSetRoot_is y n a)).mono fun _ _ ⟨h1, h2, h3⟩ => ⟨h1, h2, h3⟩, fun _ x => (gt_go x.x x.m (fun d => rsetroot_is d hV n a)).mono fun _ _ ⟨h1, h2, h3⟩ => ⟨h1, h2, h3⟩⟩
theorem gm_fin (x : GtM W B B' C s H L V V p g cc kp LI MI gm cap rs u) : GtF W B B' C s H L V p g cc kp LI MI gm cap rs ⟨none, [], 0⟩ ⟨none, [], 0⟩ u := gt_fin x.x x.m
end
end Go.Proofs.YtiiioeodanmieaaGreatDoor
