/- GcTells answers true whatever the input, and leaves its arguments as they were. The variable errors.errorType holds what the program's text lays (the card ties it). -/
import Derived.Test.YtiiioeodanmieaaGreatDoorRows
import Derived.ChangeMaps5
import Derived.Test.YtiiioeodanmieaaGreatDoorYLawT
import Derived.Test.YtiiioeodanmieaaGreatDoorYGcTells
import Derived.Test.YtiiioeodanmieaaGreatDoorYOpenA
set_option linter.unusedVariables false
set_option linter.unusedSimpArgs false
namespace Go.Proofs.YtiiioeodanmieaaGreatDoor
set_option maxRecDepth 100000 in
theorem gcTells_joined : joinedFacts Tryz.pinned.checked.prog 3 Tryz.f3 Rows.gcTellsSpec Rows.gcTellsRow = true := by kernel_rfl
open Go.ChangeShapes Go.WideShapes Go.ChangeAt Go.RowKit
open Go.ChangeMaps (open_string)

set_option maxRecDepth 100000 in
theorem gcTells_lifted (os : Os) (started : os.Started) (H : Type) (enc : TypeId × Value → H) :
    ReturnsInHanded {} Tryz.checked os 3 .any (fun w args => (Rows.gcTellsSpec.pre enc Tryz.prog Tryz.f3 Rows.gcTellsRow.domain false w args ∧ laidMetH Tryz.prog laidE w) ∧ sizedMet enc Tryz.prog Tryz.f3 (OpenSpec.ofChange Rows.gcTellsSpec) false w args) (Rows.gcTellsSpec.post enc Tryz.prog Tryz.f3 false true false false) := by
  refine returnsInHanded_of_change_and (C := Tryz.checked) (X := fun w _ => laidMetH Tryz.prog laidE w) (fun _ _ _ hh h => h.of_heap hh) Tryz.ownK started (by kernel_rfl) Tryz.func3
    (ChangeSpec.witness_at (enc := enc) (C := Tryz.checked) (os := os) (X := fun w _ => laidMetH Tryz.prog laidE w) false (laidWorld os) #[.agg #[.int .i64 0, .int .i64 0], .slice none 0 0, .slice none 0 0, .slice none 0 0] 8 rfl (by kernel_rfl) (by kernel_rfl) (by kernel_rfl) (by kernel_rfl) (by kernel_rfl) (laidWorld_met os _)) ?_
  intro W base args ds gs before hval0 hW hcnd _ hLaid _
  have ht : TyOk W.heap.size W := ⟨errTy_of_laid hLaid, errTy_lt (errTy_of_laid hLaid)⟩
  have hval : ∀ (j : Nat) t v, Tryz.f3.params[j]? = some t → args[j]? = some v → Value.okWide Tryz.prog W .any base t v := hval0
  have hW' := hW
  obtain ⟨p, q, hA0, hV, rfl, hfz, hnd⟩ := hW
  have hA : DataW.TrodAll enc Tryz.prog W 0 (fun _ => true) true Tryz.f3.params.toList args.toList ds p := hA0
  rw [Tryz.params3] at hA hval
  obtain ⟨v0, vs0, d0, ds0, p0, q0, hargs, rfl, rfl, h0, r0⟩ := trodAll_cons hA
  obtain ⟨v1, vs1, d1, ds1, p1, q1, rfl, rfl, rfl, h1, r1⟩ := trodAll_cons r0
  obtain ⟨v2, vs2, d2, ds2, p2, q2, rfl, rfl, rfl, h2, r2⟩ := trodAll_cons r1
  obtain ⟨v3, vs3, d3, ds3, p3, q3, rfl, rfl, rfl, h3, r3⟩ := trodAll_cons r2
  obtain ⟨rfl, rfl, rfl⟩ := trodAll_nil r3
  obtain rfl : args = #[v0, v1, v2, v3] := by cases args; simp_all
  obtain ⟨rfl, rfl⟩ := trodVars_none hV
  obtain ⟨x0, y0, rfl⟩ := open_geo (hval 0 23 v0 rfl rfl) h0
  obtain ⟨a1, n1, c1, rfl⟩ := okWide_slice Tryz.underlying24 (hval 1 24 v1 rfl rfl)
  obtain ⟨x1, rfl, l1, m1, k1⟩ := open_chgsAt h1
  obtain ⟨a2, n2, c2, rfl⟩ := okWide_slice Tryz.underlying25 (hval 2 25 v2 rfl rfl)
  obtain ⟨x2, rfl, l2, w2, m2⟩ := Bk.open_intsAt Tryz.underlying25 Tryz.underlying3 Bk.cellsInt h2
  obtain ⟨a3, n3, c3, rfl⟩ := okWide_slice Tryz.underlying26 (hval 3 26 v3 rfl rfl)
  obtain ⟨x3, rfl, l3, m3, w3⟩ := open_gcopsAt h3
  have walk : Calls Tryz.prog 3 #[.agg #[.int .i64 x0, .int .i64 y0], .slice a1 x1.length c1, .slice a2 x2.length c2, .slice a3 x3.length c3] W fun e w' => e = .returned (.bool true) ∧ Below W.heap.size W w' := GTells_walk ht x0 y0 a1 x1 c1 l1 (by have := m1; unfold maxLen at this; omega) a2 x2 c2 l2 (by have := m2; unfold maxLen at this; omega) a3 x3 c3 l3 w3 (by have := m3; unfold maxLen at this; omega)
  refine walk.mono fun e W' ⟨he, hbl⟩ => ⟨_, he, ?_⟩
  exact law_post (tb := 4) Tryz.laidOutK (by rw [Tryz.params3]; intro t ht; simp at ht; rcases ht with rfl | rfl | rfl | rfl <;> exact ⟨by kernel_rfl, of_decide_eq_true (by kernel_rfl)⟩) rfl (by kernel_rfl) Tryz.underlying4 hW' ⟨rfl, rfl, rfl⟩ hbl

theorem gcTells_holds : Rows.GcTellsSaid :=
  OpenClaim.holds_of_wide 3 Tryz.f3 rfl rfl rfl rfl rfl rfl rfl ⟨rfl, rfl, rfl, rfl, rfl⟩ rfl rfl rfl rfl rfl (by kernel_rfl) Tryz.func3 gcTells_joined
    (of_decide_eq_true (by kernel_rfl)) (by unfold Func.isWrapper; first | (rw [if_pos (by decide +kernel)]; kernel_rfl) | (rw [if_neg (by decide +kernel)]; exact ⟨rfl, rfl⟩))
    (fun os started H enc _ => gcTells_lifted os started H enc)

theorem gcTells_card : Rows.GcTellsCardSaid :=
  Claim7.holds_tied_plain_at .later [] [.handle] true Rows.gcTellsCard.stood.harness true
    gcTells_holds (fun _ h => by cases h) (by kernel_rfl) (fun _ h => by cases h) gcTells_row_tie rfl ⟨rfl, rfl⟩ (by kernel_rfl) rfl
    (fun f fn hf hfn => by
      obtain rfl : f = 3 := Option.some.inj ((show Tryz.prog.funcNamed "flitting/flittinglaw15.GcTells" = some 3 by kernel_rfl).symm.trans hf) |>.symm
      obtain rfl : fn = Tryz.f3 := (Option.some.inj (Tryz.func3.symm.trans hfn)).symm
      refine ⟨by kernel_rfl, fun j t ht => ?_⟩
      have hm := Array.mem_of_getElem? ht
      rw [Tryz.params3] at hm
      simp at hm
      rcases hm with rfl | rfl | rfl | rfl <;> (show Tryz.prog.wantsStandIn _ = false; kernel_rfl))
    (by kernel_rfl)
end Go.Proofs.YtiiioeodanmieaaGreatDoor
