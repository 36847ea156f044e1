/- GcTwice answers true whatever the input, and leaves its arguments as they were. The variable errors.errorType holds what the program's text lays (the card ties it). -/
import Derived.Test.YtbghglkplbnnkaaGreatDoorRows
import Derived.ChangeMaps5
import Derived.Test.YtbghglkplbnnkaaGreatDoorYLawT
import Derived.Test.YtbghglkplbnnkaaGreatDoorYGcTwice
import Derived.Test.YtbghglkplbnnkaaGreatDoorYOpenA
import Derived.Test.YtbghglkplbnnkaaGreatDoorYGraphA
set_option linter.unusedVariables false
set_option linter.unusedSimpArgs false
namespace Go.Proofs.YtbghglkplbnnkaaGreatDoor
set_option maxRecDepth 100000 in
theorem gcTwice_joined : joinedFacts Tryz.pinned.checked.prog 5 Tryz.f5 Rows.gcTwiceSpec Rows.gcTwiceRow = true := by kernel_rfl
open Go.ChangeShapes Go.WideShapes Go.ChangeAt Go.RowKit
open Go.ChangeMaps (open_string)

set_option maxRecDepth 100000 in
theorem gcTwice_lifted (os : Os) (started : os.Started) (H : Type) (enc : TypeId × Value → H) :
    ReturnsInHanded {} Tryz.checked os 5 .any (fun w args => (Rows.gcTwiceSpec.pre enc Tryz.prog Tryz.f5 Rows.gcTwiceRow.domain false w args ∧ laidMetH Tryz.prog laidE w) ∧ sizedMet enc Tryz.prog Tryz.f5 (OpenSpec.ofChange Rows.gcTwiceSpec) false w args) (Rows.gcTwiceSpec.post enc Tryz.prog Tryz.f5 false true false false) := by
  refine returnsInHanded_of_change_and (C := Tryz.checked) (X := fun w _ => laidMetH Tryz.prog laidE w) (fun _ _ _ hh h => h.of_heap hh) Tryz.ownK started (by kernel_rfl) Tryz.func5
    (ChangeSpec.witness_at (enc := enc) (C := Tryz.checked) (os := os) (X := fun w _ => laidMetH Tryz.prog laidE w) false (laidWorld os) #[.agg #[.int .i64 0, .int .i64 0], .agg #[.slice none 0 0, .slice none 0 0]] 8 rfl (by kernel_rfl) (by kernel_rfl) (by kernel_rfl) (by kernel_rfl) (by kernel_rfl) (laidWorld_met os _)) ?_
  intro W base args ds gs before hval0 hW hcnd _ hLaid _
  have ht : TyOk W.heap.size W := ⟨errTy_of_laid hLaid, errTy_lt (errTy_of_laid hLaid)⟩
  have hval : ∀ (j : Nat) t v, Tryz.f5.params[j]? = some t → args[j]? = some v → Value.okWide Tryz.prog W .any base t v := hval0
  have hW' := hW
  obtain ⟨p, q, hA0, hV, rfl, hfz, hnd⟩ := hW
  have hA : DataW.TrodAll enc Tryz.prog W 0 (fun _ => true) true Tryz.f5.params.toList args.toList ds p := hA0
  rw [Tryz.params5] at hA hval
  obtain ⟨v0, vs0, d0, ds0, p0, q0, hargs, rfl, rfl, h0, r0⟩ := trodAll_cons hA
  obtain ⟨v1, vs1, d1, ds1, p1, q1, rfl, rfl, rfl, h1, r1⟩ := trodAll_cons r0
  obtain ⟨rfl, rfl, rfl⟩ := trodAll_nil r1
  obtain rfl : args = #[v0, v1] := by cases args; simp_all
  obtain ⟨rfl, rfl⟩ := trodVars_none hV
  obtain ⟨x0, y0, rfl⟩ := open_geo (hval 0 23 v0 rfl rfl) h0
  obtain ⟨x1, rfl, l1⟩ := open_graph (hval 1 27 v1 rfl rfl) h1
  have walk : Calls Tryz.prog 5 #[.agg #[.int .i64 x0, .int .i64 y0], x1.val] W fun e w' => e = .returned (.bool true) ∧ Below W.heap.size W w' := Twice_walk ht x0 y0 x1 l1
  refine walk.mono fun e W' ⟨he, hbl⟩ => ⟨_, he, ?_⟩
  exact law_post (tb := 4) Tryz.laidOutK (by rw [Tryz.params5]; intro t ht; simp at ht; rcases ht with rfl | rfl <;> exact ⟨by kernel_rfl, of_decide_eq_true (by kernel_rfl)⟩) rfl (by kernel_rfl) Tryz.underlying4 hW' ⟨rfl, rfl, rfl⟩ hbl

theorem gcTwice_holds : Rows.GcTwiceSaid :=
  OpenClaim.holds_of_wide 5 Tryz.f5 rfl rfl rfl rfl rfl rfl rfl ⟨rfl, rfl, rfl, rfl, rfl⟩ rfl rfl rfl rfl rfl (by kernel_rfl) Tryz.func5 gcTwice_joined
    (of_decide_eq_true (by kernel_rfl)) (by unfold Func.isWrapper; first | (rw [if_pos (by decide +kernel)]; kernel_rfl) | (rw [if_neg (by decide +kernel)]; exact ⟨rfl, rfl⟩))
    (fun os started H enc _ => gcTwice_lifted os started H enc)

theorem gcTwice_card : Rows.GcTwiceCardSaid :=
  Claim7.holds_tied_plain_at .later [] [.handle] true Rows.gcTwiceCard.stood.harness true
    gcTwice_holds (fun _ h => by cases h) (by kernel_rfl) (fun _ h => by cases h) gcTwice_row_tie rfl ⟨rfl, rfl⟩ (by kernel_rfl) rfl
    (fun f fn hf hfn => by
      obtain rfl : f = 5 := Option.some.inj ((show Tryz.prog.funcNamed "flitting/flittinglaw15.GcTwice" = some 5 by kernel_rfl).symm.trans hf) |>.symm
      obtain rfl : fn = Tryz.f5 := (Option.some.inj (Tryz.func5.symm.trans hfn)).symm
      refine ⟨by kernel_rfl, fun j t ht => ?_⟩
      have hm := Array.mem_of_getElem? ht
      rw [Tryz.params5] at hm
      simp at hm
      rcases hm with rfl | rfl <;> (show Tryz.prog.wantsStandIn _ = false; kernel_rfl))
    (by kernel_rfl)
end Go.Proofs.YtbghglkplbnnkaaGreatDoor
