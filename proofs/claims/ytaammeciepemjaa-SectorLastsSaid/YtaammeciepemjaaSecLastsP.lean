/- SectorLasts answers true whatever the input, and leaves its arguments as they were. No condition. -/
import Derived.Test.YtaammeciepemjaaRows
import Derived.Test.YtaammeciepemjaaSecOpen
import Derived.Test.YtaammeciepemjaaSecLasts
namespace Go.Proofs.Ytaammeciepemjaa
open Go.ChangeShapes Go.WideShapes Go.ChangeAt Go.RowKit

set_option maxRecDepth 100000 in
theorem sectorLasts_lifted (os : Os) (started : os.Started) (H : Type) (enc : TypeId × Value → H) :
    ReturnsInHanded {} Try.checked os 4 .any (Rows.sectorLastsSpec.pre6 enc Try.prog Try.f4 Rows.sectorLastsRow.domain false) (Rows.sectorLastsSpec.post enc Try.prog Try.f4 false true false false) := by
  refine returnsInHanded_of_change (C := Try.checked) Try.ownK started (by kernel_rfl) Try.func4
    (ChangeSpec.witness6 (enc := enc) (C := Try.checked) false ⟨#[], #[.slice none 0 0, .slice none 0 0, .slice none 0 0], []⟩ 8 (by kernel_rfl) (by kernel_rfl) (by kernel_rfl) (by kernel_rfl)) ?_
  intro W base args ds gs before hval0 hW hcnd _
  have hval : ∀ (j : Nat) t v, Try.f4.params[j]? = some t → args[j]? = some v → Value.okWide Try.prog W .any base t v := hval0
  have hW' := hW
  obtain ⟨p, q, hA0, hV, rfl, hfz, hnd⟩ := hW
  have hA : DataW.TrodAll enc Try.prog W 0 (fun _ => true) true Try.f4.params.toList args.toList ds p := hA0
  rw [Try.params4] at hA hval
  obtain ⟨v0, v1, v2, d0, d1, d2, p0, p1, p2, rfl, rfl, rfl, h0, h1, h2⟩ := trodAll_three hA
  obtain ⟨rfl, rfl⟩ := trodVars_none hV
  obtain ⟨a0, n0, c0, rfl⟩ := okWide_slice Try.underlying46 (hval 0 46 v0 rfl rfl)
  obtain ⟨a1, n1, c1, rfl⟩ := okWide_slice Try.underlying46 (hval 1 46 v1 rfl rfl)
  obtain ⟨a2, n2, c2, rfl⟩ := okWide_slice Try.underlying29 (hval 2 29 v2 rfl rfl)
  obtain ⟨l, rfl, hl, hls, hlm⟩ := open_strsAt Try.underlying46 Try.underlying9 cellsStr h0
  obtain ⟨b, rfl, hb, hbs, hbm⟩ := open_strsAt Try.underlying46 Try.underlying9 cellsStr h1
  obtain ⟨kl, rfl, hk, hkm⟩ := open_intsAt Try.underlying29 Try.underlying3 cellsInt h2
  have walk : Calls Try.prog 4 #[.slice a0 l.length c0, .slice a1 b.length c1, .slice a2 kl.length c2] W fun e w' => e = .returned (.bool true) ∧ Below W.heap.size W w' := by
    by_cases hm : 20 < l.length ∨ 20 < b.length ∨ 40 < kl.length
    · exact Lasts_much _ _ _ a0 a1 a2 c0 c1 c2 W hm hlm hbm hkm
    · exact Lasts_walk l b kl a0 a1 a2 c0 c1 c2 W hl hb hk hls hbs (by omega) (by omega) (by omega)
  refine walk.mono fun e W' ⟨he, hbl⟩ => ⟨_, he, ?_⟩
  exact law_post (tb := 4) Try.laidOutK (by rw [Try.params4]; intro t ht; simp at ht; rcases ht with rfl | rfl | rfl <;> exact ⟨by kernel_rfl, of_decide_eq_true (by kernel_rfl)⟩) rfl (by kernel_rfl) Try.underlying4 hW' ⟨rfl, rfl, rfl⟩ hbl

theorem sectorLasts_holds : Rows.SectorLastsSaid :=
  OpenClaim.holds_of_wide 4 Try.f4 rfl rfl rfl rfl rfl rfl rfl ⟨rfl, rfl, rfl, rfl, rfl⟩ rfl rfl rfl rfl rfl (by kernel_rfl) Try.func4 (by kernel_rfl)
    (of_decide_eq_true (by kernel_rfl)) (by unfold Func.isWrapper; first | (rw [if_pos (by decide +kernel)]; kernel_rfl) | (rw [if_neg (by decide +kernel)]; exact ⟨rfl, rfl⟩))
    (fun os started H enc _ => sectorLasts_lifted os started H enc)
end Go.Proofs.Ytaammeciepemjaa
