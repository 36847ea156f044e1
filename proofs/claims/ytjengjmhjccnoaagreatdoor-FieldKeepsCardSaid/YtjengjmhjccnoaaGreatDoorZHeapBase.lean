/- What the texts of the document's heap want of the store's (so that they build where no store is reached). -/
import Derived.Deep.RegionHeld3
import Derived.Test.YtjengjmhjccnoaaGreatDoorZBook
set_option linter.unusedVariables false
set_option linter.unusedSimpArgs false
namespace Go.Proofs.YtjengjmhjccnoaaGreatDoor.Sec
end Go.Proofs.YtjengjmhjccnoaaGreatDoor.Sec
namespace Go.Proofs.YtjengjmhjccnoaaGreatDoor
open Go.RowKit
open Go.Proofs.YtjengjmhjccnoaaGreatDoor.Bk

theorem hb_same {w w' : World} {base : Nat} {e : TypeId} {k n : Nat} {v : Value} {xs : List Value} (h : w.ownsRow base e k v n xs) (hb : ∀ g, v.ownBlock = some g → w'.heap[g]? = w.heap[g]?) : w'.ownsRow base e k v n xs := by
  refine ⟨h.1, ?_⟩
  rcases h.2 with q | ⟨g, cap, cur, hv, hg, hh, r⟩
  · exact .inl q
  · exact .inr ⟨g, cap, cur, hv, hg, (hb g (by rw [hv]; rfl)).trans hh, r⟩
theorem hb_vals {l : List Int} {k : Nat} (h : k < l.length) : (vals l)[k]? = some (.int .i64 (l.getD k 0)) := by simp [vals, h]
theorem hb_results4 {fn : Func} {t u v x : Tmp} (h : fn.results = #[.tmp t, .tmp u, .tmp v, .tmp x]) (tmps : Array Value) (P : Program) (w : World) :
    (results fn tmps).run P w = .ok (.tuple #[tmps.getD t undef, tmps.getD u undef, tmps.getD v undef, tmps.getD x undef]) w := by
  simp [results, h]
def hbNum (x : Int) : Bool := decide (0 ≤ x ∧ x < 4294967296)
end Go.Proofs.YtjengjmhjccnoaaGreatDoor
