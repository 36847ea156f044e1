/- SectorPlays' ops as data, and where they lie; the walk where there is too much. -/
import Derived.Test.YtobgcengijnffaaSecInv
import Derived.Test.YtobgcengijnffaaSecOrderP
namespace Go.Proofs.Ytobgcengijnffaa
open Go.RowKit

/-- An op, as data. -/
structure OpV where
  kind : Int
  k : Int
  b : ByteArray
  full : Bool
  ka : Option Addr
  kl : List Int
  kc : Nat
def OpV.cells (o : OpV) : List Value := [.int .i64 o.kind, .int .i64 o.k, .string o.b, .bool o.full, .slice o.ka o.kl.length o.kc]
/-- Ops that lie below the disks. -/
def OpsAt (B : Nat) (w : World) (a : Option Addr) (l : List OpV) : Prop :=
  ∀ i o, l[i]? = some o → ∃ g f : Nat, a = some ⟨g, f, none⟩ ∧ g < B ∧ w.rangeAt g (f + i * 5) o.cells ∧ Low B w o.ka o.kl ∧ o.k < 2 ^ 63 ∧ o.b.size ≤ maxLen
theorem OpsAt.below {B : Nat} {w w' : World} {a : Option Addr} {l : List OpV} (h : OpsAt B w a l) (b : Below B w w') : OpsAt B w' a l := fun i o ho => by
  obtain ⟨g, f, h1, h2, h3, h4, h5⟩ := h i o ho
  exact ⟨g, f, h1, h2, rangeAt_of_block (b.block _ h2) h3, h4.below b, h5⟩

set_option maxRecDepth 100000 in
set_option maxHeartbeats 1000000 in
theorem Plays_much (n : Int) (n2 : Nat) (a2 : Option Addr) (c2 : Nat) (w : World) (h : 40 < n ∨ 60 < n2) (m2 : n2 ≤ maxLen) :
    Calls Try.prog 3 #[.int .i64 n, .slice a2 n2 c2] w fun e w' => e = .returned (.bool true) ∧ Below w.heap.size w w' := by
  unfold maxLen at m2
  by_cases h1 : 40 < n
  · clear h
    go_enter Try.func3, Try.ntmps3
    go_wp2_with (go_at_call 8; refine (alive_is _).mono ?_; rintro e w1 ⟨rfl, b1⟩)
    go_ret
    exact ⟨rfl, b1⟩
  · have h2 : (60 : Int) < (n2 : Int) := by omega
    clear h
    go_enter Try.func3, Try.ntmps3
    go_wp2_with (go_at_call 8; refine (alive_is _).mono ?_; rintro e w1 ⟨rfl, b1⟩)
    go_ret
    exact ⟨rfl, b1⟩

end Go.Proofs.Ytobgcengijnffaa
