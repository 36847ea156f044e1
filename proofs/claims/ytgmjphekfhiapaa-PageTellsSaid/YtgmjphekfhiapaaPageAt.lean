/- Package page: At. -/
import Derived.Test.YtgmjphekfhiapaaPageGet
namespace Go.Proofs.Ytgmjphekfhiapaa
open Go.RowKit
open Go.Proofs.Ytgmjphekfhiapaa.Bk

def atIs (no v : Int) (l : List ByteArray) : Bool := decide (pgIs l = true ∧ getN l = no ∧ getV l = v)
def atC (no v : Int) (l : List ByteArray) : List Int := if atIs no v l = true then getC l else []
theorem at_no {no v : Int} {l : List ByteArray} (h : ¬ (pgIs l = true ∧ getN l = no ∧ getV l = v)) : atIs no v l = false ∧ atC no v l = [] := by
  have e : atIs no v l = false := decide_eq_false h
  exact ⟨e, if_neg (by rw [e]; decide)⟩
theorem at_yes {no v : Int} {l : List ByteArray} (h : pgIs l = true ∧ getN l = no ∧ getV l = v) : atIs no v l = true ∧ atC no v l = getC l := by
  have e : atIs no v l = true := decide_eq_true h
  exact ⟨e, if_pos e⟩
set_option maxRecDepth 100000 in
set_option maxHeartbeats 1000000 in
theorem pat_is (no v : Int) (a : Option Addr) (l : List ByteArray) (c : Nat) (w : World) (h : LiesAt w a (txts l)) (hl : l.length ≤ maxLen) (hf : l.length = 3 → 3 ≤ c ∧ ∃ g o, a = some ⟨g, o, none⟩) :
    Calls Try.prog 15 #[.int .i64 no, .int .i64 v, .slice a l.length c] w fun e w' => ∃ x, e = .returned (.tuple #[x, .bool (atIs no v l)]) ∧ Below w.heap.size w w' ∧ w'.ownsRow w.heap.size 3 1 x (atC no v l).length (vals (atC no v l)) := by
  have HG := Lib.hid (pget_is a l c w h hl hf)
  clear h hl hf
  by_cases hi : pgIs l = true
  · by_cases h1 : getN l = no
    · by_cases h2 : getV l = v
      · obtain ⟨e1, e2⟩ := at_yes ⟨hi, h1, h2⟩
        rw [e1, e2]
        rw [hi, h1, h2] at HG
        clear e1 e2 hi h1 h2
        generalize getC l = cs at *
        go_enter Try.func15, Try.ntmps15
        go_wp2_with (go_at_call 12; refine HG.out.mono ?_; rintro e w1 ⟨x, rfl, b1, o1⟩; replace HG := Lib.hid (And.intro b1 o1); clear b1 o1)
        go_ret2
        exact ⟨_, rfl, HG.out.1, HG.out.2⟩
      · obtain ⟨e1, e2⟩ := at_no (l := l) (no := no) (v := v) (fun q => h2 q.2.2)
        rw [e1, e2]
        have n2 : (getV l == v) = false := by simpa using h2
        have n3 : (getV l != v) = true := by simpa using h2
        rw [hi, h1] at HG
        clear e1 e2 hi h1 h2
        generalize getC l = cs at *
        generalize getV l = y at *
        go_enter Try.func15, Try.ntmps15
        go_wp2_with (go_at_call 12; refine HG.out.mono ?_; rintro e w1 ⟨x, rfl, b1, o1⟩; replace HG := Lib.hid b1; clear b1 o1)
        all_goals
          go_ret2
          exact ⟨_, rfl, HG.out, World.ownsRow_nil _ _ _ _⟩
    · obtain ⟨e1, e2⟩ := at_no (l := l) (no := no) (v := v) (fun q => h1 q.2.1)
      rw [e1, e2]
      have n2 : (getN l == no) = false := by simpa using h1
      have n3 : (getN l != no) = true := by simpa using h1
      rw [hi] at HG
      clear e1 e2 hi h1
      generalize getC l = cs at *
      generalize getV l = y at *
      generalize getN l = z at *
      go_enter Try.func15, Try.ntmps15
      go_wp2_with (go_at_call 12; refine HG.out.mono ?_; rintro e w1 ⟨x, rfl, b1, o1⟩; replace HG := Lib.hid b1; clear b1 o1)
      all_goals
        go_ret2
        exact ⟨_, rfl, HG.out, World.ownsRow_nil _ _ _ _⟩
  · obtain ⟨e1, e2⟩ := at_no (l := l) (no := no) (v := v) (fun q => hi q.1)
    have hi : pgIs l = false := by simpa using hi
    rw [e1, e2]
    rw [hi] at HG
    clear e1 e2 hi
    generalize getC l = cs at *
    generalize getV l = y at *
    generalize getN l = z at *
    go_enter Try.func15, Try.ntmps15
    go_wp2_with (go_at_call 12; refine HG.out.mono ?_; rintro e w1 ⟨x, rfl, b1, o1⟩; replace HG := Lib.hid b1; clear b1 o1)
    all_goals
      go_ret2
      exact ⟨_, rfl, HG.out, World.ownsRow_nil _ _ _ _⟩
end Go.Proofs.Ytgmjphekfhiapaa
