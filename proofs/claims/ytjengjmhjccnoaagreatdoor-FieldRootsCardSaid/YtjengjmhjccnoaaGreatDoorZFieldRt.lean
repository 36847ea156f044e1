/- Plain facts for FieldRoots: six objects of one word each, and eight roots that name them. -/
import Derived.Test.YtjengjmhjccnoaaGreatDoorZFieldMath
set_option linter.unusedVariables false
set_option linter.unusedSimpArgs false
namespace Go.Proofs.YtjengjmhjccnoaaGreatDoor
open Go.RowKit Sec
open Go.Proofs.YtjengjmhjccnoaaGreatDoor.Bk

/-- The cells behind k objects; where these lie. -/
def sxW : Nat → List Int
  | 0 => freshC 40
  | k + 1 => newW (40 : Nat) (20 : Nat) (sxW k) 0 1
def atsL : Nat → List Int
  | 0 => []
  | k + 1 => atsL k ++ [16 + 2 * (k : Int)]
theorem atsL_len : ∀ k, (atsL k).length = k
  | 0 => rfl
  | k + 1 => by rw [atsL, List.length_append, atsL_len k]; rfl
theorem sx_filled : ∀ k, k ≤ 6 → Filled 40 20 2 (sxW k) k
  | 0, _ => Filled.zero (by decide) 2
  | k + 1, h => ((sx_filled k (by omega)).step (s := 0) (x := 1) rfl (by decide) (by omega)).2
theorem sx_step {k : Nat} (h : k < 6) : newE (40 : Nat) (20 : Nat) (sxW k) 0 1 = 0 ∧ newA (40 : Nat) (20 : Nat) (sxW k) 0 1 = 16 + 2 * (k : Int) := by
  have m := ((sx_filled k (by omega)).step (s := 0) (x := 1) rfl (by decide) (by omega)).1
  exact ⟨m.e, by rw [m.ad]; omega⟩
theorem six_at : (sxW 6).length = 96 ∧ (sxW 6).getD 0 0 = 0 ∧ (sxW 6).getD 1 0 = 28 ∧ (sxW 6).getD 2 0 = 0 ∧ (sxW 6).getD 3 0 = 0 ∧ (sxW 6).getD 17 0 = 0 := by decide +kernel
theorem six_hd : ∀ k, k < 6 → (sxW 6).getD (16 + 2 * k) 0 = hdI 0 1 := by decide +kernel
theorem six_rt : ∀ i, i < 8 → (sxW 6).getD (8 + i) 0 = 0 := by decide +kernel
/-- What a root may name. -/
def RtA (a : Int) : Prop := a = 0 ∨ ∃ k : Nat, k < 6 ∧ a = 16 + 2 * (k : Int)
/-- Cells V in which the roots are R. -/
structure Rt (V R : List Int) : Prop where
  len : V.length = 96
  rl : R.length = 8
  lo : ∀ i, i < 8 → V.getD (8 + i) 0 = R.getD i 0
  ot : ∀ i, (i < 8 ∨ 16 ≤ i) → V.getD i 0 = (sxW 6).getD i 0
  ref : ∀ i, RtA (R.getD i 0)
theorem Rt.start : Rt (sxW 6) [0, 0, 0, 0, 0, 0, 0, 0] :=
  ⟨six_at.1, rfl, fun i hi => by
    rw [six_rt i hi]
    match i, hi with
    | 0, _ | 1, _ | 2, _ | 3, _ | 4, _ | 5, _ | 6, _ | 7, _ => rfl, fun _ _ => rfl, fun i => .inl (by
    match i with
    | 0 | 1 | 2 | 3 | 4 | 5 | 6 | 7 | _ + 8 => rfl)⟩
section
variable {V R : List Int}
theorem Rt.ctl (r : Rt V R) : hSp V = 0 ∧ hFr V = 28 ∧ hOk (40 : Nat) (20 : Nat) V = true := by
  obtain ⟨_, s0, s1, s2, s3, _⟩ := six_at
  have e0 : hSp V = 0 := (r.ot 0 (.inl (by decide))).trans s0
  have e1 : hFr V = 28 := (r.ot 1 (.inl (by decide))).trans s1
  have e2 : hGc V = 0 := (r.ot 2 (.inl (by decide))).trans s2
  have e3 : hSc V = 0 := (r.ot 3 (.inl (by decide))).trans s3
  refine ⟨e0, e1, ?_⟩
  rw [hOk, e0, e1, e2, e3]
  decide
theorem Rt.inb (r : Rt V R) {a : Int} (ha : RtA a) : a = 0 ∨ inB (40 : Nat) (hSp V) a = true := by
  rcases ha with e | ⟨k, hk, e⟩
  · exact .inl e
  · rw [r.ctl.1]
    exact .inr (decide_eq_true (by omega))
theorem Rt.obj (r : Rt V R) {a : Int} (ha : RtA a) : a = 0 ∨ objB (40 : Nat) (20 : Nat) V a = true := by
  rcases ha with e | ⟨k, hk, rfl⟩
  · exact .inl e
  · obtain ⟨e0, e1, ok⟩ := r.ctl
    exact .inr (obj_here ok (by rw [e0]; exact decide_eq_true (by omega)) (s := 0) (x := 1) (by decide) (by
      rw [show (16 + 2 * (k : Int)).toNat = 16 + 2 * k by omega, r.ot _ (.inr (by omega))]
      exact six_hd k hk) (by rw [e1]; omega) (by omega)).1
theorem Rt.put (r : Rt V R) {i : Nat} (hi : i < 8) {a : Int} (ha : RtA a) : srE (40 : Nat) (20 : Nat) V i a = 0 ∧ Rt (srW (40 : Nat) (20 : Nat) V i a) (R.set i a) := by
  have e : srE (40 : Nat) (20 : Nat) V i a = 0 := by rw [srE, if_neg (by omega), if_pos (r.obj ha)]
  have hl := r.len
  have hr := r.rl
  refine ⟨e, ?_⟩
  rw [srW, if_pos e, show ((8 : Int) + (i : Int)).toNat = 8 + i by omega]
  refine ⟨by rw [List.length_set, hl], by rw [List.length_set, hr], fun j hj => ?_, fun j hj => ?_, fun j => ?_⟩
  · rw [getD_set, getD_set, r.lo j hj]
    by_cases q : i = j
    · rw [if_pos ⟨by omega, by omega⟩, if_pos ⟨q, by omega⟩]
    · rw [if_neg (fun z => q (by omega)), if_neg (fun z => q z.1)]
  · rw [getD_set_ne (by omega), r.ot j hj]
  · rw [getD_set]
    by_cases q : i = j ∧ j < R.length
    · rw [if_pos q]
      exact ha
    · rw [if_neg q]
      exact r.ref j
theorem Rt.root (r : Rt V R) {i : Nat} (hi : i < 8) : rootE (40 : Nat) (20 : Nat) V i = 0 ∧ rootV (40 : Nat) (20 : Nat) V i = R.getD i 0 ∧ rootW (40 : Nat) (20 : Nat) V i = V := by
  have e : V.getD (8 + (i : Int).toNat) 0 = R.getD i 0 := by rw [Int.toNat_natCast, r.lo i hi]
  have := root_here r.ctl.2.2 (i := (i : Int)) (by omega) (by omega) (by rw [e]; exact r.inb (r.ref i))
  rw [e] at this
  exact this
theorem Rt.ends (r : Rt V R) : srE (40 : Nat) (20 : Nat) V 0 17 = 1 ∧ srW (40 : Nat) (20 : Nat) V 0 17 = V ∧ srE (40 : Nat) (20 : Nat) V 8 16 = 8 := by
  have hd : hdOk (V.getD (17 : Int).toNat 0) = false := by
    rw [show (17 : Int).toNat = 17 from rfl, r.ot 17 (.inr (by decide)), six_at.2.2.2.2.2]
    decide
  have o : objB (40 : Nat) (20 : Nat) V 17 = false := by
    rw [objB, hd]
    simp
  have e : srE (40 : Nat) (20 : Nat) V 0 17 = 1 := by rw [srE, if_neg (by decide), if_neg (by rw [o]; decide)]
  exact ⟨e, by rw [srW, e, if_neg (by decide)], by rw [srE, if_pos (by decide)]⟩
end
theorem ats_at : ∀ j, j < 7 → RtA ((atsL 6 ++ [0]).getD j 0)
  | 0, _ => .inr ⟨0, by decide, rfl⟩
  | 1, _ => .inr ⟨1, by decide, rfl⟩
  | 2, _ => .inr ⟨2, by decide, rfl⟩
  | 3, _ => .inr ⟨3, by decide, rfl⟩
  | 4, _ => .inr ⟨4, by decide, rfl⟩
  | 5, _ => .inr ⟨5, by decide, rfl⟩
  | 6, _ => .inl rfl
  | _ + 7, h => absurd h (by omega)
end Go.Proofs.YtjengjmhjccnoaaGreatDoor
