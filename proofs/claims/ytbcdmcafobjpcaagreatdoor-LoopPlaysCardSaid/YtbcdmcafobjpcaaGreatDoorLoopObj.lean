/- Package loop: a log in memory; none, sectorOf, Room, Head, Next, Cut, New. -/
import Derived.Test.YtbcdmcafobjpcaaGreatDoorLoopErr
import Derived.Deep.RegionHeld3
import Derived.RegionTactic
namespace Go.Proofs.YtbcdmcafobjpcaaGreatDoor
open Go.RowKit Sec

/-- THE LOG's STRUCT lies at q. -/
structure LoopC (w : World) (q p : Nat) (fr n hd nx ep : Int) : Prop where
  c0 : w.cell? ⟨q, 0, none⟩ = some (.pointer (some ⟨p, 0, none⟩))
  c1 : w.cell? ⟨q, 1, none⟩ = some (.int .i64 fr)
  c2 : w.cell? ⟨q, 2, none⟩ = some (.int .i64 n)
  c3 : w.cell? ⟨q, 3, none⟩ = some (.int .i64 hd)
  c4 : w.cell? ⟨q, 4, none⟩ = some (.int .i64 nx)
  c5 : w.cell? ⟨q, 5, none⟩ = some (.int .i64 ep)
  f : ∀ j, w.frozen? ⟨q, j, none⟩ = false
section
variable {B : Nat} {G G' : Nat → Prop} {w w' : World} {q p : Nat} {D D' : Dsk} {fr n hd nx ep : Int}
theorem LoopC.of_block (h : LoopC w q p fr n hd nx ep) (hb : w'.heap[q]? = w.heap[q]?) : LoopC w' q p fr n hd nx ep :=
  have e : ∀ j, w'.cell? ⟨q, j, none⟩ = w.cell? ⟨q, j, none⟩ := fun j => World.cell?_of_block (a := ⟨q, j, none⟩) hb
  ⟨(e 0).trans h.c0, (e 1).trans h.c1, (e 2).trans h.c2, (e 3).trans h.c3, (e 4).trans h.c4, (e 5).trans h.c5, fun j => (World.frozen?_of_block (a := ⟨q, j, none⟩) hb).trans (h.f j)⟩
theorem LoopC.lt (h : LoopC w q p fr n hd nx ep) : q < w.heap.size := cell_lt h.c0
theorem LoopC.below (h : LoopC w q p fr n hd nx ep) (b : Below w.heap.size w w') : LoopC w' q p fr n hd nx ep := h.of_block (b.block q h.lt)
theorem LoopC.drew (h : LoopC w q p fr n hd nx ep) : LoopC w.drew q p fr n hd nx ep := h.of_block rfl

/-- THE LOG LIES AT q, its disk D at p, all of them from block B on; the blocks G are there and no part of them. -/
structure LogAt (B : Nat) (G : Nat → Prop) (w : World) (q p : Nat) (D : Dsk) (fr n hd nx ep : Int) : Prop where
  d : AtK B (fun b => G b ∨ b = q) w p D
  c : LoopC w q p fr n hd nx ep
  ge : B ≤ q
  ng : ¬ G q
theorem LogAt.below (h : LogAt B G w q p D fr n hd nx ep) (b : Below w.heap.size w w') : LogAt B G w' q p D fr n hd nx ep := ⟨h.d.below b, h.c.below b, h.ge, h.ng⟩
theorem LogAt.more (h : LogAt B G w q p D fr n hd nx ep) (b : Below w.heap.size w w') : LogAt B (fun k => G k ∨ (w.heap.size ≤ k ∧ k < w'.heap.size)) w' q p D fr n hd nx ep :=
  ⟨(h.d.more b).mono (fun k r => by rcases r with (r | r) | r; exact .inl (.inl r); exact .inr r; exact .inl (.inr r)), h.c.below b, h.ge, fun r => by
    rcases r with r | r
    · exact h.ng r
    · have := h.c.lt; omega⟩
theorem LogAt.mono (h : LogAt B G w q p D fr n hd nx ep) (hG : ∀ b, G' b → G b) : LogAt B G' w q p D fr n hd nx ep := ⟨h.d.mono (fun b r => r.imp (hG b) id), h.c, h.ge, fun r => h.ng (hG q r)⟩
theorem LogAt.drew (h : LogAt B G w q p D fr n hd nx ep) : LogAt B G w.drew q p D fr n hd nx ep := h.below (Below.refl _ _).drew
theorem LogAt.ty (h : LogAt B G w q p D fr n hd nx ep) : ErrTy w := h.d.1.1
theorem LogAt.le (h : LogAt B G w q p D fr n hd nx ep) : B ≤ w.heap.size := h.d.le
/-- Behind a call on the disk. -/
theorem LogAt.disk (h : LogAt B G w q p D fr n hd nx ep) (hd' : AtK B (fun b => G b ∨ b = q) w' p D') (k : KeptG (fun b => G b ∨ b = q) w w') : LogAt B G w' q p D' fr n hd nx ep :=
  ⟨hd', h.c.of_block (k q (.inr rfl)), h.ge, h.ng⟩

theorem none_no (h : LoopC w q p fr n hd nx ep) : Calls Tryz.prog 25 #[.pointer (some ⟨q, 0, none⟩)] w fun e w' => e = .returned (.bool false) ∧ w' = w := by
  have c0 := h.c0
  clear h
  go_enter Tryz.func25, Tryz.ntmps25
  go_wp2
  go_ret
  exact ⟨rfl, rfl⟩
theorem none_yes (w : World) : Calls Tryz.prog 25 #[.pointer none] w fun e w' => e = .returned (.bool true) ∧ w' = w := by
  go_enter Tryz.func25, Tryz.ntmps25
  go_wp2
  go_ret
  exact ⟨rfl, rfl⟩
theorem Head_is (h : LoopC w q p fr n hd nx ep) : Calls Tryz.prog 19 #[.pointer (some ⟨q, 0, none⟩)] w fun e w' => e = .returned (.int .i64 hd) ∧ w' = w := by
  have cc := h.c3
  have H := Lib.hid h
  clear h
  go_enter Tryz.func19, Tryz.ntmps19
  go_wp2_with (go_at_call 25; refine (none_no H.out).mono ?_; rintro e w' ⟨rfl, rfl⟩)
  go_ret
  exact ⟨rfl, rfl⟩
theorem Next_is (h : LoopC w q p fr n hd nx ep) : Calls Tryz.prog 20 #[.pointer (some ⟨q, 0, none⟩)] w fun e w' => e = .returned (.int .i64 nx) ∧ w' = w := by
  have cc := h.c4
  have H := Lib.hid h
  clear h
  go_enter Tryz.func20, Tryz.ntmps20
  go_wp2_with (go_at_call 25; refine (none_no H.out).mono ?_; rintro e w' ⟨rfl, rfl⟩)
  go_ret
  exact ⟨rfl, rfl⟩
/-- What is asked of a log's numbers. -/
structure Nums (fr n hd nx ep : Int) : Prop where
  n1 : 1 ≤ n
  f0 : 0 ≤ fr
  fn : fr + n ≤ 3000
  h0 : 0 ≤ hd
  hx : hd ≤ nx
  xn : nx - hd ≤ n
  e0 : 0 ≤ ep
  ex : ep < 1000000000
  xx : nx ≤ 1000003000
theorem Room_is (h : LoopC w q p fr n hd nx ep) (N : Nums fr n hd nx ep) : Calls Tryz.prog 21 #[.pointer (some ⟨q, 0, none⟩)] w fun e w' => e = .returned (.int .i64 (n - (nx - hd))) ∧ Below w.heap.size w w' := by
  have c2 := h.c2
  have c3 := h.c3
  have c4 := h.c4
  obtain ⟨n1, f0, fn, h0, hx, xn, e0, ex, xx⟩ := N
  have H := Lib.hid h
  clear h
  go_enter Tryz.func21, Tryz.ntmps21
  go_wp2_with (go_at_call 25; refine (none_no H.out).mono ?_; rintro e w' ⟨rfl, rfl⟩)
  go_region
  all_goals
    go_wp2
    go_ret
    exact ⟨rfl, (Below.refl _ _).drew⟩
theorem sectorOf_is (h : LoopC w q p fr n hd nx ep) (N : Nums fr n hd nx ep) (k : Int) (h0 : 0 ≤ k) (h1 : k < 9223372036854775807) : Calls Tryz.prog 81 #[.pointer (some ⟨q, 0, none⟩), .int .i64 k] w fun e w' => e = .returned (.int .i64 (fr + k % n)) ∧ Below w.heap.size w w' := by
  have c1 := h.c1
  have c2 := h.c2
  obtain ⟨n1, f0, fn, h0, hx, xn, e0, ex, xx⟩ := N
  have m0 : 0 ≤ k % n := Int.emod_nonneg k (by omega)
  have m1 : k % n < n := Int.emod_lt_of_pos k (by omega)
  clear h
  go_enter Tryz.func81, Tryz.ntmps81
  go_wp2
  go_region
  all_goals
    go_wp2
    go_ret
    exact ⟨rfl, (Below.refl _ _).drew⟩
theorem Cut_no (h : LoopC w q p fr n hd nx ep) (k : Int) (hk : k ≤ ep ∨ 1000000000 ≤ k) : Calls Tryz.prog 15 #[.pointer (some ⟨q, 0, none⟩), .int .i64 k] w fun e w' => e = .returned (.int .i64 1) ∧ w' = w := by
  have c5 := h.c5
  have H := Lib.hid h
  clear h
  by_cases h1 : k ≤ ep
  · clear hk
    go_enter Tryz.func15, Tryz.ntmps15
    go_wp2_with (go_at_call 25; refine (none_no H.out).mono ?_; rintro e w' ⟨rfl, rfl⟩)
    go_ret
    exact ⟨rfl, rfl⟩
  · have h2 : 1000000000 ≤ k := by omega
    clear hk
    go_enter Tryz.func15, Tryz.ntmps15
    go_wp2_with (go_at_call 25; refine (none_no H.out).mono ?_; rintro e w' ⟨rfl, rfl⟩)
    go_ret
    exact ⟨rfl, rfl⟩
theorem LoopC.cut (h : LoopC w q p fr n hd nx ep) (k : Int) : LoopC ((w.setCell ⟨q, 3, none⟩ (.int .i64 nx)).setCell ⟨q, 5, none⟩ (.int .i64 k)) q p fr n nx nx k := by
  obtain ⟨c0, c1, c2, c3, c4, c5, f⟩ := h
  have s : ∀ (u : World) (i j : Nat) (v : Value), i ≠ j → (u.setCell ⟨q, i, none⟩ v).cell? ⟨q, j, none⟩ = u.cell? ⟨q, j, none⟩ := fun u i j v hij => World.cell?_setCell_other _ _ _ _ (by intro e; exact hij (by cases e; rfl))
  refine ⟨?_, ?_, ?_, ?_, ?_, ?_, fun j => by rw [World.frozen?_setCell, World.frozen?_setCell]; exact f j⟩
  · rw [s _ 5 0 _ (by omega), s _ 3 0 _ (by omega)]; exact c0
  · rw [s _ 5 1 _ (by omega), s _ 3 1 _ (by omega)]; exact c1
  · rw [s _ 5 2 _ (by omega), s _ 3 2 _ (by omega)]; exact c2
  · rw [s _ 5 3 _ (by omega)]; exact World.cell?_setCell_same _ _ _ c3
  · rw [s _ 5 4 _ (by omega), s _ 3 4 _ (by omega)]; exact c4
  · exact World.cell?_setCell_same _ _ _ (by rw [s _ 3 5 _ (by omega)]; exact c5)
theorem LoopC.next (h : LoopC w q p fr n hd nx ep) (k : Int) : LoopC (w.setCell ⟨q, 4, none⟩ (.int .i64 k)) q p fr n hd k ep := by
  obtain ⟨c0, c1, c2, c3, c4, c5, f⟩ := h
  have s : ∀ (u : World) (i j : Nat) (v : Value), i ≠ j → (u.setCell ⟨q, i, none⟩ v).cell? ⟨q, j, none⟩ = u.cell? ⟨q, j, none⟩ := fun u i j v hij => World.cell?_setCell_other _ _ _ _ (by intro e; exact hij (by cases e; rfl))
  refine ⟨?_, ?_, ?_, ?_, ?_, ?_, fun j => by rw [World.frozen?_setCell]; exact f j⟩
  · rw [s _ 4 0 _ (by omega)]; exact c0
  · rw [s _ 4 1 _ (by omega)]; exact c1
  · rw [s _ 4 2 _ (by omega)]; exact c2
  · rw [s _ 4 3 _ (by omega)]; exact c3
  · exact World.cell?_setCell_same _ _ _ c4
  · rw [s _ 4 5 _ (by omega)]; exact c5
theorem set_kept {a : Addr} (v : Value) (ha : ¬ G a.block) : KeptG G w (w.setCell a v) := fun b hb => heap_setCell_ne _ _ _ _ (fun e => ha (e ▸ hb))
theorem Cut_yes (h : LogAt B G w q p D fr n hd nx ep) (k : Int) (h1 : ep < k) (h2 : k < 1000000000) : Calls Tryz.prog 15 #[.pointer (some ⟨q, 0, none⟩), .int .i64 k] w fun e w' => e = .returned (.int .i64 0) ∧ LogAt B G w' q p D fr n nx nx k ∧ Below B w w' ∧ KeptG G w w' := by
  have c3 := h.c.c3
  have c4 := h.c.c4
  have c5 := h.c.c5
  have f3 := h.c.f 3
  have f5 := h.c.f 5
  have H := Lib.hid h
  clear h
  go_enter Tryz.func15, Tryz.ntmps15
  go_wp2_with (go_at_call 25; refine (none_no H.out.c).mono ?_; rintro e w' ⟨rfl, rfl⟩)
  go_ret
  refine ⟨rfl, ⟨(H.out.d.set (a := ⟨q, 3, none⟩) (.inr rfl) H.out.ge _).set (a := ⟨q, 5, none⟩) (.inr rfl) H.out.ge _, H.out.c.cut k, H.out.ge, H.out.ng⟩, ?_, ?_⟩
  · exact ((Below.refl B _).setCell (p := ⟨q, 3, none⟩) H.out.ge _).setCell (p := ⟨q, 5, none⟩) H.out.ge _
  · exact (set_kept (a := ⟨q, 3, none⟩) _ H.out.ng).trans (set_kept (a := ⟨q, 5, none⟩) _ H.out.ng)

end
end Go.Proofs.YtbcdmcafobjpcaaGreatDoor
