/- The document's own disk: Write by its contract. -/
import Derived.Test.YtobgcengijnffaaRefRead
namespace Go.Proofs.Ytobgcengijnffaa
open Go.RowKit

/-- What a write is told ahead of all. -/
def Rsk.mayW (R : Rsk) (k : Int) (b : ByteArray) : Int := if R.on then (if 0 ≤ k ∧ k < R.lasts.length ∧ b.size = 32 then 0 else 1) else 3

set_option maxHeartbeats 1000000 in
theorem rWrite_not (z : RLay) (R : Rsk) (w : World) (k : Int) (b : ByteArray) (h : IsR w z R) (hm : R.mayW k b ≠ 0) :
    Calls Try.prog 14 #[.pointer (some ⟨z.p, 0, none⟩), .int .i64 k, .string b] w fun e w' => e = .returned (.int .i64 (R.mayW k b)) ∧ w' = w := by
  have c2 := h.c2
  have c0 := h.c0
  clear h
  cases hon : R.on
  · rw [hon] at c2
    have e : R.mayW k b = 3 := by rw [Rsk.mayW, hon]; rfl
    rw [e]
    clear hm hon e
    go_enter Try.func14, Try.ntmps14
    go_wp2
    go_ret
    exact ⟨rfl, rfl⟩
  · rw [hon] at c2
    have hn : ¬ (0 ≤ k ∧ k < R.lasts.length ∧ b.size = 32) := fun q => hm (by rw [Rsk.mayW, hon, if_pos rfl, if_pos q])
    have e : R.mayW k b = 1 := by rw [Rsk.mayW, hon, if_pos rfl, if_neg hn]
    rw [e]
    clear hm hon e
    rcases Int.lt_or_le k 0 with hk0 | hk0
    · clear hn
      go_enter Try.func14, Try.ntmps14
      go_wp2
      go_ret
      exact ⟨rfl, rfl⟩
    · have hk2 : ¬ k < 0 := by omega
      by_cases hk1 : (R.lasts.length : Int) ≤ k
      · clear hn hk0
        go_enter Try.func14, Try.ntmps14
        go_wp2
        go_ret
        exact ⟨rfl, rfl⟩
      · have hb2 : (((b.size : Int)) != 32) = true := by simp; omega
        clear hn hk0
        go_enter Try.func14, Try.ntmps14
        go_wp2
        go_ret
        exact ⟨rfl, rfl⟩

theorem pflat_len (l : List (Nat × ByteArray)) : (l.flatMap pcells).length = l.length * 2 := by
  induction l with
  | nil => rfl
  | cons a r ih => rw [List.flatMap_cons, List.length_append, ih]; simp [pcells]; omega
theorem pflat_one (l : List (Nat × ByteArray)) : ∀ u ∈ l.flatMap pcells, u.oneCell' = true := by
  intro u hu
  obtain ⟨x, _, hx⟩ := List.mem_flatMap.1 hu
  simp [pcells] at hx
  rcases hx with rfl | rfl <;> rfl
theorem IsR.waitsAll {w : World} {z : RLay} {R : Rsk} (h : IsR w z R) : ∀ j u, (R.waits.flatMap pcells)[j]? = some u → ∃ b : Addr, z.wa = some b ∧ w.cell? (b.add j) = some u := fun j u hu => by
  have hj := (List.getElem?_eq_some_iff.1 hu).1
  rw [pflat_len] at hj
  rcases h.rW with ⟨_, q, _⟩ | ⟨ha, ho⟩
  · omega
  · exact ⟨_, ha, by rw [Addr.add_mid, Nat.zero_add, ho.cellAt j hj]; exact hu⟩

/-- A write more. -/
def Rsk.push (R : Rsk) (k : Nat) (b : ByteArray) : Rsk := { R with waits := R.waits ++ [(k, b)] }
/-- A deed more. -/
def Rsk.deed (R : Rsk) : Rsk := { R with deeds := R.deeds + 1 }

theorem IsR.push_wait {w0 w1 w4 : World} {z : RLay} {R : Rsk} (I0 : IsR w0 z R) {a' : Option Addr} {c' g cap : Nat} (b1 : Below w0.heap.size w0 w1) (C1 : Cloned w1 w0.heap.size w1.heap.size 70 2 a' R.waits.length c' (R.waits.flatMap pcells)) (o : Obj) (m : Nat) (b : ByteArray)
    (hm : m < R.lasts.length) (hwc : R.waits.length + 1 < 2 ^ 39)
    (hown4 : w4.ownsRow 0 70 2 (.slice (some ⟨g, 0, none⟩) (R.waits.length + 1) cap) (R.waits.length + 1) (R.waits.flatMap pcells ++ [.int .i64 (m : Int), .string b]))
    (hgr4 : (w1.alloc o).grownBy w4 (Value.ownBlock (.slice a' R.waits.length c'))) (hat4 : Value.ownBlock (.slice a' R.waits.length c') = some g ∨ g = (w1.alloc o).heap.size) (hlt4 : g < w4.heap.size) :
    Below w0.heap.size w0 w4 ∧ IsR w4 z R ∧ IsR (w4.setCell ⟨z.p, 1, none⟩ (.slice (some ⟨g, 0, none⟩) (R.waits.length + 1) cap)) (z.newW (some ⟨g, 0, none⟩) cap) (R.push m b) ∧ (∀ b, (z.newW (some ⟨g, 0, none⟩) cap).foot b → z.foot b ∨ w0.heap.size ≤ b) := by
  have hsz := b1.size
  have hown : ∀ k, Value.ownBlock (.slice a' R.waits.length c') = some k → w0.heap.size ≤ k := fun k hk => by
    rcases C1 with ⟨q1, _, _⟩ | ⟨g', q1, q2, _⟩
    · rw [q1] at hk; simp [Value.ownBlock] at hk
    · rw [q1] at hk; simp [Value.ownBlock] at hk; omega
  have b4 : Below w0.heap.size w0 w4 := (b1.alloc hsz o).grown hgr4 (by simp; omega) hown
  have hge : w0.heap.size ≤ g := by
    rcases hat4 with q | q
    · exact hown _ q
    · rw [q]; simp; omega
  have I4 := I0.below b4
  have C4 : Cloned w4 w0.heap.size w4.heap.size 70 2 (some ⟨g, 0, none⟩) (R.waits.length + 1) cap ((R.waits ++ [(m, b)]).flatMap pcells) := .inr ⟨g, rfl, hge, hlt4, by
    have := owns_zero hown4
    simpa [pcells] using this⟩
  have I5 := I4.set_waits (l := R.waits ++ [(m, b)]) (by simp) I0.small C4 (by simp; omega) (by
    intro x hx
    rcases List.mem_append.1 hx with q | q
    · exact I4.blk x q
    · obtain rfl : x = (m, b) := by simpa using q
      exact hm)
  exact ⟨b4, I4, I5.1, I5.2⟩

set_option maxHeartbeats 1000000 in
theorem rWrite_ok (z : RLay) (R : Rsk) (w : World) (m : Nat) (b : ByteArray) (h : IsR w z R) (hon : R.on = true) (hm : m < R.lasts.length) (hb : b.size = 32) (hwc : R.waits.length + 1 < 2 ^ 38) (hdd : R.deeds + 1 < 2 ^ 60) :
    Calls Try.prog 14 #[.pointer (some ⟨z.p, 0, none⟩), .int .i64 (m : Int), .string b] w fun e w' => (R.goes = true ∧ e = .returned (.int .i64 3) ∧ GoesR z w ((R.dec.push m b).crash R.keep) w') ∨ (R.goes = false ∧ e = .returned (.int .i64 0) ∧ GoesR z w ((R.dec.push m b).deed) w') := by
  obtain ⟨i0, hi, hz0, hz1, hz2⟩ := info_parts waitInfo
  have HI := Lib.hid (And.intro hi (And.intro hz0 (And.intro hz1 hz2)))
  clear hi hz0 hz1 hz2
  have c2 := h.c2
  rw [hon] at c2
  have c0 := h.c0
  have hlS := h.lenS
  have hk2 : ¬ (m : Int) < 0 := by omega
  have hk3 : ¬ (R.lasts.length : Int) ≤ (m : Int) := by omega
  have hb2 : (((b.size : Int)) != 32) = false := by simp; omega
  have key : ∀ g0, R.goes = g0 → Calls Try.prog 14 #[.pointer (some ⟨z.p, 0, none⟩), .int .i64 (m : Int), .string b] w fun e w' => (g0 = true ∧ e = .returned (.int .i64 3) ∧ GoesR z w ((R.dec.push m b).crash R.keep) w') ∨ (g0 = false ∧ e = .returned (.int .i64 0) ∧ GoesR z w ((R.dec.push m b).deed) w') := by
    intro g0 hg
    have hps := h.small z.p (.inl rfl)
    have H := Lib.hid (And.intro h (And.intro hon (And.intro hb hg)))
    clear h hon hb hg
    cases g0
    all_goals
      go_enter Try.func14, Try.ntmps14
      go_wp2_with (first
        | (go_at_call 36
           refine (rmay_on z R _ H.out.1 H.out.2.1).mono ?_
           rintro e w0 ⟨rfl, I1, o1⟩
           rw [H.out.2.2.2]
           have d1 := I1.c1
           change w0.cell? ⟨z.p, 1, none⟩ = some (.slice z.wa R.waits.length z.cW) at d1
           have H0 := Lib.hid (And.intro I1 o1)
           clear I1 o1)
        | (refine wpList_append_copy rfl (.tmp 38) 57 rfl 70 i0 _ 2 24 Try.underlying57 HI.out.1 HI.out.2.1 HI.out.2.2.1 HI.out.2.2.2 rfl (by omega) (by omega) z.wa R.waits.length z.cW (R.waits.flatMap pcells) rfl H0.out.1.waitsAll (pflat_len _) (pflat_one _) (by omega) ?_
           intro a' c' w1 b1 C1
           have HX := Lib.hid (And.intro b1 C1)
           have C1o := (C1.row z.p).1.owns (pflat_len _)
           have hsz := b1.size
           clear b1 C1 d1)
        | (refine wpList_append_lies _ rfl (.tmp 39) (.tmp 43) 57 rfl 0 70 i0 _ 2 24 Try.underlying57 HI.out.1 HI.out.2.1 HI.out.2.2.1 HI.out.2.2.2 rfl (by omega) (.slice a' R.waits.length c') R.waits.length (R.waits.flatMap pcells) rfl (C1o.alloc _) _ 1 1 [.int .i64 (m : Int), .string b] rfl rfl (by exact World.news_of_block (heap_alloc_last _ _)) (by intro u hu; simp at hu; rcases hu with rfl | rfl <;> rfl) (by omega) (by unfold maxLen; omega) (by omega) (by omega) _ rfl ?_
           intro g cap w4 hown4 hgr4 hat4 hlt4
           obtain ⟨b4, I4, I5⟩ := H0.out.1.push_wait HX.out.1 HX.out.2 _ m b hm (by change R.waits.length + 1 < 2 ^ 39; omega) hown4 hgr4 hat4 hlt4
           have f1 := I4.fz 1 (by omega)
           have c5 := I4.c5
           change w4.cell? ⟨z.p, 5, none⟩ = some (.slice z.ka R.keep.length z.cK) at c5
           have c6 := I4.c6
           change w4.cell? ⟨z.p, 6, none⟩ = some (.int .i64 (R.deeds : Int)) at c6
           have f6 := I4.fz 6 (by omega)
           have e1 : ∃ u, w4.cell? ⟨z.p, 1, none⟩ = some u := ⟨_, I4.c1⟩
           obtain ⟨u1, hu1⟩ := e1
           have hw0 : w.heap.size ≤ w0.heap.size := H0.out.2.size
           have HX4 := Lib.hid (And.intro I5 (And.intro b4 hw0))
           clear hown4 hgr4 hat4 hlt4 b4 I4 I5 C1o hsz hw0)
        | (go_at_call 18
           have hcr := rCrash_on (z.newW (some ⟨g, 0, none⟩) cap) (R.dec.push m b) _ z.ka R.keep z.cK HX4.out.1.1 HX4.out.1.1.keepOf (fun b q0 q => by
             have q1 := HX4.out.1.1.rK
             rcases q1 with ⟨_, q2, _⟩ | ⟨q2, _⟩
             · have q2' : R.keep.length = 0 := q2
               omega
             · have q2' : z.ka = some ⟨z.K, 0, none⟩ := q2
               rw [q2'] at q
               obtain rfl : (⟨z.K, 0, none⟩ : Addr) = b := by simpa using q
               exact (HX4.out.1.1.neK (by rw [q2]; simp)).1) (by have := HX4.out.1.1.lenK; have e : (R.dec.push m b).keep = R.keep := rfl; change R.keep.length < 2 ^ 39 at this; omega) H.out.2.1
           refine hcr.mono ?_
           rintro e w6 ⟨rfl, hgs⟩
           clear hcr))
      go_ret
    · refine .inr ⟨trivial, rfl, ?_⟩
      obtain ⟨⟨I5, f5⟩, b4, hw0⟩ := HX4.out
      have o5 : Only z.foot w (w4.setCell ⟨z.p, 1, none⟩ (.slice (some ⟨g, 0, none⟩) (R.waits.length + 1) cap)) := (H0.out.2.trans (Only.of_below b4) (fun i hi q => by have : w0.heap.size ≤ i := q; omega)).setCell (.inl (.inl rfl)) _
      have I6 := I5.set_cell 6 (.int .i64 ((R.deeds + 1 : Nat) : Int)) (R.dec.push m b).deed rfl rfl rfl rfl
      rw [show ((R.deeds + 1 : Nat) : Int) = (R.deeds : Int) + 1 by omega] at I6
      exact GoesR.fold (z1 := z.newW (some ⟨g, 0, none⟩) cap) rfl (fun q hq => (f5 q hq).imp id (fun e => Nat.le_trans hw0 e)) o5 (GoesR.of I6 (Only.foot_r 6 _))
    · refine .inl ⟨trivial, rfl, ?_⟩
      obtain ⟨⟨I5, f5⟩, b4, hw0⟩ := HX4.out
      have o5 : Only z.foot w (w4.setCell ⟨z.p, 1, none⟩ (.slice (some ⟨g, 0, none⟩) (R.waits.length + 1) cap)) := (H0.out.2.trans (Only.of_below b4) (fun i hi q => by have : w0.heap.size ≤ i := q; omega)).setCell (.inl (.inl rfl)) _
      exact GoesR.fold (z1 := z.newW (some ⟨g, 0, none⟩) cap) rfl (fun q hq => (f5 q hq).imp id (fun e => Nat.le_trans hw0 e)) o5 hgs
  exact (key _ rfl)
end Go.Proofs.Ytobgcengijnffaa
