/- Disk.Crash and fall by their contracts. Conditions: what is kept is read from memory that the call does not turn. -/
import Derived.Test.YtbcdmcafobjpcaaGreatDoorSecRow
namespace Go.Proofs.YtbcdmcafobjpcaaGreatDoor.Sec
open Go.RowKit

/-- Does a write last that is kept so? -/
def odd (z : Int) : Bool := z % 2 == 1
/-- What lasts behind the first n of the writes that wait. -/
def Dsk.crashL (D : Dsk) (kl : List Int) : Nat → List ByteArray
  | 0 => D.lasts
  | n + 1 => match D.waits[n]? with
    | some x => if odd (kl.getD n 0) then (D.crashL kl n).set x.1 x.2 else D.crashL kl n
    | none => D.crashL kl n
/-- How many of the first n are lost. -/
def lostN (kl : List Int) : Nat → Nat
  | 0 => 0
  | n + 1 => if odd (kl.getD n 0) then lostN kl n else lostN kl n + 1
/-- A disk whose power went. -/
def Dsk.crash (D : Dsk) (kl : List Int) : Dsk :=
  { D with on := false, lasts := D.crashL kl D.waits.length, now := D.crashL kl D.waits.length, waits := [], lit := false, left := 0, keep := [] }
def Dsk.disarm (D : Dsk) : Dsk := { D with lit := false, left := 0, keep := [] }
theorem lostN_le (kl : List Int) : ∀ n, lostN kl n ≤ n
  | 0 => Nat.le_refl _
  | n + 1 => by have := lostN_le kl n; unfold lostN; split <;> omega
theorem crashL_len (D : Dsk) (kl : List Int) : ∀ n, (D.crashL kl n).length = D.lasts.length
  | 0 => rfl
  | n + 1 => by
    have := crashL_len D kl n
    unfold Dsk.crashL
    split
    · split <;> simp [this]
    · exact this
theorem crashL_size (D : Dsk) (kl : List Int) (h : ∀ b ∈ D.lasts, b.size = 32) (hw : ∀ x ∈ D.waits, x.2.size = 32) : ∀ n, ∀ b ∈ D.crashL kl n, b.size = 32
  | 0 => h
  | n + 1 => by
    have := crashL_size D kl h hw n
    unfold Dsk.crashL
    split
    · rename_i x hx
      split
      · exact mem_set_size this (hw x (List.mem_of_getElem? hx))
      · exact this
    · exact this

/-- What is kept, as a slice of numbers in memory. -/
structure KeepIs (w : World) (y : Lay) (ka : Option Addr) (kl : List Int) : Prop where
  at_ : ∀ j z, kl[j]? = some z → ∃ a : Addr, ka = some a ∧ w.cell? (a.add j) = some (.int .i64 z)
  off : ∀ a : Addr, 0 < kl.length → ka = some a → a.block < w.heap.size ∧ a.block ≠ y.p ∧ a.block ≠ y.L ∧ a.block ≠ y.N

theorem i64_and1 (n : Int) : bits .and .i64 n 1 = n % 2 := by
  have h1 : (BitVec.ofInt 64 1).toNat = 2 ^ 1 - 1 := by decide
  have key : (BitVec.ofInt 64 n &&& BitVec.ofInt 64 1).toNat = (n % ((2 ^ 64 : Nat) : Int)).toNat % 2 ^ 1 := by
    rw [BitVec.toNat_and, BitVec.toNat_ofInt, h1, Nat.and_two_pow_sub_one_eq_mod]
  show IntKind.i64.wrap ((BitVec.ofInt 64 n &&& BitVec.ofInt 64 1).toNat : Nat) = n % 2
  rw [key, IntKind.wrap_i64]
  omega
theorem crashL_odd {D : Dsk} {kl : List Int} {k : Nat} {x : Nat × ByteArray} (hx : D.waits[k]? = some x) (ho : odd (kl.getD k 0) = true) : D.crashL kl (k + 1) = (D.crashL kl k).set x.1 x.2 := by
  rw [Dsk.crashL, hx]; simp only [ho, if_true]
theorem crashL_even {D : Dsk} {kl : List Int} {k : Nat} {x : Nat × ByteArray} (hx : D.waits[k]? = some x) (ho : odd (kl.getD k 0) = false) : D.crashL kl (k + 1) = D.crashL kl k := by
  rw [Dsk.crashL, hx]; simp only [ho, Bool.false_eq_true, if_false]
theorem lostN_odd {kl : List Int} {k : Nat} (ho : odd (kl.getD k 0) = true) : lostN kl (k + 1) = lostN kl k := by rw [lostN, if_pos ho]
theorem lostN_even {kl : List Int} {k : Nat} (ho : odd (kl.getD k 0) = false) : lostN kl (k + 1) = lostN kl k + 1 := by rw [lostN, if_neg (by rw [ho]; simp)]

section
variable {w : World} {y : Lay} {D : Dsk}
theorem flatten_at {k : Nat} : ∀ {l : List (List Value)} (_ : ∀ x ∈ l, x.length = k) {i : Nat} {x : List Value}, l[i]? = some x → ∀ j v, x[j]? = some v → l.flatten[i * k + j]? = some v
  | [], _, i, x, hx, _, _, _ => by simp at hx
  | a :: r, hl, 0, x, hx, j, v, hv => by
    obtain rfl : a = x := by simpa using hx
    rw [List.flatten_cons, Nat.zero_mul, Nat.zero_add, List.getElem?_append_left (List.getElem?_eq_some_iff.1 hv).1]
    exact hv
  | a :: r, hl, i + 1, x, hx, j, v, hv => by
    have ha : a.length = k := hl a (by simp)
    have := flatten_at (l := r) (fun x hx => hl x (by simp [hx])) (by simpa using hx) j v hv
    rw [List.flatten_cons, List.getElem?_append_right (by rw [ha, Nat.add_mul]; omega), ha, show (i + 1) * k + j - k = i * k + j by rw [Nat.add_mul]; omega]
    exact this
theorem flatten_len {k : Nat} : ∀ {l : List (List Value)} (_ : ∀ x ∈ l, x.length = k), l.flatten.length = l.length * k
  | [], _ => by simp
  | a :: r, hl => by
    have := flatten_len (l := r) (fun x hx => hl x (by simp [hx]))
    rw [List.flatten_cons, List.length_append, this, hl a (by simp), List.length_cons, Nat.add_mul]; omega
theorem rows_flat {u : World} {b k : Nat} {l : List (List Value)} (hl : ∀ x ∈ l, x.length = k) (h : u.rangeAt b 0 l.flatten) : Rows u b k l := fun i x hx j v hv => by
  have := h (i * k + j) v (flatten_at hl hx j v hv)
  rwa [Nat.zero_add] at this
theorem flat_rows {u : World} {b k : Nat} (hk : 0 < k) {l : List (List Value)} (hl : ∀ x ∈ l, x.length = k) (h : Rows u b k l) : u.rangeAt b 0 l.flatten := fun n v hv => by
  have hn : n < l.length * k := by rw [← flatten_len hl]; exact (List.getElem?_eq_some_iff.1 hv).1
  have hi : n / k < l.length := Nat.div_lt_of_lt_mul (by rw [Nat.mul_comm]; exact hn)
  have hx : l[n / k]? = some l[n / k] := List.getElem?_eq_getElem hi
  have hxl : (l[n / k]).length = k := hl _ (List.getElem_mem hi)
  have hj : n % k < (l[n / k]).length := by rw [hxl]; exact Nat.mod_lt _ hk
  have e := flatten_at hl hx (n % k) _ (List.getElem?_eq_getElem hj)
  have en : n / k * k + n % k = n := by rw [Nat.mul_comm]; exact Nat.div_add_mod n k
  rw [en, hv] at e
  have := h (n / k) _ hx (n % k) _ (List.getElem?_eq_getElem hj)
  rw [en] at this
  rw [Nat.zero_add, this]
  exact e.symm
theorem flat_one {l : List ByteArray} : ∀ v ∈ (l.map bcells).flatten, v.oneCell' = true := by
  intro v hv
  obtain ⟨x, hx, hv⟩ := List.mem_flatten.1 hv
  obtain ⟨b, _, rfl⟩ := List.mem_map.1 hx
  exact bcells_one b v hv
theorem copyRun (h : IsD w y D) : (Builtin.copy_ #[56, 56] 3 #[.slice y.na D.now.length y.cN, .slice y.la D.lasts.length y.cL]).run Tryz.prog w = .ok (.int .i64 (D.lasts.length : Int)) (w.setCells y.N 0 (D.lasts.map bcells).flatten) := by
  have hz : (Go.sizeOf 75).run Tryz.prog w = .ok 32 w := by kernel_rfl
  have hmin : Nat.min D.lasts.length D.now.length = D.lasts.length := by rw [h.shp.len]; exact Nat.min_self _
  have hfl := flatten_len (bmap_len h.shp.blkL)
  rw [List.length_map] at hfl
  rcases Nat.eq_zero_or_pos D.lasts.length with h0 | h0
  · have hnil : D.lasts = [] := List.eq_nil_of_length_eq_zero h0
    have hl : ∀ (x : Addr), (loadCells x 0).run Tryz.prog w = .ok #[] w := fun x => by simpa using run_loadCells_list (P := Tryz.prog) w x [] (by simp)
    rw [hnil] at hmin ⊢
    cases y.na <;> cases y.la <;> simp [Builtin.copy_, run_underlying Tryz.underlying56, Builtin.lenOf, Builtin.firstCells, hz, storeCells, hl, World.setCells, goInt, Nat.min_def]
  · have hla := h.shp.laE h0
    have hna := h.shp.naE h0
    have hr := flat_rows (by omega) (bmap_len h.shp.blkL) h.bod.rL
    have hld := run_loadCells_list (P := Tryz.prog) w ⟨y.L, 0, none⟩ _ (fun j v hv => by rw [Addr.add_mid]; exact hr j v hv)
    rw [hfl] at hld
    have hst := run_storeCells_cells (P := Tryz.prog) y.N 0 (D.lasts.map bcells).flatten 0 w (fun j hj => by simpa using (h.bod.tN j (by rw [hfl] at hj; exact hj)).1) (fun j hj => by simpa using (h.bod.tN j (by rw [hfl] at hj; exact hj)).2) flat_one
    simp only [Nat.add_zero] at hst
    rw [hla, hna]
    simp only [Builtin.copy_, List.getElem?_toArray, Sem.run_bind, Sem.run_pure, Result.andThen_ok]
    simp [run_underlying Tryz.underlying56, Builtin.lenOf, Builtin.firstCells, hz, hmin, hld, hst, goInt]
theorem IsD.copied (h : IsD w y D) : IsD (w.setCells y.N 0 (D.lasts.map bcells).flatten) y { D with now := D.lasts } := by
  rcases Nat.eq_zero_or_pos D.lasts.length with h0 | h0
  · have hnil : D.lasts = [] := List.eq_nil_of_length_eq_zero h0
    have hnn : D.now = [] := List.eq_nil_of_length_eq_zero (by rw [h.shp.len]; exact h0)
    have e : ({ D with now := D.lasts } : Dsk) = D := by cases D; simp_all
    rw [e, hnil]
    exact h
  · have hn := h.shp.nL h0
    have hfl := flatten_len (bmap_len h.shp.blkL)
    rw [List.length_map] at hfl
    have o : ∀ k, k ≠ y.N → (w.setCells y.N 0 (D.lasts.map bcells).flatten).heap[k]? = w.heap[k]? := fun k hk => heap_setCells_ne _ _ _ _ _ hk
    have hd := h.head.of_block (o _ (fun e => hn.2.1 e.symm))
    have hb := (h.bod.of_blocks (w' := w) h.shp (fun _ => ⟨rfl, rfl⟩) (fun _ => rfl) (fun _ => rfl))
    have ho := (Bod.mk (D := { D with now := [], lasts := [] }) (w := w) (y := y) (by intro j x hx; simp at hx) (by intro j x hx; simp at hx) hb.oW (by intro j hj; simp at hj) (by intro j hj; simp at hj) hb.rK)
    have s := h.shp
    refine ⟨⟨?_, hd.thr⟩, ⟨rows_of_block (o _ hn.2.2) h.bod.rL, ?_, ?_, there_of_block (o _ hn.2.2) h.bod.tL, World.there_setCells h.bod.tN _ _ _, ?_⟩, ?_, fun k q => by rw [size_setCells']; exact h.small k q⟩
    · have := hd.rng
      simpa [headc, s.len] using this
    · exact rows_flat (bmap_len s.blkL) (World.rangeAt_setCells_same _ _ _ _ (fun j hj => h.bod.tN j (by rw [hfl] at hj; exact hj)))
    · have := h.bod.oW
      refine ⟨this.1, ?_⟩
      rcases this.2 with q | ⟨g, cap, cur, hv, hg, hh, r⟩
      · exact .inl q
      · have hwa : y.wa = some ⟨g, 0, none⟩ := by simpa using congrArg (fun v => match v with | .slice a _ _ => a | _ => none) hv
        have hne : y.wa ≠ none := by rw [hwa]; simp
        have hg' : g = y.W := by
          rcases s.waE with q | q
          · exact absurd q hne
          · rw [hwa] at q; simpa using q
        subst hg'
        exact .inr ⟨_, cap, cur, hv, hg, by rw [o _ (s.nW hne).2.2]; exact hh, r⟩
    · intro j z hz
      have h0 : 0 < D.keep.length := Nat.lt_of_le_of_lt (Nat.zero_le _) (List.getElem?_eq_some_iff.1 hz).1
      exact (World.cell?_of_block (w := w) (a := ⟨y.K, j, none⟩) (o _ (s.nK h0).2.2.1)).trans (h.bod.rK j z hz)
    · exact ⟨rfl, s.most, s.blkL, s.blkL, s.blkW, s.deedsB, s.leftB, s.waitsB, s.capL, by have := s.capN; rw [s.len] at this; exact this, s.capK, s.keepB, s.laE, s.naE, s.waE, s.kaE, s.nL, s.nW, s.nK⟩
end

/-- A builtin by its run. -/
theorem step_builtin_run {P : Program} {ops : Array Oper} {o : Oper} {a : Act} {w w' : World} {K : Act → World → Prop} {Q : Exit → Act → World → Prop} {E : Prop} (hgd : o.guard = none) (d s : Operand) (dT sT : TypeId)
    (ho : o.op = .call { callee := .builtin .copy, args := #[d, s], argTypes := #[dT, sT] }) (vd vs v : Value) (hd : a.eval d = vd) (hs : a.eval s = vs)
    (hr : (Builtin.copy_ #[dT, sT] o.type #[vd, vs]).run P w = .ok v w') (h : K (a.put o.dst v) w') :
    if Region.wanted o (yielded ops a.tmps) = true then Oper.wp P o a w K Q else E := by
  have hw : Region.wanted o (yielded ops a.tmps) = true := by simp [Region.wanted, hgd]
  rw [if_pos hw]
  unfold Oper.wp execOp
  simp only [ho, resolve, invoke, builtin, Sem.run_bind, Sem.run_pure, Result.andThen_ok, List.map_toArray, List.map_cons, List.map_nil, hd, hs, hr]
  exact h

/-- The blocks that a crash turns. -/
def Lay.three (y : Lay) (b : Nat) : Prop := b = y.p ∨ b = y.L ∨ b = y.N

attribute [local go_sem ↓] load_write
set_option maxRecDepth 100000 in
set_option maxHeartbeats 1000000 in
theorem Crash_on (y : Lay) (D : Dsk) (w : World) (ka : Option Addr) (kl : List Int) (kc : Nat) (h : IsD w y D) (hk : KeepIs w y ka kl) (hkl : kl.length < 2 ^ 62) (hon : D.on = true) :
    Calls Tryz.prog 16 #[.pointer (some ⟨y.p, 0, none⟩), .slice ka kl.length kc] w fun e w' => e = .returned (.int .i64 (lostN kl D.waits.length : Int)) ∧ Goes y w (D.crash kl) w' := by
  have hwa : 0 < D.waits.length → y.wa = some ⟨y.W, 0, none⟩ := fun q => (h.wait_at (List.getElem?_eq_getElem q)).1
  have hwB := h.shp.waitsB
  have c1 := h.head.c1
  rw [hon] at c1
  have c4 := h.head.c4
  have f6 := h.head.fz 6 (by omega)
  have f7 := h.head.fz 7 (by omega)
  have f8 := h.head.fz 8 (by omega)
  have c6 := h.head.c6
  have c7 := h.head.c7
  have c8 := h.head.c8
  generalize hwv : y.wa = wa at *
  have H := Lib.hid (And.intro h (And.intro hk (And.intro hon (And.intro hwv hwa))))
  clear h hk hon hwa hwv
  go_enter Tryz.func16, Tryz.ntmps16
  go_wp2_with (go_at_call 29; refine (none_is y D _ H.out.1).mono ?_; rintro e w' ⟨rfl, rfl⟩)
  have I1 := H.out.1.set_noK
  have o1 : Only y.three w' (((w'.setCell ⟨y.p, 6, none⟩ (.bool false)).setCell ⟨y.p, 7, none⟩ (.int .i64 0)).setCell ⟨y.p, 8, none⟩ (.slice none 0 0)) := (((Only.refl _ _).setCell (.inl (.inl rfl)) _).setCell (.inl (.inl rfl)) _).setCell (.inl (.inl rfl)) _
  have HI := Lib.hid (And.intro I1 o1)
  clear I1 o1
  generalize ((w'.setCell ⟨y.p, 6, none⟩ (.bool false)).setCell ⟨y.p, 7, none⟩ (.int .i64 0)).setCell ⟨y.p, 8, none⟩ (.slice none 0 0) = w1 at *
  clear c1 c4 f6 f7 f8 c6 c7 c8
  go_loopw [5, 24] (fun lo i wr => ∃ k : Nat, k ≤ D.waits.length ∧ i = .int .i64 (k : Int) ∧ lo = .int .i64 (lostN kl k : Int) ∧ IsD wr y.noK { D.disarm with lasts := D.crashL kl k } ∧ Only y.three w' wr) (fun _ i _ => D.waits.length - (intOf i).toNat)
  case atStart => exact ⟨0, Nat.zero_le _, rfl, rfl, HI.out.1, HI.out.2⟩
  case round =>
    obtain ⟨k, hkn, rfl, rfl, I, ho⟩ := hrel
    have hlo := lostN_le kl k
    by_cases hlt : k < D.waits.length
    · obtain rfl : wa = some ⟨y.W, 0, none⟩ := H.out.2.2.2.2 (by omega)
      have hx : D.waits[k]? = some D.waits[k] := List.getElem?_eq_getElem hlt
      have hxs : (D.waits[k]).2.size = 32 := (H.out.1.shp.blkW _ (List.getElem_mem hlt)).1
      have hxk : (D.waits[k]).1 < D.lasts.length := (H.out.1.shp.blkW _ (List.getElem_mem hlt)).2
      have hwr := (I.wait_at (k := k) hx).2
      have HX := Lib.hid hx
      clear hx
      generalize D.waits[k] = x at *
      have hl33 : (wcells x).length = 33 := by rw [wcells_len, hxs]
      have hrow : isRow wr (.pointer (some ⟨y.W, k * 33, none⟩)) 33 := ⟨_, _, _, rfl, hwr, hl33⟩
      have hval : (rowAt wr (.pointer (some ⟨y.W, k * 33, none⟩)) 33).toArray = warr (.int .i64 (x.1 : Int)) (bcells x.2) := by
        show (rowAt wr (.pointer (some ⟨y.noK.W, k * 33, none⟩)) 33).toArray = _
        rw [rowAt_eq hwr hl33]; rfl
      have hw1 : (warr (.int .i64 (x.1 : Int)) (bcells x.2)).all (·.oneCell') = true := all_oneCell_toArray (wcells_one x)
      have hwi : (Tryz.prog.info? 77).map (·.size) = some (warr (.int .i64 (x.1 : Int)) (bcells x.2)).size := by rw [warr_size, bcells_len, hxs]; exact writeSize
      have hws : 33 = (warr (.int .i64 (x.1 : Int)) (bcells x.2)).size := by rw [warr_size, bcells_len, hxs]
      have HR := Lib.hid (And.intro I (And.intro ho (And.intro hw1 (And.intro hwi (And.intro hws (And.intro hxs hxk))))))
      clear I ho hw1 hwi hws hwr hl33 hxs hxk
      by_cases hkk : k < kl.length
      · obtain ⟨a, rfl, hca⟩ := H.out.2.1.at_ k _ (List.getElem?_eq_getElem hkk)
        have hoff := H.out.2.1.off a (by omega) rfl
        have hab : (a.add k).block = a.block := by unfold Addr.add; split <;> rfl
        have hbl := HR.out.2.1.block a.block hoff.1 (fun q => by rcases q with q | q | q; exact hoff.2.1 q; exact hoff.2.2.1 q; exact hoff.2.2.2 q)
        have hcw : wr.cell? (a.add k) = some (.int .i64 kl[k]) := by
          rw [World.cell?_of_block (w := w') (a := a.add k) (by rw [hab]; exact hbl)]; exact hca
        have hcell : (wr.alloc (.cells (warr (.int .i64 (x.1 : Int)) (bcells x.2)) 77)).cell? (a.add k) = some (.int .i64 kl[k]) := by
          rw [World.cell?_alloc_lt _ _ _ (by rw [hab]; exact Nat.lt_of_lt_of_le hoff.1 HR.out.2.1.size)]; exact hcw
        have hkg : odd (kl.getD k 0) = odd kl[k] := by simp [List.getD, hkk]
        have HZ := Lib.hid hkg
        clear hca hoff hab hbl hcw hkg
        generalize kl[k] = z at *
        cases ho : odd z
        · have hbit : (bits .and .i64 z 1 == 1) = false := by rw [i64_and1]; exact ho
          have HE := Lib.hid (show odd (kl.getD k 0) = false by rw [HZ.out]; exact ho)
          clear ho
          go_wp2_with (refine wpList_store_new rfl 77 (.tmp 7) (.tmp 28) rfl _ (warr (.int .i64 (x.1 : Int)) (bcells x.2)) rfl rfl HR.out.2.2.2.1 HR.out.2.2.2.2.1 HR.out.2.2.1 ?_)
          refine ⟨⟨k + 1, by omega, by go_num, ?_, ?_, ?_⟩, by simp [intOf]; omega⟩
          · rw [lostN_even HE.out]; go_num
          · rw [crashL_even HX.out HE.out]; exact HR.out.1.alloc _
          · exact HR.out.2.1.alloc _
        · have hbit : (bits .and .i64 z 1 == 1) = true := by rw [i64_and1]; exact ho
          have HE := Lib.hid (show odd (kl.getD k 0) = true by rw [HZ.out]; exact ho)
          clear ho
          go_wp2_with (refine wpList_store_new rfl 77 (.tmp 7) (.tmp 28) rfl _ (warr (.int .i64 (x.1 : Int)) (bcells x.2)) rfl rfl HR.out.2.2.2.1 HR.out.2.2.2.2.1 HR.out.2.2.1 ?_)
          have I2 := HR.out.1.alloc (.cells (warr (.int .i64 (x.1 : Int)) (bcells x.2)) 77)
          have o2 := HR.out.2.1.alloc (.cells (warr (.int .i64 (x.1 : Int)) (bcells x.2)) 77)
          have hxs := HR.out.2.2.2.2.2.1
          have hxk := HR.out.2.2.2.2.2.2
          have r2 : (wr.alloc (.cells (warr (.int .i64 (x.1 : Int)) (bcells x.2)) 77)).rangeAt wr.heap.size 0 (.int .i64 (x.1 : Int) :: bcells x.2) := by
            have := World.rangeAt_of_block (heap_alloc_last wr (.cells (warr (.int .i64 (x.1 : Int)) (bcells x.2)) 77)) 0 33
            have e : (warr (.int .i64 (x.1 : Int)) (bcells x.2)).extract 0 (0 + 33) = warr (.int .i64 (x.1 : Int)) (bcells x.2) := by
              rw [Array.extract_eq_self_of_le]
              have := HR.out.2.2.2.2.1
              omega
            rw [e, warr_list] at this
            exact this
          have hLs : y.L < wr.heap.size := HR.out.1.small y.L (.inr (.inl rfl))
          generalize wr.alloc (.cells (warr (.int .i64 (x.1 : Int)) (bcells x.2)) 77) = w2 at *
          have hbL : wr.heap.size ≠ y.L := by omega
          generalize wr.heap.size = blk at *
          have r20 : w2.cell? ⟨blk, 0, none⟩ = some (.int .i64 (x.1 : Int)) := by simpa using r2 0 _ rfl
          have r21 : w2.rangeAt blk 1 (bcells x.2) := fun j v hv => by
            have := r2 (j + 1) v (by simpa using hv)
            rw [Nat.zero_add, Nat.add_comm] at this
            exact this
          have hlen := crashL_len D kl k
          have c2 := I2.head.c2
          change w2.cell? ⟨y.p, 2, none⟩ = some (.slice y.la (D.crashL kl k).length y.cL) at c2
          rw [hlen, show y.la = some ⟨y.L, 0, none⟩ from H.out.1.shp.laE (by omega)] at c2
          have t2 : w2.there y.L (x.1 * 32) 32 := fun j hj => by
            have := I2.bod.tL (x.1 * 32 + j) (by rw [show ({ D.disarm with lasts := D.crashL kl k } : Dsk).lasts.length = D.lasts.length from hlen]; have := Nat.mul_le_mul_right 32 (show x.1 + 1 ≤ D.lasts.length from hxk); omega)
            rw [Nat.zero_add] at this
            exact this
          have hpL : y.p ≠ y.L := fun e => (H.out.1.shp.nL (by omega)).1 e.symm
          have hu63 := Tryz.underlying75
          have h1b := bcells_one x.2
          have hlenb : (bcells x.2).length = 32 := by rw [bcells_len, hxs]
          have hi63 : (Tryz.prog.info? 75).map (·.size) = some (bcells x.2).length := by rw [hlenb]; exact blockSize
          have HK := Lib.hid (And.intro I2 (And.intro o2 (And.intro hxs hlen)))
          clear I2 o2 hxs hlen r2
          go_region_held3 (fun w' => w'.cell? ⟨y.p, 2, none⟩ = some (.slice (some ⟨y.L, 0, none⟩) D.lasts.length y.cL) ∧ w'.cell? ⟨blk, 0, none⟩ = some (.int .i64 (x.1 : Int)) ∧ w'.rangeAt blk 1 (bcells x.2) ∧ w'.there y.L (x.1 * 32) 32) (first
            | (simp only [World.cell?_drew]; go_keep_ranges)
            | (go_split_ands; exact ⟨(World.cell?_setCells_out _ _ _ _ _ (fun e => absurd e hpL)).trans (by assumption), (World.cell?_setCells_out _ _ _ _ _ (fun e => absurd e hbL)).trans (by assumption), World.rangeAt_setCells_apart (by assumption) _ _ _ (.inl hbL), World.there_setCells (by assumption) _ _ _⟩)) (first | fail)
          go_wp2
          refine ⟨⟨k + 1, by omega, by go_num, ?_, ?_, ?_⟩, by simp [intOf]; omega⟩
          · rw [lostN_odd HE.out]
          · rw [crashL_odd HX.out HE.out]; exact (HK.out.1.drew).set_lasts x.1 (by rw [show ({ D.disarm with lasts := D.crashL kl k } : Dsk).lasts.length = D.lasts.length from HK.out.2.2.2]; exact hxk) x.2 HK.out.2.2.1
          · exact Only.setCells (.inl (.inr (.inl rfl))) _ _ HK.out.2.1.drew
      · have HE := Lib.hid (show odd (kl.getD k 0) = false by simp [List.getD, List.getElem?_eq_none (show kl.length ≤ k by omega), odd])
        go_wp2_with (refine wpList_store_new rfl 77 (.tmp 7) (.tmp 28) rfl _ (warr (.int .i64 (x.1 : Int)) (bcells x.2)) rfl rfl HR.out.2.2.2.1 HR.out.2.2.2.2.1 HR.out.2.2.1 ?_)
        refine ⟨⟨k + 1, by omega, by go_num, ?_, ?_, ?_⟩, by simp [intOf]; omega⟩
        · rw [lostN_even HE.out]; go_num
        · rw [crashL_even HX.out HE.out]; exact HR.out.1.alloc _
        · exact HR.out.2.1.alloc _
    · obtain rfl : k = D.waits.length := by omega
      have c4 := I.head.c4
      have f4 := I.head.fz 4 (by omega)
      change wr.cell? ⟨y.p, 4, none⟩ = _ at c4
      change wr.frozen? ⟨y.p, 4, none⟩ = _ at f4
      have HR := Lib.hid (And.intro I ho)
      clear I ho hlt
      go_wp2
      have I2 := HR.out.1.set_noW
      have o2 : Only y.three w' (wr.setCell ⟨y.p, 4, none⟩ (.slice none 0 0)) := HR.out.2.setCell (.inl (.inl rfl)) _
      change IsD (wr.setCell ⟨y.p, 4, none⟩ (.slice none 0 0)) _ _ at I2
      generalize wr.setCell ⟨y.p, 4, none⟩ (.slice none 0 0) = w2 at *
      have hpN : 0 < D.lasts.length → y.p ≠ y.N := fun q e => (H.out.1.shp.nL q).2.1 e.symm
      have hcr := copyRun I2.drew
      have I3 := I2.drew.copied
      have o3 : Only y.three w' (w2.drew.setCells y.N 0 ((D.crashL kl D.waits.length).map bcells).flatten) := Only.setCells (.inl (.inr (.inr rfl))) _ _ o2.drew
      have hfl : ((D.crashL kl D.waits.length).map bcells).flatten.length = D.lasts.length * 32 := by
        rw [flatten_len (bmap_len I2.shp.blkL), List.length_map, crashL_len]
      change (Builtin.copy_ _ _ #[.slice y.na D.now.length y.cN, .slice y.la (D.crashL kl D.waits.length).length y.cL]).run _ _ = .ok (.int .i64 ((D.crashL kl D.waits.length).length : Int)) (w2.drew.setCells y.N 0 ((D.crashL kl D.waits.length).map bcells).flatten) at hcr
      change IsD (w2.drew.setCells y.N 0 ((D.crashL kl D.waits.length).map bcells).flatten) _ _ at I3
      have c2 := I2.head.c2
      have c3 := I2.head.c3
      change w2.cell? ⟨y.p, 2, none⟩ = some (.slice y.la (D.crashL kl D.waits.length).length y.cL) at c2
      change w2.cell? ⟨y.p, 3, none⟩ = some (.slice y.na D.now.length y.cN) at c3
      have c1 := I3.head.c1
      have f1 := I3.head.fz 1 (by omega)
      have d2 := I3.head.c2
      have d3 := I3.head.c3
      change (w2.drew.setCells y.N 0 ((D.crashL kl D.waits.length).map bcells).flatten).cell? ⟨y.p, 1, none⟩ = _ at c1
      change (w2.drew.setCells y.N 0 ((D.crashL kl D.waits.length).map bcells).flatten).frozen? ⟨y.p, 1, none⟩ = _ at f1
      have HD := Lib.hid (And.intro hcr (And.intro I3 (And.intro o3 (And.intro (And.intro d2 d3) (And.intro c1 f1)))))
      clear I2 o2 hcr I3 o3 d2 d3 c4 f4 c1 f1
      have hcell : ∀ j, j = 2 ∨ j = 3 → (w2.drew.setCells y.N 0 ((D.crashL kl D.waits.length).map bcells).flatten).cell? ⟨y.p, j, none⟩ = w2.cell? ⟨y.p, j, none⟩ := fun j _ => by
        rcases Nat.eq_zero_or_pos D.lasts.length with q | q
        · have e : ((D.crashL kl D.waits.length).map bcells).flatten = [] := List.eq_nil_of_length_eq_zero (by rw [hfl, q])
          rw [e]; rfl
        · rw [World.cell?_setCells_out _ _ _ _ _ (fun e => absurd e (hpN q))]; rfl
      have HC := Lib.hid hcell
      clear hcell hfl hpN
      go_region_held_law (fun u => u.cell? ⟨y.p, 3, none⟩ = some (.slice y.na D.now.length y.cN) ∧ u.cell? ⟨y.p, 2, none⟩ = some (.slice y.la (D.crashL kl D.waits.length).length y.cL)) (first
        | (simp only [World.cell?_drew]; exact ⟨c3, c2⟩)
        | (exact ⟨(HC.out 3 (.inr rfl)).trans c3, (HC.out 2 (.inl rfl)).trans c2⟩)) (first
        | (refine step_builtin_run rfl (.tmp 59) (.tmp 63) 56 56 rfl _ _ _ rfl rfl HD.out.1 ?_))
      have c1 := HD.out.2.2.2.2.1
      have f1 := HD.out.2.2.2.2.2
      have hlo' := hlo
      clear c2 c3
      generalize w2.drew.setCells y.N 0 ((D.crashL kl D.waits.length).map bcells).flatten = w3 at *
      go_wp2
      go_ret
      refine ⟨rfl, y.noK.noW, rfl, ?_, ?_, ?_⟩
      · exact HD.out.2.1.set_on false
      · intro b q
        rcases q with q | q | q | q | q
        · exact .inl (.inl q)
        · exact .inl (.inr (.inl q))
        · exact .inl (.inr (.inr (.inl q)))
        · exact .inl (.inl q)
        · exact .inl (.inl q)
      · exact (HD.out.2.2.1.setCell (.inl (.inl rfl)) _).mono (fun i _ q => by
          rcases q with q | q | q
          · exact .inl q
          · exact .inr (.inl q)
          · exact .inr (.inr (.inl q)))
end Go.Proofs.YtbcdmcafobjpcaaGreatDoor.Sec
