import Derived.Test.YtiiioeodanmieaaGreatDoorYSecA
set_option linter.unusedVariables false
set_option linter.unusedSimpArgs false
-- SecCrash
namespace Go.Proofs.YtiiioeodanmieaaGreatDoor.Sec
open Go.RowKit

def odd (z : Int) : Bool := z % 2 == 1
def Dsk.crashL (D : Dsk) (kl : List Int) : Nat → List ByteArray
  | 0 => D.lasts
  | n + 1 => match D.waits[n]? with
    | some x => if odd (kl.getD n 0) then (D.crashL kl n).set x.1 x.2 else D.crashL kl n
    | none => D.crashL kl n
def lostN (kl : List Int) : Nat → Nat
  | 0 => 0
  | n + 1 => if odd (kl.getD n 0) then lostN kl n else lostN kl n + 1
def Dsk.crash (D : Dsk) (kl : List Int) : Dsk :=
  { D with on := false, lasts := D.crashL kl D.waits.length, now := D.crashL kl D.waits.length, waits := [], lit := false, left := 0, keep := [] }
def Dsk.disarm (D : Dsk) : Dsk := { D with lit := false, left := 0, keep := [] }
theorem lostN_le (kl : List Int) : ∀ n, lostN kl n ≤ n
  | 0 => Nat.le_refl _
  | n + 1 => by have := lostN_le kl n; unfold lostN; split <;> omega
theorem crashL_len (D : Dsk) (kl : List Int) : ∀ n, (D.crashL kl n).length = D.lasts.length
  | 0 => rfl
  | n + 1 => by
    have := crashL_len D kl n
    unfold Dsk.crashL
    split
    · split <;> simp [this]
    · exact this
structure KeepIs (w : World) (y : Lay) (ka : Option Addr) (kl : List Int) : Prop where
  at_ : ∀ j z, kl[j]? = some z → ∃ a : Addr, ka = some a ∧ w.cell? (a.add j) = some (.int .i64 z)
  off : ∀ a : Addr, 0 < kl.length → ka = some a → a.block < w.heap.size ∧ a.block ≠ y.p ∧ a.block ≠ y.L ∧ a.block ≠ y.N

theorem i64_and1 (n : Int) : bits .and .i64 n 1 = n % 2 := by
  have h1 : (BitVec.ofInt 64 1).toNat = 2 ^ 1 - 1 := by decide
  have key : (BitVec.ofInt 64 n &&& BitVec.ofInt 64 1).toNat = (n % ((2 ^ 64 : Nat) : Int)).toNat % 2 ^ 1 := by
    rw [BitVec.toNat_and, BitVec.toNat_ofInt, h1, Nat.and_two_pow_sub_one_eq_mod]
  show IntKind.i64.wrap ((BitVec.ofInt 64 n &&& BitVec.ofInt 64 1).toNat : Nat) = n % 2
  rw [key, IntKind.wrap_i64]
  omega
theorem crashL_odd {D : Dsk} {kl : List Int} {k : Nat} {x : Nat × ByteArray} (hx : D.waits[k]? = some x) (ho : odd (kl.getD k 0) = true) : D.crashL kl (k + 1) = (D.crashL kl k).set x.1 x.2 := by
  rw [Dsk.crashL, hx]; simp only [ho, if_true]
theorem crashL_even {D : Dsk} {kl : List Int} {k : Nat} {x : Nat × ByteArray} (hx : D.waits[k]? = some x) (ho : odd (kl.getD k 0) = false) : D.crashL kl (k + 1) = D.crashL kl k := by
  rw [Dsk.crashL, hx]; simp only [ho, Bool.false_eq_true, if_false]
theorem lostN_odd {kl : List Int} {k : Nat} (ho : odd (kl.getD k 0) = true) : lostN kl (k + 1) = lostN kl k := by rw [lostN, if_pos ho]
theorem lostN_even {kl : List Int} {k : Nat} (ho : odd (kl.getD k 0) = false) : lostN kl (k + 1) = lostN kl k + 1 := by rw [lostN, if_neg (by rw [ho]; simp)]

section
variable {w : World} {y : Lay} {D : Dsk}
theorem flatten_at {k : Nat} : ∀ {l : List (List Value)} (_ : ∀ x ∈ l, x.length = k) {i : Nat} {x : List Value}, l[i]? = some x → ∀ j v, x[j]? = some v → l.flatten[i * k + j]? = some v
  | [], _, i, x, hx, _, _, _ => by simp at hx
  | a :: r, hl, 0, x, hx, j, v, hv => by
    obtain rfl : a = x := by simpa using hx
    rw [List.flatten_cons, Nat.zero_mul, Nat.zero_add, List.getElem?_append_left (List.getElem?_eq_some_iff.1 hv).1]
    exact hv
  | a :: r, hl, i + 1, x, hx, j, v, hv => by
    have ha : a.length = k := hl a (by simp)
    have := flatten_at (l := r) (fun x hx => hl x (by simp [hx])) (by simpa using hx) j v hv
    rw [List.flatten_cons, List.getElem?_append_right (by rw [ha, Nat.add_mul]; omega), ha, show (i + 1) * k + j - k = i * k + j by rw [Nat.add_mul]; omega]
    exact this
theorem flatten_len {k : Nat} : ∀ {l : List (List Value)} (_ : ∀ x ∈ l, x.length = k), l.flatten.length = l.length * k
  | [], _ => by simp
  | a :: r, hl => by
    have := flatten_len (l := r) (fun x hx => hl x (by simp [hx]))
    rw [List.flatten_cons, List.length_append, this, hl a (by simp), List.length_cons, Nat.add_mul]; omega
theorem rows_flat {u : World} {b k : Nat} {l : List (List Value)} (hl : ∀ x ∈ l, x.length = k) (h : u.rangeAt b 0 l.flatten) : Rows u b k l := fun i x hx j v hv => by
  have := h (i * k + j) v (flatten_at hl hx j v hv)
  rwa [Nat.zero_add] at this
theorem flat_rows {u : World} {b k : Nat} (hk : 0 < k) {l : List (List Value)} (hl : ∀ x ∈ l, x.length = k) (h : Rows u b k l) : u.rangeAt b 0 l.flatten := fun n v hv => by
  have hn : n < l.length * k := by rw [← flatten_len hl]; exact (List.getElem?_eq_some_iff.1 hv).1
  have hi : n / k < l.length := Nat.div_lt_of_lt_mul (by rw [Nat.mul_comm]; exact hn)
  have hx : l[n / k]? = some l[n / k] := List.getElem?_eq_getElem hi
  have hxl : (l[n / k]).length = k := hl _ (List.getElem_mem hi)
  have hj : n % k < (l[n / k]).length := by rw [hxl]; exact Nat.mod_lt _ hk
  have e := flatten_at hl hx (n % k) _ (List.getElem?_eq_getElem hj)
  have en : n / k * k + n % k = n := by rw [Nat.mul_comm]; exact Nat.div_add_mod n k
  rw [en, hv] at e
  have := h (n / k) _ hx (n % k) _ (List.getElem?_eq_getElem hj)
  rw [en] at this
  rw [Nat.zero_add, this]
  exact e.symm
theorem flat_one {l : List ByteArray} : ∀ v ∈ (l.map bcells).flatten, v.oneCell' = true := by
  intro v hv
  obtain ⟨x, hx, hv⟩ := List.mem_flatten.1 hv
  obtain ⟨b, _, rfl⟩ := List.mem_map.1 hx
  exact bcells_one b v hv
theorem copyRun (h : IsD w y D) : (Builtin.copy_ #[188, 188] 3 #[.slice y.na D.now.length y.cN, .slice y.la D.lasts.length y.cL]).run Tryz.prog w = .ok (.int .i64 (D.lasts.length : Int)) (w.setCells y.N 0 (D.lasts.map bcells).flatten) := by
  have hz : (Go.sizeOf 254).run Tryz.prog w = .ok 32 w := by kernel_rfl
  have hmin : Nat.min D.lasts.length D.now.length = D.lasts.length := by rw [h.shp.len]; exact Nat.min_self _
  have hfl := flatten_len (bmap_len h.shp.blkL)
  rw [List.length_map] at hfl
  rcases Nat.eq_zero_or_pos D.lasts.length with h0 | h0
  · have hnil : D.lasts = [] := List.eq_nil_of_length_eq_zero h0
    have hl : ∀ (x : Addr), (loadCells x 0).run Tryz.prog w = .ok #[] w := fun x => by simpa using run_loadCells_list (P := Tryz.prog) w x [] (by simp)
    rw [hnil] at hmin ⊢
    cases y.na <;> cases y.la <;> simp [Builtin.copy_, run_underlying Tryz.underlying188, Builtin.lenOf, Builtin.firstCells, hz, storeCells, hl, World.setCells, goInt, Nat.min_def]
  · have hla := h.shp.laE h0
    have hna := h.shp.naE h0
    have hr := flat_rows (by omega) (bmap_len h.shp.blkL) h.bod.rL
    have hld := run_loadCells_list (P := Tryz.prog) w ⟨y.L, 0, none⟩ _ (fun j v hv => by rw [Addr.add_mid]; exact hr j v hv)
    rw [hfl] at hld
    have hst := run_storeCells_cells (P := Tryz.prog) y.N 0 (D.lasts.map bcells).flatten 0 w (fun j hj => by simpa using (h.bod.tN j (by rw [hfl] at hj; exact hj)).1) (fun j hj => by simpa using (h.bod.tN j (by rw [hfl] at hj; exact hj)).2) flat_one
    simp only [Nat.add_zero] at hst
    rw [hla, hna]
    simp only [Builtin.copy_, List.getElem?_toArray, Sem.run_bind, Sem.run_pure, Result.andThen_ok]
    simp [run_underlying Tryz.underlying188, Builtin.lenOf, Builtin.firstCells, hz, hmin, hld, hst, goInt]
theorem IsD.copied (h : IsD w y D) : IsD (w.setCells y.N 0 (D.lasts.map bcells).flatten) y { D with now := D.lasts } := by
  rcases Nat.eq_zero_or_pos D.lasts.length with h0 | h0
  · have hnil : D.lasts = [] := List.eq_nil_of_length_eq_zero h0
    have hnn : D.now = [] := List.eq_nil_of_length_eq_zero (by rw [h.shp.len]; exact h0)
    have e : ({ D with now := D.lasts } : Dsk) = D := by cases D; simp_all
    rw [e, hnil]
    exact h
  · have hn := h.shp.nL h0
    have hfl := flatten_len (bmap_len h.shp.blkL)
    rw [List.length_map] at hfl
    have o : ∀ k, k ≠ y.N → (w.setCells y.N 0 (D.lasts.map bcells).flatten).heap[k]? = w.heap[k]? := fun k hk => heap_setCells_ne _ _ _ _ _ hk
    have hd := h.head.of_block (o _ (fun e => hn.2.1 e.symm))
    have hb := (h.bod.of_blocks (w' := w) h.shp (fun _ => ⟨rfl, rfl⟩) (fun _ => rfl) (fun _ => rfl))
    have ho := (Bod.mk (D := { D with now := [], lasts := [] }) (w := w) (y := y) (by intro j x hx; simp at hx) (by intro j x hx; simp at hx) hb.oW (by intro j hj; simp at hj) (by intro j hj; simp at hj) hb.rK)
    have s := h.shp
    refine ⟨⟨?_, hd.thr⟩, ⟨rows_of_block (o _ hn.2.2) h.bod.rL, ?_, ?_, there_of_block (o _ hn.2.2) h.bod.tL, World.there_setCells h.bod.tN _ _ _, ?_⟩, ?_, fun k q => by rw [size_setCells']; exact h.small k q⟩
    · have := hd.rng
      simpa [headc, s.len] using this
    · exact rows_flat (bmap_len s.blkL) (World.rangeAt_setCells_same _ _ _ _ (fun j hj => h.bod.tN j (by rw [hfl] at hj; exact hj)))
    · have := h.bod.oW
      refine ⟨this.1, ?_⟩
      rcases this.2 with q | ⟨g, cap, cur, hv, hg, hh, r⟩
      · exact .inl q
      · have hwa : y.wa = some ⟨g, 0, none⟩ := by simpa using congrArg (fun v => match v with | .slice a _ _ => a | _ => none) hv
        have hne : y.wa ≠ none := by rw [hwa]; simp
        have hg' : g = y.W := by
          rcases s.waE with q | q
          · exact absurd q hne
          · rw [hwa] at q; simpa using q
        subst hg'
        exact .inr ⟨_, cap, cur, hv, hg, by rw [o _ (s.nW hne).2.2]; exact hh, r⟩
    · intro j z hz
      have h0 : 0 < D.keep.length := Nat.lt_of_le_of_lt (Nat.zero_le _) (List.getElem?_eq_some_iff.1 hz).1
      exact (World.cell?_of_block (w := w) (a := ⟨y.K, j, none⟩) (o _ (s.nK h0).2.2.1)).trans (h.bod.rK j z hz)
    · exact ⟨rfl, s.most, s.blkL, s.blkL, s.blkW, s.deedsB, s.leftB, s.waitsB, s.capL, by have := s.capN; rw [s.len] at this; exact this, s.capK, s.keepB, s.laE, s.naE, s.waE, s.kaE, s.nL, s.nW, s.nK⟩
end

theorem step_builtin_run {P : Program} {ops : Array Oper} {o : Oper} {a : Act} {w w' : World} {K : Act → World → Prop} {Q : Exit → Act → World → Prop} {E : Prop} (hgd : o.guard = none) (d s : Operand) (dT sT : TypeId)
    (ho : o.op = .call { callee := .builtin .copy, args := #[d, s], argTypes := #[dT, sT] }) (vd vs v : Value) (hd : a.eval d = vd) (hs : a.eval s = vs)
    (hr : (Builtin.copy_ #[dT, sT] o.type #[vd, vs]).run P w = .ok v w') (h : K (a.put o.dst v) w') :
    if Region.wanted o (yielded ops a.tmps) = true then Oper.wp P o a w K Q else E := by
  have hw : Region.wanted o (yielded ops a.tmps) = true := by simp [Region.wanted, hgd]
  rw [if_pos hw]
  unfold Oper.wp execOp
  simp only [ho, resolve, invoke, builtin, Sem.run_bind, Sem.run_pure, Result.andThen_ok, List.map_toArray, List.map_cons, List.map_nil, hd, hs, hr]
  exact h

def Lay.three (y : Lay) (b : Nat) : Prop := b = y.p ∨ b = y.L ∨ b = y.N

attribute [local go_sem ↓] load_write
set_option maxRecDepth 100000 in
set_option maxHeartbeats 1000000 in
theorem Crash_on (y : Lay) (D : Dsk) (w : World) (ka : Option Addr) (kl : List Int) (kc : Nat) (h : IsD w y D) (hk : KeepIs w y ka kl) (hkl : kl.length < 2 ^ 62) (hon : D.on = true) :
    Calls Tryz.prog 226 #[.pointer (some ⟨y.p, 0, none⟩), .slice ka kl.length kc] w fun e w' => e = .returned (.int .i64 (lostN kl D.waits.length : Int)) ∧ Goes y w (D.crash kl) w' := by
  have hwa : 0 < D.waits.length → y.wa = some ⟨y.W, 0, none⟩ := fun q => (h.wait_at (List.getElem?_eq_getElem q)).1
  have hwB := h.shp.waitsB
  have c1 := h.head.c1
  rw [hon] at c1
  have c4 := h.head.c4
  have f6 := h.head.fz 6 (by omega)
  have f7 := h.head.fz 7 (by omega)
  have f8 := h.head.fz 8 (by omega)
  have c6 := h.head.c6
  have c7 := h.head.c7
  have c8 := h.head.c8
  generalize hwv : y.wa = wa at *
  have H := Lib.hid (And.intro h (And.intro hk (And.intro hon (And.intro hwv hwa))))
  clear h hk hon hwa hwv
  go_enter Tryz.func226, Tryz.ntmps226
  go_wp2_with (go_at_call 162; refine (none_is y D _ H.out.1).mono ?_; rintro e w' ⟨rfl, rfl⟩)
  have I1 := H.out.1.set_noK
  have o1 : Only y.three w' (((w'.setCell ⟨y.p, 6, none⟩ (.bool false)).setCell ⟨y.p, 7, none⟩ (.int .i64 0)).setCell ⟨y.p, 8, none⟩ (.slice none 0 0)) := (((Only.refl _ _).setCell (.inl (.inl rfl)) _).setCell (.inl (.inl rfl)) _).setCell (.inl (.inl rfl)) _
  have HI := Lib.hid (And.intro I1 o1)
  clear I1 o1
  generalize ((w'.setCell ⟨y.p, 6, none⟩ (.bool false)).setCell ⟨y.p, 7, none⟩ (.int .i64 0)).setCell ⟨y.p, 8, none⟩ (.slice none 0 0) = w1 at *
  clear c1 c4 f6 f7 f8 c6 c7 c8
  go_loopw [5, 24] (fun lo i wr => ∃ k : Nat, k ≤ D.waits.length ∧ i = .int .i64 (k : Int) ∧ lo = .int .i64 (lostN kl k : Int) ∧ IsD wr y.noK { D.disarm with lasts := D.crashL kl k } ∧ Only y.three w' wr) (fun _ i _ => D.waits.length - (intOf i).toNat)
  case atStart => exact ⟨0, Nat.zero_le _, rfl, rfl, HI.out.1, HI.out.2⟩
  case round =>
    obtain ⟨k, hkn, rfl, rfl, I, ho⟩ := hrel
    have hlo := lostN_le kl k
    by_cases hlt : k < D.waits.length
    · obtain rfl : wa = some ⟨y.W, 0, none⟩ := H.out.2.2.2.2 (by omega)
      have hx : D.waits[k]? = some D.waits[k] := List.getElem?_eq_getElem hlt
      have hxs : (D.waits[k]).2.size = 32 := (H.out.1.shp.blkW _ (List.getElem_mem hlt)).1
      have hxk : (D.waits[k]).1 < D.lasts.length := (H.out.1.shp.blkW _ (List.getElem_mem hlt)).2
      have hwr := (I.wait_at (k := k) hx).2
      have HX := Lib.hid hx
      clear hx
      generalize D.waits[k] = x at *
      have hl33 : (wcells x).length = 33 := by rw [wcells_len, hxs]
      have hrow : isRow wr (.pointer (some ⟨y.W, k * 33, none⟩)) 33 := ⟨_, _, _, rfl, hwr, hl33⟩
      have hval : (rowAt wr (.pointer (some ⟨y.W, k * 33, none⟩)) 33).toArray = warr (.int .i64 (x.1 : Int)) (bcells x.2) := by
        show (rowAt wr (.pointer (some ⟨y.noK.W, k * 33, none⟩)) 33).toArray = _
        rw [rowAt_eq hwr hl33]; rfl
      have hw1 : (warr (.int .i64 (x.1 : Int)) (bcells x.2)).all (·.oneCell') = true := all_oneCell_toArray (wcells_one x)
      have hwi : (Tryz.prog.info? 281).map (·.size) = some (warr (.int .i64 (x.1 : Int)) (bcells x.2)).size := by rw [warr_size, bcells_len, hxs]; exact writeSize
      have hws : 33 = (warr (.int .i64 (x.1 : Int)) (bcells x.2)).size := by rw [warr_size, bcells_len, hxs]
      have HR := Lib.hid (And.intro I (And.intro ho (And.intro hw1 (And.intro hwi (And.intro hws (And.intro hxs hxk))))))
      clear I ho hw1 hwi hws hwr hl33 hxs hxk
      by_cases hkk : k < kl.length
      · obtain ⟨a, rfl, hca⟩ := H.out.2.1.at_ k _ (List.getElem?_eq_getElem hkk)
        have hoff := H.out.2.1.off a (by omega) rfl
        have hab : (a.add k).block = a.block := by unfold Addr.add; split <;> rfl
        have hbl := HR.out.2.1.block a.block hoff.1 (fun q => by rcases q with q | q | q; exact hoff.2.1 q; exact hoff.2.2.1 q; exact hoff.2.2.2 q)
        have hcw : wr.cell? (a.add k) = some (.int .i64 kl[k]) := by
          rw [World.cell?_of_block (w := w') (a := a.add k) (by rw [hab]; exact hbl)]; exact hca
        have hcell : (wr.alloc (.cells (warr (.int .i64 (x.1 : Int)) (bcells x.2)) 281)).cell? (a.add k) = some (.int .i64 kl[k]) := by
          rw [World.cell?_alloc_lt _ _ _ (by rw [hab]; exact Nat.lt_of_lt_of_le hoff.1 HR.out.2.1.size)]; exact hcw
        have hkg : odd (kl.getD k 0) = odd kl[k] := by simp [List.getD, hkk]
        have HZ := Lib.hid hkg
        clear hca hoff hab hbl hcw hkg
        generalize kl[k] = z at *
        cases ho : odd z
        · have hbit : (bits .and .i64 z 1 == 1) = false := by rw [i64_and1]; exact ho
          have HE := Lib.hid (show odd (kl.getD k 0) = false by rw [HZ.out]; exact ho)
          clear ho
          go_wp2_with (refine wpList_store_new rfl 281 (.tmp 7) (.tmp 28) rfl _ (warr (.int .i64 (x.1 : Int)) (bcells x.2)) rfl rfl HR.out.2.2.2.1 HR.out.2.2.2.2.1 HR.out.2.2.1 ?_)
          refine ⟨⟨k + 1, by omega, by go_num, ?_, ?_, ?_⟩, by simp [intOf]; omega⟩
          · rw [lostN_even HE.out]; go_num
          · rw [crashL_even HX.out HE.out]; exact HR.out.1.alloc _
          · exact HR.out.2.1.alloc _
        · have hbit : (bits .and .i64 z 1 == 1) = true := by rw [i64_and1]; exact ho
          have HE := Lib.hid (show odd (kl.getD k 0) = true by rw [HZ.out]; exact ho)
          clear ho
          go_wp2_with (refine wpList_store_new rfl 281 (.tmp 7) (.tmp 28) rfl _ (warr (.int .i64 (x.1 : Int)) (bcells x.2)) rfl rfl HR.out.2.2.2.1 HR.out.2.2.2.2.1 HR.out.2.2.1 ?_)
          have I2 := HR.out.1.alloc (.cells (warr (.int .i64 (x.1 : Int)) (bcells x.2)) 281)
          have o2 := HR.out.2.1.alloc (.cells (warr (.int .i64 (x.1 : Int)) (bcells x.2)) 281)
          have hxs := HR.out.2.2.2.2.2.1
          have hxk := HR.out.2.2.2.2.2.2
          have r2 : (wr.alloc (.cells (warr (.int .i64 (x.1 : Int)) (bcells x.2)) 281)).rangeAt wr.heap.size 0 (.int .i64 (x.1 : Int) :: bcells x.2) := by
            have := World.rangeAt_of_block (heap_alloc_last wr (.cells (warr (.int .i64 (x.1 : Int)) (bcells x.2)) 281)) 0 33
            have e : (warr (.int .i64 (x.1 : Int)) (bcells x.2)).extract 0 (0 + 33) = warr (.int .i64 (x.1 : Int)) (bcells x.2) := by
              rw [Array.extract_eq_self_of_le]
              have := HR.out.2.2.2.2.1
              omega
            rw [e, warr_list] at this
            exact this
          have hLs : y.L < wr.heap.size := HR.out.1.small y.L (.inr (.inl rfl))
          generalize wr.alloc (.cells (warr (.int .i64 (x.1 : Int)) (bcells x.2)) 281) = w2 at *
          have hbL : wr.heap.size ≠ y.L := by omega
          generalize wr.heap.size = blk at *
          have r20 : w2.cell? ⟨blk, 0, none⟩ = some (.int .i64 (x.1 : Int)) := by simpa using r2 0 _ rfl
          have r21 : w2.rangeAt blk 1 (bcells x.2) := fun j v hv => by
            have := r2 (j + 1) v (by simpa using hv)
            rw [Nat.zero_add, Nat.add_comm] at this
            exact this
          have hlen := crashL_len D kl k
          have c2 := I2.head.c2
          change w2.cell? ⟨y.p, 2, none⟩ = some (.slice y.la (D.crashL kl k).length y.cL) at c2
          rw [hlen, show y.la = some ⟨y.L, 0, none⟩ from H.out.1.shp.laE (by omega)] at c2
          have t2 : w2.there y.L (x.1 * 32) 32 := fun j hj => by
            have := I2.bod.tL (x.1 * 32 + j) (by rw [show ({ D.disarm with lasts := D.crashL kl k } : Dsk).lasts.length = D.lasts.length from hlen]; have := Nat.mul_le_mul_right 32 (show x.1 + 1 ≤ D.lasts.length from hxk); omega)
            rw [Nat.zero_add] at this
            exact this
          have hpL : y.p ≠ y.L := fun e => (H.out.1.shp.nL (by omega)).1 e.symm
          have hu63 := Tryz.underlying254
          have h1b := bcells_one x.2
          have hlenb : (bcells x.2).length = 32 := by rw [bcells_len, hxs]
          have hi63 : (Tryz.prog.info? 254).map (·.size) = some (bcells x.2).length := by rw [hlenb]; exact blockSize
          have HK := Lib.hid (And.intro I2 (And.intro o2 (And.intro hxs hlen)))
          clear I2 o2 hxs hlen r2
          go_region_held3 (fun w' => w'.cell? ⟨y.p, 2, none⟩ = some (.slice (some ⟨y.L, 0, none⟩) D.lasts.length y.cL) ∧ w'.cell? ⟨blk, 0, none⟩ = some (.int .i64 (x.1 : Int)) ∧ w'.rangeAt blk 1 (bcells x.2) ∧ w'.there y.L (x.1 * 32) 32) (first
            | (simp only [World.cell?_drew]; go_keep_ranges)
            | (go_split_ands; exact ⟨(World.cell?_setCells_out _ _ _ _ _ (fun e => absurd e hpL)).trans (by assumption), (World.cell?_setCells_out _ _ _ _ _ (fun e => absurd e hbL)).trans (by assumption), World.rangeAt_setCells_apart (by assumption) _ _ _ (.inl hbL), World.there_setCells (by assumption) _ _ _⟩)) (first | fail)
          go_wp2
          refine ⟨⟨k + 1, by omega, by go_num, ?_, ?_, ?_⟩, by simp [intOf]; omega⟩
          · rw [lostN_odd HE.out]
          · rw [crashL_odd HX.out HE.out]; exact (HK.out.1.drew).set_lasts x.1 (by rw [show ({ D.disarm with lasts := D.crashL kl k } : Dsk).lasts.length = D.lasts.length from HK.out.2.2.2]; exact hxk) x.2 HK.out.2.2.1
          · exact Only.setCells (.inl (.inr (.inl rfl))) _ _ HK.out.2.1.drew
      · have HE := Lib.hid (show odd (kl.getD k 0) = false by simp [List.getD, List.getElem?_eq_none (show kl.length ≤ k by omega), odd])
        go_wp2_with (refine wpList_store_new rfl 281 (.tmp 7) (.tmp 28) rfl _ (warr (.int .i64 (x.1 : Int)) (bcells x.2)) rfl rfl HR.out.2.2.2.1 HR.out.2.2.2.2.1 HR.out.2.2.1 ?_)
        refine ⟨⟨k + 1, by omega, by go_num, ?_, ?_, ?_⟩, by simp [intOf]; omega⟩
        · rw [lostN_even HE.out]; go_num
        · rw [crashL_even HX.out HE.out]; exact HR.out.1.alloc _
        · exact HR.out.2.1.alloc _
    · obtain rfl : k = D.waits.length := by omega
      have c4 := I.head.c4
      have f4 := I.head.fz 4 (by omega)
      change wr.cell? ⟨y.p, 4, none⟩ = _ at c4
      change wr.frozen? ⟨y.p, 4, none⟩ = _ at f4
      have HR := Lib.hid (And.intro I ho)
      clear I ho hlt
      go_wp2
      have I2 := HR.out.1.set_noW
      have o2 : Only y.three w' (wr.setCell ⟨y.p, 4, none⟩ (.slice none 0 0)) := HR.out.2.setCell (.inl (.inl rfl)) _
      change IsD (wr.setCell ⟨y.p, 4, none⟩ (.slice none 0 0)) _ _ at I2
      generalize wr.setCell ⟨y.p, 4, none⟩ (.slice none 0 0) = w2 at *
      have hpN : 0 < D.lasts.length → y.p ≠ y.N := fun q e => (H.out.1.shp.nL q).2.1 e.symm
      have hcr := copyRun I2.drew
      have I3 := I2.drew.copied
      have o3 : Only y.three w' (w2.drew.setCells y.N 0 ((D.crashL kl D.waits.length).map bcells).flatten) := Only.setCells (.inl (.inr (.inr rfl))) _ _ o2.drew
      have hfl : ((D.crashL kl D.waits.length).map bcells).flatten.length = D.lasts.length * 32 := by
        rw [flatten_len (bmap_len I2.shp.blkL), List.length_map, crashL_len]
      change (Builtin.copy_ _ _ #[.slice y.na D.now.length y.cN, .slice y.la (D.crashL kl D.waits.length).length y.cL]).run _ _ = .ok (.int .i64 ((D.crashL kl D.waits.length).length : Int)) (w2.drew.setCells y.N 0 ((D.crashL kl D.waits.length).map bcells).flatten) at hcr
      change IsD (w2.drew.setCells y.N 0 ((D.crashL kl D.waits.length).map bcells).flatten) _ _ at I3
      have c2 := I2.head.c2
      have c3 := I2.head.c3
      change w2.cell? ⟨y.p, 2, none⟩ = some (.slice y.la (D.crashL kl D.waits.length).length y.cL) at c2
      change w2.cell? ⟨y.p, 3, none⟩ = some (.slice y.na D.now.length y.cN) at c3
      have c1 := I3.head.c1
      have f1 := I3.head.fz 1 (by omega)
      have d2 := I3.head.c2
      have d3 := I3.head.c3
      change (w2.drew.setCells y.N 0 ((D.crashL kl D.waits.length).map bcells).flatten).cell? ⟨y.p, 1, none⟩ = _ at c1
      change (w2.drew.setCells y.N 0 ((D.crashL kl D.waits.length).map bcells).flatten).frozen? ⟨y.p, 1, none⟩ = _ at f1
      have HD := Lib.hid (And.intro hcr (And.intro I3 (And.intro o3 (And.intro (And.intro d2 d3) (And.intro c1 f1)))))
      clear I2 o2 hcr I3 o3 d2 d3 c4 f4 c1 f1
      have hcell : ∀ j, j = 2 ∨ j = 3 → (w2.drew.setCells y.N 0 ((D.crashL kl D.waits.length).map bcells).flatten).cell? ⟨y.p, j, none⟩ = w2.cell? ⟨y.p, j, none⟩ := fun j _ => by
        rcases Nat.eq_zero_or_pos D.lasts.length with q | q
        · have e : ((D.crashL kl D.waits.length).map bcells).flatten = [] := List.eq_nil_of_length_eq_zero (by rw [hfl, q])
          rw [e]; rfl
        · rw [World.cell?_setCells_out _ _ _ _ _ (fun e => absurd e (hpN q))]; rfl
      have HC := Lib.hid hcell
      clear hcell hfl hpN
      go_region_held_law (fun u => u.cell? ⟨y.p, 3, none⟩ = some (.slice y.na D.now.length y.cN) ∧ u.cell? ⟨y.p, 2, none⟩ = some (.slice y.la (D.crashL kl D.waits.length).length y.cL)) (first
        | (simp only [World.cell?_drew]; exact ⟨c3, c2⟩)
        | (exact ⟨(HC.out 3 (.inr rfl)).trans c3, (HC.out 2 (.inl rfl)).trans c2⟩)) (first
        | (refine step_builtin_run rfl (.tmp 59) (.tmp 63) 188 188 rfl _ _ _ rfl rfl HD.out.1 ?_))
      have c1 := HD.out.2.2.2.2.1
      have f1 := HD.out.2.2.2.2.2
      have hlo' := hlo
      clear c2 c3
      generalize w2.drew.setCells y.N 0 ((D.crashL kl D.waits.length).map bcells).flatten = w3 at *
      go_wp2
      go_ret
      refine ⟨rfl, y.noK.noW, rfl, ?_, ?_, ?_⟩
      · exact HD.out.2.1.set_on false
      · intro b q
        rcases q with q | q | q | q | q
        · exact .inl (.inl q)
        · exact .inl (.inr (.inl q))
        · exact .inl (.inr (.inr (.inl q)))
        · exact .inl (.inl q)
        · exact .inl (.inl q)
      · exact (HD.out.2.2.1.setCell (.inl (.inl rfl)) _).mono (fun i _ q => by
          rcases q with q | q | q
          · exact .inl q
          · exact .inr (.inl q)
          · exact .inr (.inr (.inl q)))
end Go.Proofs.YtiiioeodanmieaaGreatDoor.Sec
-- SecFall
namespace Go.Proofs.YtiiioeodanmieaaGreatDoor.Sec
open Go.RowKit

theorem IsD.keepIs {w : World} {y : Lay} {D : Dsk} (h : IsD w y D) : KeepIs w y y.ka D.keep where
  at_ := fun j z hz => ⟨⟨y.K, 0, none⟩, h.shp.kaE (Nat.lt_of_le_of_lt (Nat.zero_le _) (List.getElem?_eq_some_iff.1 hz).1), by rw [Addr.add_mid, Nat.zero_add]; exact h.bod.rK j z hz⟩
  off := fun a h0 ha => by
    rw [h.shp.kaE h0] at ha
    obtain rfl : (⟨y.K, 0, none⟩ : Addr) = a := by simpa using ha
    have := h.shp.nK h0
    exact ⟨h.small _ (.inr (.inr (.inr (.inr rfl)))), this.1, this.2.1, this.2.2.1⟩

set_option maxRecDepth 100000 in
set_option maxHeartbeats 1000000 in
theorem fall_is (y : Lay) (D : Dsk) (w : World) (h : IsD w y D) (hon : D.on = true) :
    Calls Tryz.prog 209 #[.pointer (some ⟨y.p, 0, none⟩)] w fun e w' => e = .returned (.int .i64 3) ∧ Goes y w (D.crash D.keep) w' := by
  have c8 := h.head.c8
  have H := Lib.hid (And.intro h hon)
  clear h hon
  go_enter Tryz.func209, Tryz.ntmps209
  go_wp2_with (go_at_call 226; refine (Crash_on y D _ y.ka D.keep y.cK H.out.1 H.out.1.keepIs H.out.1.shp.keepB H.out.2).mono ?_; rintro e w' ⟨rfl, hg⟩)
  go_ret
  exact ⟨rfl, hg⟩

def Dsk.barL (D : Dsk) : Nat → List ByteArray
  | 0 => D.lasts
  | n + 1 => match D.waits[n]? with
    | some x => (D.barL n).set x.1 x.2
    | none => D.barL n
theorem barL_len (D : Dsk) : ∀ n, (D.barL n).length = D.lasts.length
  | 0 => rfl
  | n + 1 => by
    have := barL_len D n
    unfold Dsk.barL
    split
    · simp [this]
    · exact this
theorem barL_step {D : Dsk} {k : Nat} {x : Nat × ByteArray} (hx : D.waits[k]? = some x) : D.barL (k + 1) = (D.barL k).set x.1 x.2 := by rw [Dsk.barL, hx]
def Dsk.bar (D : Dsk) : Dsk := { D with lasts := D.barL D.waits.length, waits := [], deeds := D.deeds + 1 }

theorem mayB_on {D : Dsk} (h : D.mayB = 0) : D.on = true := by
  unfold Dsk.mayB at h
  split at h
  · assumption
  · cases h

theorem Goes.fold {y y1 : Lay} {w w1 w2 : World} {D2 : Dsk} (hp : y1.p = y.p) (hf : ∀ b, y1.foot b → y.foot b ∨ w.heap.size ≤ b) (ho : Only y.foot w w1) (g : Goes y1 w1 D2 w2) : Goes y w D2 w2 := by
  obtain ⟨y2, hp2, hi2, hf2, ho2⟩ := g
  refine ⟨y2, hp2.trans hp, hi2, fun b q => ?_, ho.trans ho2 fun i hi q => ?_⟩
  · rcases hf2 b q with q | q
    · exact hf b q
    · exact .inr (Nat.le_trans ho.size q)
  · rcases hf i q with q | q
    · exact q
    · omega

set_option maxRecDepth 100000 in
set_option maxHeartbeats 1000000 in
theorem Barrier_not (y : Lay) (D : Dsk) (w : World) (h : IsD w y D) (hm : D.mayB ≠ 0) :
    Calls Tryz.prog 183 #[.pointer (some ⟨y.p, 0, none⟩)] w fun e w' => e = .returned (.int .i64 D.mayB) ∧ w' = w := by
  have hb : (D.mayB == 0) = false := by simpa using hm
  have hb' : (D.mayB != 0) = true := by simpa using hm
  have H := Lib.hid h
  clear h hm
  go_enter Tryz.func183, Tryz.ntmps183
  go_wp2_with (go_at_call 190; refine (mayB_is y D _ _ _ H.out).mono ?_; rintro e w' ⟨rfl, rfl⟩)
  go_ret
  exact ⟨rfl, rfl⟩

set_option maxRecDepth 100000 in
set_option maxHeartbeats 1000000 in
theorem Barrier_falls (y : Lay) (D : Dsk) (w : World) (h : IsD w y D) (hm : D.mayB = 0) (hf : D.fallsNow = true) :
    Calls Tryz.prog 183 #[.pointer (some ⟨y.p, 0, none⟩)] w fun e w' => e = .returned (.int .i64 3) ∧ Goes y w (D.crash D.keep) w' := by
  have hon := mayB_on hm
  have H := Lib.hid (And.intro h (And.intro hm (And.intro hf hon)))
  clear h hm hf hon
  go_enter Tryz.func183, Tryz.ntmps183
  go_wp2_with (first
    | (go_at_call 190; refine (mayB_is y D _ _ _ H.out.1).mono ?_; rintro e w' ⟨rfl, rfl⟩; rw [H.out.2.1])
    | (go_at_call 208; refine (falls_yes y D _ H.out.1 H.out.2.2.1).mono ?_; rintro e w' ⟨rfl, rfl⟩)
    | (go_at_call 209; refine (fall_is y D _ H.out.1 H.out.2.2.2).mono ?_; rintro e w' ⟨rfl, hg⟩))
  go_ret
  exact ⟨rfl, hg⟩

attribute [local go_sem ↓] load_write
set_option maxRecDepth 100000 in
set_option maxHeartbeats 1000000 in
theorem Barrier_ok (y : Lay) (D : Dsk) (w : World) (h : IsD w y D) (hm : D.mayB = 0) (hf : D.fallsNow = false) (hdd : D.deeds + 1 < 2 ^ 60) :
    Calls Tryz.prog 183 #[.pointer (some ⟨y.p, 0, none⟩)] w fun e w' => e = .returned (.int .i64 0) ∧ Goes y w D.down.bar w' := by
  have hdown : D.down.deeds = D.deeds := by unfold Dsk.down; split <;> rfl
  rw [← hdown] at hdd
  clear hdown
  generalize hE : D.down = E at *
  have H := Lib.hid (And.intro h (And.intro hm (And.intro hf hE)))
  clear h hm hf hE
  go_enter Tryz.func183, Tryz.ntmps183
  go_wp2_with (first
    | (go_at_call 190; refine (mayB_is y D _ _ _ H.out.1).mono ?_; rintro e w' ⟨rfl, rfl⟩; rw [H.out.2.1])
    | (go_at_call 208; refine (falls_no y D _ H.out.1 H.out.2.2.1).mono ?_; rintro e w1 ⟨rfl, I1, o1⟩
       rw [H.out.2.2.2] at I1
       have c4 := I1.head.c4
       have hwB := I1.shp.waitsB
       have hwa : 0 < E.waits.length → y.wa = some ⟨y.W, 0, none⟩ := fun q => (I1.wait_at (List.getElem?_eq_getElem q)).1
       generalize hwv : y.wa = wa at *
       have HI := Lib.hid (And.intro I1 (And.intro o1 (And.intro hwa hwv)))
       clear I1 o1 hwa hwv))
  clear c4
  go_loopw [20] (fun i wr => ∃ k : Nat, k ≤ E.waits.length ∧ i = .int .i64 (k : Int) ∧ IsD wr y { E with lasts := E.barL k } ∧ Only y.three w1 wr) (fun i _ => E.waits.length - (intOf i).toNat)
  case atStart => exact ⟨0, Nat.zero_le _, rfl, HI.out.1, Only.refl _ _⟩
  case round =>
    obtain ⟨k, hkn, rfl, I, ho⟩ := hrel
    by_cases hlt : k < E.waits.length
    · obtain rfl : wa = some ⟨y.W, 0, none⟩ := HI.out.2.2.1 (by omega)
      have hx : E.waits[k]? = some E.waits[k] := List.getElem?_eq_getElem hlt
      have hxs : (E.waits[k]).2.size = 32 := (HI.out.1.shp.blkW _ (List.getElem_mem hlt)).1
      have hxk : (E.waits[k]).1 < E.lasts.length := (HI.out.1.shp.blkW _ (List.getElem_mem hlt)).2
      have hwr := (I.wait_at (k := k) hx).2
      have HX := Lib.hid hx
      clear hx
      generalize E.waits[k] = x at *
      have hl33 : (wcells x).length = 33 := by rw [wcells_len, hxs]
      have hrow : isRow wr (.pointer (some ⟨y.W, k * 33, none⟩)) 33 := ⟨_, _, _, rfl, hwr, hl33⟩
      have hval : (rowAt wr (.pointer (some ⟨y.W, k * 33, none⟩)) 33).toArray = warr (.int .i64 (x.1 : Int)) (bcells x.2) := by
        rw [rowAt_eq hwr hl33]; rfl
      have hw1 : (warr (.int .i64 (x.1 : Int)) (bcells x.2)).all (·.oneCell') = true := all_oneCell_toArray (wcells_one x)
      have hwi : (Tryz.prog.info? 281).map (·.size) = some (warr (.int .i64 (x.1 : Int)) (bcells x.2)).size := by rw [warr_size, bcells_len, hxs]; exact writeSize
      have hws : 33 = (warr (.int .i64 (x.1 : Int)) (bcells x.2)).size := by rw [warr_size, bcells_len, hxs]
      have HR := Lib.hid (And.intro I (And.intro ho (And.intro hw1 (And.intro hwi (And.intro hws (And.intro hxs hxk))))))
      clear I ho hw1 hwi hws hwr hl33 hxs hxk
      go_wp2_with (refine wpList_store_new rfl 281 (.tmp 5) (.tmp 23) rfl _ (warr (.int .i64 (x.1 : Int)) (bcells x.2)) rfl rfl HR.out.2.2.2.1 HR.out.2.2.2.2.1 HR.out.2.2.1 ?_)
      have I2 := HR.out.1.alloc (.cells (warr (.int .i64 (x.1 : Int)) (bcells x.2)) 281)
      have o2 := HR.out.2.1.alloc (.cells (warr (.int .i64 (x.1 : Int)) (bcells x.2)) 281)
      have hxs := HR.out.2.2.2.2.2.1
      have hxk := HR.out.2.2.2.2.2.2
      have r2 : (wr.alloc (.cells (warr (.int .i64 (x.1 : Int)) (bcells x.2)) 281)).rangeAt wr.heap.size 0 (.int .i64 (x.1 : Int) :: bcells x.2) := by
        have := World.rangeAt_of_block (heap_alloc_last wr (.cells (warr (.int .i64 (x.1 : Int)) (bcells x.2)) 281)) 0 33
        have e : (warr (.int .i64 (x.1 : Int)) (bcells x.2)).extract 0 (0 + 33) = warr (.int .i64 (x.1 : Int)) (bcells x.2) := by
          rw [Array.extract_eq_self_of_le]
          have := HR.out.2.2.2.2.1
          omega
        rw [e, warr_list] at this
        exact this
      have hLs : y.L < wr.heap.size := HR.out.1.small y.L (.inr (.inl rfl))
      generalize wr.alloc (.cells (warr (.int .i64 (x.1 : Int)) (bcells x.2)) 281) = w2 at *
      have hbL : wr.heap.size ≠ y.L := by omega
      generalize wr.heap.size = blk at *
      have r20 : w2.cell? ⟨blk, 0, none⟩ = some (.int .i64 (x.1 : Int)) := by simpa using r2 0 _ rfl
      have r21 : w2.rangeAt blk 1 (bcells x.2) := fun j v hv => by
        have := r2 (j + 1) v (by simpa using hv)
        rw [Nat.zero_add, Nat.add_comm] at this
        exact this
      have hlen := barL_len E k
      have c2 := I2.head.c2
      change w2.cell? ⟨y.p, 2, none⟩ = some (.slice y.la (E.barL k).length y.cL) at c2
      rw [hlen, show y.la = some ⟨y.L, 0, none⟩ from HI.out.1.shp.laE (by omega)] at c2
      have t2 : w2.there y.L (x.1 * 32) 32 := fun j hj => by
        have := I2.bod.tL (x.1 * 32 + j) (by rw [show ({ E with lasts := E.barL k } : Dsk).lasts.length = E.lasts.length from hlen]; have := Nat.mul_le_mul_right 32 (show x.1 + 1 ≤ E.lasts.length from hxk); omega)
        rw [Nat.zero_add] at this
        exact this
      have hpL : y.p ≠ y.L := fun e => (HI.out.1.shp.nL (by omega)).1 e.symm
      have hu63 := Tryz.underlying254
      have h1b := bcells_one x.2
      have hlenb : (bcells x.2).length = 32 := by rw [bcells_len, hxs]
      have hi63 : (Tryz.prog.info? 254).map (·.size) = some (bcells x.2).length := by rw [hlenb]; exact blockSize
      have HK := Lib.hid (And.intro I2 (And.intro o2 (And.intro hxs hlen)))
      clear I2 o2 hxs hlen r2
      go_region_held3 (fun w' => w'.cell? ⟨y.p, 2, none⟩ = some (.slice (some ⟨y.L, 0, none⟩) E.lasts.length y.cL) ∧ w'.cell? ⟨blk, 0, none⟩ = some (.int .i64 (x.1 : Int)) ∧ w'.rangeAt blk 1 (bcells x.2) ∧ w'.there y.L (x.1 * 32) 32) (first
        | (simp only [World.cell?_drew]; go_keep_ranges)
        | (go_split_ands; exact ⟨(World.cell?_setCells_out _ _ _ _ _ (fun e => absurd e hpL)).trans (by assumption), (World.cell?_setCells_out _ _ _ _ _ (fun e => absurd e hbL)).trans (by assumption), World.rangeAt_setCells_apart (by assumption) _ _ _ (.inl hbL), World.there_setCells (by assumption) _ _ _⟩)) (first | fail)
      go_wp2
      refine ⟨⟨k + 1, by omega, by go_num, ?_, ?_⟩, by simp [intOf]; omega⟩
      · rw [barL_step HX.out]; exact (HK.out.1.drew).set_lasts x.1 (by rw [show ({ E with lasts := E.barL k } : Dsk).lasts.length = E.lasts.length from HK.out.2.2.2]; exact hxk) x.2 HK.out.2.2.1
      · exact Only.setCells (.inl (.inr (.inl rfl))) _ _ HK.out.2.1.drew
    · obtain rfl : k = E.waits.length := by omega
      have c4 := I.head.c4
      have f4 := I.head.fz 4 (by omega)
      have c5 := I.head.c5
      have f5 := I.head.fz 5 (by omega)
      change wr.cell? ⟨y.p, 5, none⟩ = some (.int .i64 (E.deeds : Int)) at c5
      have hdd' : (E.deeds : Int) + 1 < 1152921504606846976 := by omega
      have HR := Lib.hid (And.intro I ho)
      clear I ho hlt
      go_wp2
      go_ret
      have I5 := (HR.out.1.set_noW).set_deeds (E.deeds + 1) hdd
      have o5 := (HI.out.2.1).trans ((HR.out.2.setCell (p := ⟨y.p, 4, none⟩) (.inl (.inl rfl)) (.slice none 0 0)).setCell (p := ⟨y.p, 5, none⟩) (.inl (.inl rfl)) (.int .i64 ((E.deeds + 1 : Nat) : Int))) (fun i _ q => by
        rcases q with q | q | q
        · exact .inl q
        · exact .inr (.inl q)
        · exact .inr (.inr (.inl q)))
      rw [show ((E.deeds + 1 : Nat) : Int) = (E.deeds : Int) + 1 by omega] at I5 o5
      refine ⟨rfl, y.noW, rfl, I5, ?_, o5⟩
      intro b q
      rcases q with q | q | q | q | q
      · exact .inl (.inl q)
      · exact .inl (.inr (.inl q))
      · exact .inl (.inr (.inr (.inl q)))
      · exact .inl (.inl q)
      · exact .inl (.inr (.inr (.inr (.inr q))))
end Go.Proofs.YtiiioeodanmieaaGreatDoor.Sec
-- SecWrite
namespace Go.Proofs.YtiiioeodanmieaaGreatDoor.Sec
open Go.RowKit

def Dsk.push (D : Dsk) (k : Nat) (b : ByteArray) : Dsk := { D with now := D.now.set k b, waits := D.waits ++ [(k, b)] }
def Dsk.deed (D : Dsk) : Dsk := { D with deeds := D.deeds + 1 }
theorem down_deeds (D : Dsk) : D.down.deeds = D.deeds := by unfold Dsk.down; split <;> rfl
theorem mayW_on {D : Dsk} {m : Nat} {b : ByteArray} (h : D.mayW m b = 0) : D.on = true := by
  unfold Dsk.mayW at h
  split at h
  · assumption
  · cases h
theorem mayW_lt {D : Dsk} {m : Nat} {b : ByteArray} (h : D.mayW m b = 0) : m < D.lasts.length := by
  unfold Dsk.mayW Dsk.has at h
  split at h
  · split at h
    · rename_i q
      simp at q
      omega
    · cases h
  · cases h

attribute [local go_sem ↓] load_write buildSlice_op
set_option maxRecDepth 100000 in
set_option maxHeartbeats 1000000 in
theorem Write_ok (y : Lay) (D : Dsk) (m : Nat) (b : ByteArray) (hb : b.size = 32) (w : World) (h : IsD w y D) (hm : D.mayW m b = 0) (hwc : D.waits.length + 1 < 2 ^ 40) (hdd : D.deeds + 1 < 2 ^ 60) :
    Calls Tryz.prog 182 #[.pointer (some ⟨y.p, 0, none⟩), .int .i64 (m : Int), .string b] w fun e w' => (D.fallsNow = true ∧ e = .returned (.int .i64 3) ∧ Goes y w ((D.push m b).crash D.keep) w') ∨ (D.fallsNow = false ∧ e = .returned (.int .i64 0) ∧ Goes y w ((D.push m b).down.deed) w') := by
  have H := Lib.hid h
  have hdd' := hdd
  have HM := Lib.hid hm
  have HB := Lib.hid (show (bcells b).length = 32 by rw [bcells_len, hb])
  have hw1 : (warr (.int .i64 (m : Int)) (bcells b)).all (·.oneCell') = true := all_oneCell_toArray (wcells_one (m, b))
  have hwi : (Tryz.prog.info? 281).map (·.size) = some (warr (.int .i64 (m : Int)) (bcells b)).size := by rw [warr_size, bcells_len, hb]; exact writeSize
  have hws : 33 = (warr (.int .i64 (m : Int)) (bcells b)).size := by rw [warr_size, bcells_len, hb]
  have HH := Lib.hid (And.intro hw1 (And.intro hwi hws))
  clear hm h hw1 hwi hws
  go_enter Tryz.func182, Tryz.ntmps182
  go_wp2_with (first
    | (go_at_call 190; refine (mayW_is y D _ _ _ H.out).mono ?_; rintro e w' ⟨rfl, rfl⟩; rw [HM.out])
    | (go_at_call 207; refine (blockOf_is b hb _).mono ?_; rintro e w1 ⟨rfl, ho1⟩)
    | (refine wpList_build_write rfl (.tmp 16) (.tmp 18) rfl (m : Int) (bcells b) rfl rfl HB.out ?_)
    | (refine wpList_store_new rfl 281 (.tmp 8) (.tmp 19) rfl _ (warr (.int .i64 (m : Int)) (bcells b)) rfl rfl HH.out.2.1 HH.out.2.2 HH.out.1 ?_))
  have I1 : IsD w1 y D := H.out.only ho1 (fun _ _ q => q)
  have hk : m < D.lasts.length := mayW_lt HM.out
  have hmN : m < D.now.length := by rw [I1.shp.len]; exact hk
  have I2 : IsD (w1.alloc (.cells (warr (.int .i64 (m : Int)) (bcells b)) 281)) y D := I1.alloc _
  have r2 : (w1.alloc (.cells (warr (.int .i64 (m : Int)) (bcells b)) 281)).rangeAt w1.heap.size 0 (.int .i64 (m : Int) :: bcells b) := by
    have := World.rangeAt_of_block (heap_alloc_last w1 (.cells (warr (.int .i64 (m : Int)) (bcells b)) 281)) 0 33
    have e : (warr (.int .i64 (m : Int)) (bcells b)).extract 0 (0 + 33) = warr (.int .i64 (m : Int)) (bcells b) := by
      rw [Array.extract_eq_self_of_le]
      have := HH.out.2.2
      omega
    rw [e, warr_list] at this
    exact this
  have o2 : Only y.foot w' (w1.alloc (.cells (warr (.int .i64 (m : Int)) (bcells b)) 281)) := (ho1.mono (fun _ _ q => q.elim)).alloc _
  have hblk : w'.heap.size ≤ w1.heap.size := ho1.size
  have hlt2 : w1.heap.size < (w1.alloc (.cells (warr (.int .i64 (m : Int)) (bcells b)) 281)).heap.size := by simp
  generalize w1.alloc (.cells (warr (.int .i64 (m : Int)) (bcells b)) 281) = w2 at *
  generalize w1.heap.size = blk at *
  have r21 : w2.rangeAt blk 1 (bcells b) := fun j v hv => by
    have := r2 (j + 1) v (by simpa using hv)
    rw [Nat.zero_add, Nat.add_comm] at this
    exact this
  have c3 := I2.head.c3
  rw [I2.shp.naE (by omega)] at c3
  have t2 : w2.there y.N (m * 32) 32 := fun j hj => by
    have := I2.bod.tN (m * 32 + j) (by have := Nat.mul_le_mul_right 32 (show m + 1 ≤ D.lasts.length from hk); omega)
    rw [Nat.zero_add] at this
    exact this
  have hu63 := Tryz.underlying254
  have hi63 : (Tryz.prog.info? 254).map (·.size) = some (bcells b).length := by rw [HB.out]; exact blockSize
  have h1b := bcells_one b
  have hlenb : (bcells b).length = 32 := HB.out
  have hpN : y.p ≠ y.N := fun e => (I2.shp.nL (by omega)).2.1 e.symm
  have hbN : blk ≠ y.N := by have := H.out.small y.N (.inr (.inr (.inl rfl))); omega
  have HK := Lib.hid (And.intro I2 (And.intro r2 (And.intro o2 (And.intro hblk hlt2))))
  clear I1 ho1 r2 o2 hblk hlt2 I2
  go_region_held3 (fun w' => w'.cell? ⟨y.p, 3, none⟩ = some (.slice (some ⟨y.N, 0, none⟩) D.now.length y.cN) ∧ w'.rangeAt blk 1 (bcells b) ∧ w'.there y.N (m * 32) 32) (first
    | go_keep_ranges
    | (go_split_ands; exact ⟨(World.cell?_setCells_out _ _ _ _ _ (fun e => absurd e hpN)).trans (by assumption), World.rangeAt_setCells_apart (by assumption) _ _ _ (.inl hbN), World.there_setCells (by assumption) _ _ _⟩)) (first | fail)
  obtain ⟨I2, r2, o2, hblk, hlt2⟩ := HK.out
  have I3 := (I2.drew).set_now m hk b hb
  have r3 : (w2.drew.setCells y.N (m * 32) (bcells b)).rangeAt blk 0 (.int .i64 (m : Int) :: bcells b) := World.rangeAt_setCells_apart ((World.rangeAt_drew _ _ _ _).2 r2) _ _ _ (.inl hbN)
  have o3 : Only y.foot w' (w2.drew.setCells y.N (m * 32) (bcells b)) := Only.setCells (.inl (.inr (.inr (.inl rfl)))) _ _ o2.drew
  have hlt3 : blk < (w2.drew.setCells y.N (m * 32) (bcells b)).heap.size := by rw [size_setCells']; exact hlt2
  rename_i hheld
  clear hheld I2 r2 o2 hlt2 HK r21 c3 t2 hu63 hi63 h1b hlenb hpN hbN
  generalize w2.drew.setCells y.N (m * 32) (bcells b) = w3 at *
  have c4 := I3.head.c4
  have f4 := I3.head.fz 4 (by omega)
  have hbs := buildSlice_write (m : Int) (bcells b) HB.out
  obtain ⟨hA1, hAi, hAs⟩ := HH.out
  have hwl := warr_list (.int .i64 (m : Int)) (bcells b)
  rw [← hwl] at r3
  have hwc : (warr (.int .i64 (m : Int)) (bcells b)).toList = wcells (m, b) := hwl
  have HW := Lib.hid hwc
  clear hwl hwc HH
  generalize warr (.int .i64 (m : Int)) (bcells b) = A at *
  obtain ⟨i0, hi0, hz0, hz1, hz2⟩ := info_parts writeInfo
  have hA1' : ∀ v ∈ A.toList, v.oneCell' = true := fun v hv => (Array.all_eq_true_iff_forall_mem.1 hA1) v (by simpa using hv)
  have hu66 := Tryz.underlying281
  have hi66 : (Tryz.prog.info? 281).map (·.size) = some A.toList.length := by simpa using hAi
  have hl66 : A.toList.length = 33 := by simpa using hAs.symm
  have own3 := I3.bod.oW
  have hps := I3.small y.p (.inl rfl)
  have hwB := I3.shp.waitsB
  have HO := Lib.hid (And.intro own3 (And.intro hi0 (And.intro hz0 (And.intro hz1 hz2))))
  have hWs := I3.small y.W (.inr (.inr (.inr (.inl rfl))))
  have hWp := I3.shp.nW
  have hob : ∀ k, Value.ownBlock (.slice y.wa D.waits.length y.cW) = some k → k = y.W ∧ y.wa ≠ none := fun k hk => by
    rcases I3.shp.waE with q | q
    · rw [q] at hk; simp [Value.ownBlock] at hk
    · rw [q] at hk ⊢; simp [Value.ownBlock] at hk; exact ⟨hk.symm, by simp⟩
  have HK := Lib.hid (And.intro I3 (And.intro o3 (And.intro hblk (And.intro hlt3 (And.intro hAi (And.intro hAs (And.intro hWp (And.intro hob hWs))))))))
  clear I3 o3 hblk own3 hi0 hz0 hz1 hz2 hA1 hAi hAs hWp hob
  go_wp2
  have r4 : w3.drew.rangeAt blk 0 A.toList := (World.rangeAt_drew _ _ _ _).2 r3
  have hrow : isRow w3.drew (.pointer (some ⟨blk, 0, none⟩)) 33 := ⟨_, _, _, rfl, r4, hl66⟩
  have hval : (rowAt w3.drew (.pointer (some ⟨blk, 0, none⟩)) 33).toArray = A := by rw [rowAt_eq r4 hl66]
  have HA := Lib.hid (And.intro hA1' hl66)
  have hagg : isAgg (.agg A) 33 := ⟨A, rfl, by simpa using hl66⟩
  clear hbs
  clear hA1' hl66 r4 r3 hu66 hi66
  have hpne : some y.p ≠ Value.ownBlock (.slice y.wa D.waits.length y.cW) := fun e => by
    obtain ⟨_, _, _, _, _, _, hWp, hob, _⟩ := HK.out
    obtain ⟨q1, q2⟩ := hob _ e.symm
    exact (hWp q2).1 q1.symm
  go_region_law (first
    | (refine step_append_lies _ rfl (.tmp 32) (.tmp 34) 189 rfl 0 281 i0 _ 33 40 Tryz.underlying189 HO.out.2.1 HO.out.2.2.1 HO.out.2.2.2.1 HO.out.2.2.2.2 (by rfl) (by omega)
        (.slice y.wa D.waits.length y.cW) D.waits.length (D.waits.flatMap wcells) rfl (by exact (HO.out.1.alloc _).drew) _ 1 1 A.toList rfl (by rw [HA.out.2]) (by exact World.news_of_block (heap_alloc_last _ _)) HA.out.1 (by omega) (by unfold maxLen; omega) (by omega) (by omega) _ rfl ?_
       intro g cap w4 hown4 hgr4 hat4 hlt4
       have b4 := hgr4.block y.p (by simp; omega) hpne
       have d4 : w4.cell? ⟨y.p, 4, none⟩ = some (.slice y.wa D.waits.length y.cW) := (World.cell?_of_block (a := ⟨y.p, 4, none⟩) b4).trans (by exact ((HK.out.1.alloc _).drew).head.c4)
       have g4 : w4.frozen? ⟨y.p, 4, none⟩ = false := (World.frozen?_of_block (a := ⟨y.p, 4, none⟩) b4).trans (by exact ((HK.out.1.alloc _).drew).head.fz 4 (by omega))))
  all_goals
    have hB1 : D.waits.length + 1 < 2 ^ 40 := hwc
    rw [HW.out] at hown4
    have PW := IsD.push_waits ((HK.out.1.alloc (.cells A 281)).drew) (m, b) ⟨hb, hk⟩ hB1 g cap hown4 hgr4 (hat4.imp id (fun e => by rw [e]; exact Nat.le_refl _)) hlt4
    have G : Goes y w' (D.push m b) (w4.setCell ⟨y.p, 4, none⟩ (.slice (some ⟨g, 0, none⟩) (D.waits.length + 1) cap)) :=
      ⟨y.newW g cap, rfl, PW.1, fun q hq => (PW.2.1 q hq).imp id (fun e => Nat.le_trans HK.out.2.1.size (Nat.le_trans (by simp) e)), (HK.out.2.1.alloc _).drew.trans PW.2.2 (fun _ _ q => q)⟩
    clear PW b4 d4 g4 hown4 hgr4 hat4 hlt4 hpne hagg hval hrow HA HK HO HW c4 f4
    generalize w4.setCell ⟨y.p, 4, none⟩ (.slice (some ⟨g, 0, none⟩) (D.waits.length + 1) cap) = w5 at *
    obtain ⟨y1, hp1, I5, hf5, o5⟩ := G
    have hdp : (D.push m b).deeds = D.deeds := rfl
    have hon : (D.push m b).on = true := mayW_on HM.out
    have HP := Lib.hid (And.intro hp1 (And.intro I5 (And.intro hf5 (And.intro o5 hon))))
    clear I5 hf5 o5 hdp hon
    cases hfl : D.fallsNow
    · have HF := Lib.hid (show (D.push m b).fallsNow = false from hfl)
      have hpd : (D.push m b).down.deeds = D.deeds := down_deeds _
      generalize hE : (D.push m b).down = E at *
      have HE := Lib.hid (And.intro hE hpd)
      clear hfl hE hp1 hpd
      go_wp2_with (go_at_call 208; have hcf := falls_no y1 (D.push m b) _ HP.out.2.1 HF.out; rw [HP.out.1] at hcf; refine hcf.mono ?_; rintro e w6 ⟨rfl, I6, o6⟩; rw [HE.out.1] at I6; have c5 := I6.head.c5; have f5 := I6.head.fz 5 (by omega); rw [HP.out.1, HE.out.2] at c5; rw [HP.out.1] at f5; have H6 := Lib.hid (And.intro I6 o6); clear I6 o6 hcf)
      go_ret
      refine .inr ⟨HF.out, rfl, ?_⟩
      refine Goes.fold HP.out.1 HP.out.2.2.1 HP.out.2.2.2.1 ?_
      have I7 := H6.out.1.set_deeds (D.deeds + 1) hdd
      rw [show ((D.deeds + 1 : Nat) : Int) = (D.deeds : Int) + 1 by omega, HP.out.1] at I7
      refine ⟨y1, rfl, ?_, fun _ q => .inl q, H6.out.2.setCell (.inl (.inl HP.out.1.symm)) _⟩
      have e : ({ E with deeds := D.deeds + 1 } : Dsk) = E.deed := by rw [Dsk.deed, HE.out.2]
      rw [HE.out.1, ← e]
      exact I7
    · have HF := Lib.hid (show (D.push m b).fallsNow = true from hfl)
      clear hfl hp1
      go_wp2_with (first
        | (go_at_call 208; have hcf := falls_yes y1 (D.push m b) _ HP.out.2.1 HF.out; rw [HP.out.1] at hcf; refine hcf.mono ?_; rintro e w6 ⟨rfl, rfl⟩; clear hcf)
        | (go_at_call 209; have hcf := fall_is y1 (D.push m b) _ HP.out.2.1 HP.out.2.2.2.2; rw [HP.out.1] at hcf; refine hcf.mono ?_; rintro e w6 ⟨rfl, hg⟩; clear hcf))
      go_ret
      exact .inl ⟨HF.out, rfl, Goes.fold HP.out.1 HP.out.2.2.1 HP.out.2.2.2.1 hg⟩

set_option maxRecDepth 100000 in
set_option maxHeartbeats 1000000 in
theorem Write_not (y : Lay) (D : Dsk) (k : Int) (b : ByteArray) (w : World) (h : IsD w y D) (hm : D.mayW k b ≠ 0) :
    Calls Tryz.prog 182 #[.pointer (some ⟨y.p, 0, none⟩), .int .i64 k, .string b] w fun e w' => e = .returned (.int .i64 (D.mayW k b)) ∧ w' = w := by
  have hb : (D.mayW k b == 0) = false := by simpa using hm
  have hb' : (D.mayW k b != 0) = true := by simpa using hm
  have H := Lib.hid h
  clear h hm
  go_enter Tryz.func182, Tryz.ntmps182
  go_wp2_with (go_at_call 190; refine (mayW_is y D _ _ _ H.out).mono ?_; rintro e w' ⟨rfl, rfl⟩)
  go_ret
  exact ⟨rfl, rfl⟩
end Go.Proofs.YtiiioeodanmieaaGreatDoor.Sec
-- SecAt
namespace Go.Proofs.YtiiioeodanmieaaGreatDoor.Sec
open Go.RowKit

def zeros (n : Nat) : ByteArray := ⟨Array.replicate n 0⟩
def pad32 (s : ByteArray) : ByteArray := (s ++ zeros (32 - s.size)).extract 0 32
theorem zeros_size (n : Nat) : (zeros n).size = n := by simp [zeros, ByteArray.size]
section
variable {B p : Nat} {D : Dsk}
theorem mayW_nat {k : Int} {b : ByteArray} (hm : D.mayW k b = 0) : k = (k.toNat : Int) := by
  unfold Dsk.mayW Dsk.has at hm
  split at hm
  · split at hm
    · rename_i q
      simp at q
      omega
    · cases hm
  · cases hm
end

attribute [irreducible] pad32
end Go.Proofs.YtiiioeodanmieaaGreatDoor.Sec
-- SecAlive
namespace Go.Proofs.YtiiioeodanmieaaGreatDoor.Sec
open Go.RowKit

end Go.Proofs.YtiiioeodanmieaaGreatDoor.Sec
-- SecOrder
namespace Go.Proofs.YtiiioeodanmieaaGreatDoor.Sec
open Go.RowKit

theorem add_block (a : Addr) (n : Nat) : (a.add n).block = a.block := by unfold Addr.add; split <;> rfl
end Go.Proofs.YtiiioeodanmieaaGreatDoor.Sec
-- SecClone
namespace Go.Proofs.YtiiioeodanmieaaGreatDoor.Sec
open Go.RowKit

theorem intInfo : (Tryz.prog.info? 3).map (fun i => (i.zero, i.size, i.bytes)) = some (some (.int .i64 0), 1, 8) := by kernel_rfl

theorem owns_empty (w : World) (e : TypeId) (k : Nat) : (w.alloc (.cells #[] e)).ownsRow w.heap.size e k (.slice (some ⟨w.heap.size, 0, none⟩) 0 0) 0 [] :=
  ⟨by simp, .inr ⟨w.heap.size, 0, #[], rfl, Nat.le_refl _, heap_alloc_last _ _, Nat.le_refl _, Nat.zero_le _, by simp, by simp⟩⟩

theorem wpList_append_run {P : Program} {ops : Array Oper} {rest : List Oper} {o : Oper} {a : Act} {w w' : World} {Q : Exit → Act → World → Prop} (hgd : o.guard = none) (d s : Operand) (dT sT : TypeId)
    (ho : o.op = .call { callee := .builtin .append, args := #[d, s], argTypes := #[dT, sT] }) (vd vs v : Value) (hd : a.eval d = vd) (hs : a.eval s = vs)
    (hr : (Builtin.append_ #[dT, sT] o.type #[vd, vs]).run P w = .ok v w') (h : wpList P ops Q rest (a.put o.dst v) w') : wpList P ops Q (o :: rest) a w :=
  wpList_plain hgd fun _ hK => by
    unfold Oper.wp execOp
    simp only [ho, resolve, invoke, builtin, Sem.run_bind, Sem.run_pure, Result.andThen_ok, List.map_toArray, List.map_cons, List.map_nil, hd, hs, hr]
    exact hK _ _ h
theorem run_append_zero {P : Program} (w : World) (t ty e : TypeId) (i : TypeInfo) (ht : P.underlying t = some (.slice e)) (hi : P.info? e = some i) (hn : (match P.underlying t with | some (.int _) => true | _ => false) = false) (g : Nat) (b : Addr) (c : Nat) :
    (Builtin.append_ #[t, t] ty #[.slice (some ⟨g, 0, none⟩) 0 0, .slice (some b) 0 c]).run P w = .ok (.slice (some ⟨g, 0, none⟩) 0 0) w := by
  have hl : ∀ (x : Addr), (loadCells x 0).run P w = .ok #[] w := fun x => by simpa using run_loadCells_list (P := P) w x [] (by simp)
  simp [Builtin.append_, run_underlying ht, sizeOf, typeInfo, hi, Builtin.lenOf, Builtin.firstCells, hl, storeCells]

set_option maxRecDepth 100000 in
set_option maxHeartbeats 1000000 in
theorem clone_int (a : Option Addr) (m c : Nat) (cs : List Value) (w : World) (hm : m < 2 ^ 40) (hl : cs.length = m * 1) (hcs : ∀ j u, cs[j]? = some u → ∃ b : Addr, a = some b ∧ b.block < w.heap.size ∧ w.cell? (b.add j) = some u)
    (h1 : ∀ u ∈ cs, u.oneCell' = true) (hnil : a = none → m = 0) :
    Calls Tryz.prog 121 #[.slice a m c] w fun e w' => ∃ a' c', e = .returned (.slice a' m c') ∧ Below w.heap.size w w' ∧ m ≤ c' ∧
      ((a' = none ∧ m = 0 ∧ c' = 0) ∨ ∃ g, a' = some ⟨g, 0, none⟩ ∧ w.heap.size ≤ g ∧ w'.ownsRow w.heap.size 3 1 (.slice (some ⟨g, 0, none⟩) m c') m cs) := by
  have hq := run_eql_slice_nil (P := Tryz.prog) w 25 3 a m c Tryz.underlying25
  cases a with
  | none =>
    have h0 : m = 0 := hnil rfl
    have H0 := Lib.hid h0
    clear h0 hcs hl h1 hnil
    go_enter Tryz.func121, Tryz.ntmps121
    go_wp2
    go_ret
    exact ⟨none, 0, by rw [H0.out]; rfl, Below.refl _ _, by rw [H0.out]; exact Nat.le_refl _, .inl ⟨rfl, H0.out, rfl⟩⟩
  | some b =>
    obtain ⟨i0, hi, hz0, hz1, hz2⟩ := info_parts intInfo
    have HI := Lib.hid (And.intro hi (And.intro hz0 (And.intro hz1 hz2)))
    clear hi hz0 hz1 hz2
    rcases Nat.eq_zero_or_pos m with h0 | h0
    · subst h0
      have hcn : cs = [] := List.eq_nil_of_length_eq_zero (by simpa using hl)
      have HN := Lib.hid hcn
      clear hcn hcs hl h1 hnil
      go_enter Tryz.func121, Tryz.ntmps121
      go_wp2_with (refine wpList_append_run rfl (.tmp 5) (.tmp 6) 25 25 rfl _ _ _ rfl rfl (run_append_zero _ 25 25 3 i0 Tryz.underlying25 HI.out.1 rfl w.heap.size b c) ?_)
      go_ret
      refine ⟨_, _, rfl, (Below.refl _ _).alloc (Nat.le_refl _) _, Nat.le_refl _, .inr ⟨_, rfl, Nat.le_refl _, ?_⟩⟩
      rw [HN.out]
      exact owns_empty w _ _
    · have HD := Lib.hid (show ∀ j u, cs[j]? = some u → (w.alloc (.cells #[] 3)).cell? (b.add j) = some u from fun j u hu => by
          obtain ⟨b', hb, hlt, hc⟩ := hcs j u hu
          obtain rfl : b = b' := by simpa using hb
          rw [World.cell?_alloc_lt _ _ _ (by rw [add_block]; exact hlt)]
          exact hc)
      have HC := Lib.hid (And.intro hl (And.intro hcs h1))
      clear hl hcs h1 hnil
      go_enter Tryz.func121, Tryz.ntmps121
      go_wp2_with (first
       | (refine wpList_append_lies _ rfl (.tmp 5) (.tmp 6) 25 rfl w.heap.size 3 i0 _ 1 8 Tryz.underlying25 HI.out.1 HI.out.2.1 HI.out.2.2.1 HI.out.2.2.2 (by rfl) (by omega)
            (.slice (some ⟨w.heap.size, 0, none⟩) 0 0) 0 [] rfl (by exact owns_empty w _ _) b m c cs rfl HC.out.1 (by exact HD.out) HC.out.2.2 h0 (by unfold maxLen; omega) (by omega) (by simp) _ rfl ?_
          intro g cap w1 hown hgr hat hlt))
      go_ret
      have hg : w.heap.size ≤ g := by
        rcases hat with q | q
        · have : w.heap.size = g := by simpa [Value.ownBlock] using q
          omega
        · rw [q]; simp
      simp only [Nat.zero_add, List.nil_append] at hown
      refine ⟨_, cap, by simp, ((Below.refl _ _).alloc (Nat.le_refl _) _).grown hgr (by simp) (fun k hk => by simp [Value.ownBlock] at hk; omega), ?_, .inr ⟨g, rfl, hg, hown⟩⟩
      rcases hown.2 with ⟨q, _⟩ | ⟨g', cap', cur, hv, _, _, hle, _⟩
      · cases q
      · obtain ⟨_, rfl⟩ : g = g' ∧ cap = cap' := by simpa using hv
        exact hle
end Go.Proofs.YtiiioeodanmieaaGreatDoor.Sec
-- SecArm
namespace Go.Proofs.YtiiioeodanmieaaGreatDoor.Sec
open Go.RowKit

section
variable {w : World} {y : Lay} {D : Dsk}
end

end Go.Proofs.YtiiioeodanmieaaGreatDoor.Sec
