import Derived.Laws.IdiomStrings
import Derived.Deep.MidRow
import Derived.Test.YtiiioeodanmieaaGreatDoorYSeal
import Derived.Test.YtiiioeodanmieaaGreatDoorYStoreB
set_option linter.unusedVariables false
set_option linter.unusedSimpArgs false
-- TurnB
namespace Go.Proofs.YtiiioeodanmieaaGreatDoor
open Go.RowKit

def bcl (l : List UInt8) : List Value := l.map fun x => .int .u8 (x.toNat : Int)
theorem conv_bcl (w : World) (B n cap : Nat) (l : List UInt8) (hn : l.length = n) (h : w.rangeAt B 0 (bcl l)) :
    (convert 241 9 (.slice (some ⟨B, 0, none⟩) n cap)).run Tryz.prog w = .ok (.string ⟨l.toArray⟩) w := by
  subst hn
  refine run_convert_bytes_back w 241 9 5 ⟨B, 0, none⟩ cap l (by kernel_rfl) (by kernel_rfl) (by kernel_rfl) fun j hj => ?_
  have := h j (.int .u8 (l[j].toNat : Int)) (by simp [bcl, hj])
  rw [Addr.add_mid]
  exact this
end Go.Proofs.YtiiioeodanmieaaGreatDoor
-- StoreZero
namespace Go.Proofs.YtiiioeodanmieaaGreatDoor
open Go.RowKit Sec
open Go.Proofs.YtiiioeodanmieaaGreatDoor.Bk

theorem make_wrs (u : World) (n : Nat) (hn : n ≤ 2 ^ 40) :
    ∃ w', (Instr.makeSlice 206 (.int .i64 (n : Int)) (.int .i64 (n : Int))).run Tryz.prog u = .ok (.slice (some ⟨u.heap.size, 0, none⟩) n n) w' ∧ Below u.heap.size u w' ∧ w'.ownsRow u.heap.size 210 2 (.slice (some ⟨u.heap.size, 0, none⟩) n n) n (flat Wr.cells (List.replicate n ⟨0, ByteArray.empty⟩)) := by
  obtain ⟨i1, hi, hz0, hz1, hz2⟩ := info_parts wrInfo
  have h := run_make (P := Tryz.prog) u 206 210 i1 _ Tryz.underlying206 hi hz0 .i64 .i64 (n : Int) (n : Int) (by omega) (Int.le_refl _) (by rw [hz2]; omega) (by omega)
  refine ⟨_, by simpa using h, (Below.refl _ _).alloc (Nat.le_refl _) _, by rw [flat_len Wr.len]; simp, .inr ⟨u.heap.size, n, _, rfl, Nat.le_refl _, heap_alloc_new u _, Nat.le_refl _, by unfold maxLen; omega, ?_, ?_⟩⟩
  · rw [size_madeCells, hz1]
  · rw [hz1]
    apply List.ext_getElem?
    intro j
    rcases Nat.lt_or_ge j (n * 2) with q | q
    · have e1 : j = j / 2 * 2 + j % 2 := by omega
      have hx : (List.replicate n (⟨0, ByteArray.empty⟩ : Wr))[j / 2]? = some ⟨0, ByteArray.empty⟩ := by
        rw [List.getElem?_replicate, if_pos (by omega)]
      have := flat_get Wr.len hx (j % 2) (by omega)
      rw [← e1] at this
      rw [this]
      have : j % 2 = 0 ∨ j % 2 = 1 := by omega
      rcases this with r | r <;> simp [madeCells, Value.cells, Wr.cells, r, q]
    · rw [List.getElem?_eq_none (by simp [madeCells]; omega), List.getElem?_eq_none (by rw [flat_len Wr.len, List.length_replicate]; omega)]
def fillZ (a n k : Nat) : List Wr := zerosW a k ++ List.replicate (n - k) ⟨0, ByteArray.empty⟩
theorem fillZ_len (a n k : Nat) (h : k ≤ n) : (fillZ a n k).length = n := by simp [fillZ, zerosW_len]; omega
theorem fillZ_next (a n k : Nat) (h : k < n) : fillZ a n (k + 1) = (fillZ a n k).set k ⟨((a + k : Nat) : Int), zero32⟩ := by
  have e1 : n - k = (n - (k + 1)) + 1 := by omega
  have e2 : (zerosW a k).length = k := zerosW_len a k
  rw [fillZ, fillZ, e1, List.replicate_succ, List.set_append_right _ _ (by omega), e2, Nat.sub_self, List.set_cons_zero]
  simp [zerosW, List.range_succ]
theorem fillZ_end (a n : Nat) : fillZ a n n = zerosW a n := by simp [fillZ]
theorem zero_range (u : World) (m : Nat) (t : TypeId) : (u.alloc (.cells (Array.replicate m (.int .u8 0)) t)).rangeAt u.heap.size 0 (List.replicate m (.int .u8 0)) := fun j v hv => by
  rw [Nat.zero_add]
  rw [List.getElem?_replicate] at hv
  split at hv
  · rename_i hj
    obtain rfl := Option.some.inj hv
    simp [hj]
  · cases hv
theorem mk32 (u : World) : (Instr.makeSlice 241 (.int .i64 32) (.int .i64 32)).run Tryz.prog u = .ok (.slice (some ⟨u.heap.size, 0, none⟩) 32 32) (u.alloc (.cells (Array.replicate 32 (.int .u8 0)) 5)) := by
  obtain ⟨i1, hi, hz0, hz1, hz2⟩ := sl_info sl_u8Info
  have h := run_make (P := Tryz.prog) u 241 5 i1 _ Tryz.underlying241 hi hz0 .i64 .i64 32 32 (by omega) (Int.le_refl _) (by rw [hz2]; omega) (by omega)
  simpa [hz1, Value.cells, show madeCells #[Value.int .u8 0] 32 = Array.replicate 32 (.int .u8 0) from by apply Array.ext <;> simp [madeCells, Nat.mod_one]] using h
theorem conv_zero (u : World) (B : Nat) (h : u.rangeAt B 0 (List.replicate 32 (.int .u8 0))) : (convert 241 9 (.slice (some ⟨B, 0, none⟩) 32 32)).run Tryz.prog u = .ok (.string zero32) u :=
  conv_bcl u B 32 32 (List.replicate 32 0) rfl (by simpa [bcl] using h)

set_option maxRecDepth 100000 in
set_option maxHeartbeats 1000000 in
theorem zerosOf_is (a n : Nat) (ha : a ≤ 100000) (hn : n ≤ 100000) (w : World) :
    Calls Tryz.prog 164 #[.int .i64 (a : Int), .int .i64 (n : Int)] w fun e w' => ∃ v, e = .returned v ∧ Below w.heap.size w w' ∧ w'.ownsRow w.heap.size 210 2 v n (flat Wr.cells (zerosW a n)) := by
  obtain ⟨wm, hmk, bm, om⟩ := make_wrs w n (by omega)
  have HM := Lib.hid (And.intro bm om)
  clear bm om
  go_enter Tryz.func164, Tryz.ntmps164
  go_wp2
  clear hmk
  go_loopw [11] (fun i wr => ∃ k : Nat, k ≤ n ∧ i = .int .i64 (k : Int) ∧ Below w.heap.size w wr ∧ wr.ownsRow w.heap.size 210 2 (.slice (some ⟨w.heap.size, 0, none⟩) n n) n (flat Wr.cells (fillZ a n k))) (fun i _ => n - (intOf i).toNat)
  case atStart => exact ⟨0, Nat.zero_le _, rfl, HM.out.1, by have := HM.out.2; simpa [fillZ, zerosW] using this⟩
  case round =>
    obtain ⟨k, hk, rfl, hb, ho⟩ := hrel
    by_cases hlt : k < n
    · have HN : Hid (flat Wr.cells (fillZ a n (k + 1)) = ((flat Wr.cells (fillZ a n k)).set (k * 2) (.int .i64 ((a : Int) + (k : Int)))).set (k * 2 + 1) (.string zero32)) := Lib.hid (by
        rw [fillZ_next a n k hlt, flat_set Wr.len _ _ (by rw [fillZ_len a n k hk]; exact hlt)]
        rfl)
      obtain ⟨x0, hx0, c0, f0⟩ := owns_thereK ho (k := k * 2) (by omega)
      obtain ⟨x1, hx1, c1, f1⟩ := owns_thereK ho (k := k * 2 + 1) (by omega)
      have hwl := (ho.lt w.heap.size rfl).2
      have hne : w.heap.size ≠ wr.heap.size := by omega
      have hi1 : (k : Int) < (n : Int) := by omega
      have hak : (a : Int) + (k : Int) ≤ 200000 := by omega
      have HR := Lib.hid (And.intro hb ho)
      have hm32 := mk32 wr
      have hcv := conv_zero (wr.alloc (.cells (Array.replicate 32 (.int .u8 0)) 5)) wr.heap.size (zero_range wr 32 _)
      generalize Array.replicate 32 (Value.int .u8 0) = zs at *
      clear hb ho hx0 hx1
      go_wp2
      refine ⟨⟨k + 1, by omega, by go_num, ((HR.out.1.setCell (p := ⟨w.heap.size, k * 2, none⟩) (Nat.le_refl _) _).setCell (p := ⟨w.heap.size, k * 2 + 1, none⟩) (Nat.le_refl _) _).alloc (by have := HR.out.1.size; simp; omega) _, ?_⟩, by simp [intOf]; omega⟩
      rw [HN.out]
      exact (owns_setK (owns_setK HR.out.2 _ _) _ _).alloc _
    · obtain rfl : k = n := by omega
      have HR := Lib.hid (And.intro hb ho)
      have hn : ¬ (k : Int) < (k : Int) := by omega
      clear hlt hk hb ho
      go_wp2
      go_ret
      refine ⟨_, rfl, HR.out.1, ?_⟩
      rw [← fillZ_end]
      exact HR.out.2
end Go.Proofs.YtiiioeodanmieaaGreatDoor
-- StoreRows
namespace Go.Proofs.YtiiioeodanmieaaGreatDoor
open Go.RowKit Sec
open Go.Proofs.YtiiioeodanmieaaGreatDoor.Bk

theorem step_append_rowS {P : Program} {ops : Array Oper} {o : Oper} {ac : Act} {w : World} {K : Act → World → Prop} {Q : Exit → Act → World → Prop} {E : Prop} (hw : Region.wanted o (yielded ops ac.tmps) = true) (s x : Operand) (t : TypeId)
    (ho : o.op = .call { callee := .builtin .append, args := #[s, x], argTypes := #[t, t] })
    (base : Nat) (e : TypeId) (i : TypeInfo) (z : Value) (size bytes : Nat) (ht : P.underlying t = some (.slice e)) (hi : P.info? e = some i) (hz : i.zero = some z)
    (hsize : i.size = size) (hby : i.bytes = bytes) (hzs : z.cells.size = size) (hsz : 0 < size)
    (v : Value) (n : Nat) (xs : List Value) (hs : ac.eval s = v) (hown : w.ownsRow base e size v n xs)
    (a : Option Addr) (m c : Nat) (news : List Value) (hx : ac.eval x = .slice a m c) (hl : news.length = m * size) (hnews : LiesAt w a news) (h1 : ∀ u ∈ news, u.oneCell' = true)
    (h63 : n + m ≤ maxLen) (hbytes : (n + m) * bytes ≤ 140737488355328) (hbase : base ≤ w.heap.size)
    (h : ∀ v' w', w'.ownsRow base e size v' (n + m) (xs ++ news) → w.grownBy w' v.ownBlock → K (ac.put o.dst v') w') :
    if Region.wanted o (yielded ops ac.tmps) = true then Oper.wp P o ac w K Q else E := by
  rw [if_pos hw]
  rcases Nat.eq_zero_or_pos m with h0 | h0
  · subst h0
    have hnn : news = [] := List.eq_nil_of_length_eq_zero (by simpa using hl)
    subst hnn
    have hr : (Builtin.append_ #[t, t] o.type #[v, .slice a 0 c]).run P w = .ok v w := by
      rcases hown.2 with ⟨q, _⟩ | ⟨g, cap, cur, q, _, _, hc, _⟩
      · rw [q]; exact run_append_nil_zero w t o.type e i ht hi a c
      · rw [q]; exact Bk.run_append_zero w t o.type e i ht hi _ n cap hc a c
    unfold Oper.wp execOp
    simp only [ho, resolve, invoke, builtin, Sem.run_bind, Sem.run_pure, Result.andThen_ok, List.map_toArray, List.map_cons, List.map_nil, hx, hs, hr]
    exact h _ _ (by simpa using hown) (grown_refl _ _)
  · have h0c : 0 < news.length := by rw [hl]; exact Nat.mul_pos h0 hsz
    obtain ⟨b, rfl, _, _⟩ := hnews 0 _ (List.getElem?_eq_getElem h0c)
    exact wp_append_lies w s x t ho base e i z size bytes ht hi hz hsize hby hzs hsz v n xs hs hown b m c news hx hl (fun j u hu => by
      obtain ⟨b', hb, _, hc⟩ := hnews j u hu
      obtain rfl : b = b' := by simpa using hb
      exact hc) h1 h0 h63 hbytes hbase _ rfl fun g cap w' ho' hg' _ _ => h _ w' ho' hg'

theorem ge_ok {H L : Nat} (h : 8 ≤ H ∧ H ≤ 400 ∧ 4 ≤ L ∧ L ≤ 300) : geOk (H : Int) (L : Int) = true := decide_eq_true (by omega)
theorem ge_pages {H L : Nat} (h : 8 ≤ H ∧ H ≤ 400 ∧ 4 ≤ L ∧ L ≤ 300) : gePages (H : Int) (L : Int) = ((pgs H : Nat) : Int) := by
  rw [gePages, geCells_yes (ge_ok h), pgs]
  omega
theorem ge_page {H L no s : Nat} (h : 8 ≤ H ∧ H ≤ 400 ∧ 4 ≤ L ∧ L ≤ 300) (hn : no < pgs H) (hs : s < 2) : gePage (H : Int) (L : Int) no s = ((2 + 6 * no + 3 * s : Nat) : Int) := by
  rw [gePage, ge_pages h, if_pos (by omega)]
  omega
theorem ge_log {H L : Nat} (h : 8 ≤ H ∧ H ≤ 400 ∧ 4 ≤ L ∧ L ≤ 300) : geLog (H : Int) (L : Int) = ((2 + 6 * pgs H : Nat) : Int) := by
  rw [geLog_yes (ge_ok h), ge_pages h]
  omega
theorem ge_sectors {H L : Nat} (h : 8 ≤ H ∧ H ≤ 400 ∧ 4 ≤ L ∧ L ≤ 300) : geSectors (H : Int) (L : Int) = ((2 + 6 * pgs H + L : Nat) : Int) := by
  rw [geSectors_yes (ge_ok h), ge_pages h]
  omega
theorem ge_cells {H L : Nat} (h : 8 ≤ H ∧ H ≤ 400 ∧ 4 ≤ L ∧ L ≤ 300) : geCells (H : Int) (L : Int) = ((16 + 2 * H : Nat) : Int) := by
  rw [geCells_yes (ge_ok h)]
  omega
theorem seven {w3 : World} {b0 b1 : Nat} {v0 v1 v2 v3 v4 v5 v6 : Value} (h0 : b0 < w3.heap.size) (h1 : b1 < w3.heap.size) (k0 : w3.cell? ⟨b0, 0, none⟩ = some v0) (k1 : w3.cell? ⟨b0, 1, none⟩ = some v1) (k2 : w3.cell? ⟨b0, 2, none⟩ = some v2) (k3 : w3.cell? ⟨b0, 3, none⟩ = some v3) (k4 : w3.cell? ⟨b0, 4, none⟩ = some v4) (k5 : w3.cell? ⟨b1, 0, none⟩ = some v5) (k6 : w3.cell? ⟨b1, 1, none⟩ = some v6) :
    ∀ u, Below w3.heap.size w3 u → (u.cell? ⟨b0, 0, none⟩ = some v0 ∧ u.cell? ⟨b0, 1, none⟩ = some v1 ∧ u.cell? ⟨b0, 2, none⟩ = some v2 ∧ u.cell? ⟨b0, 3, none⟩ = some v3 ∧ u.cell? ⟨b0, 4, none⟩ = some v4 ∧ u.cell? ⟨b1, 0, none⟩ = some v5 ∧ u.cell? ⟨b1, 1, none⟩ = some v6) := fun u b =>
  ⟨(b.cell (p := ⟨b0, 0, none⟩) h0).trans k0, (b.cell (p := ⟨b0, 1, none⟩) h0).trans k1, (b.cell (p := ⟨b0, 2, none⟩) h0).trans k2, (b.cell (p := ⟨b0, 3, none⟩) h0).trans k3, (b.cell (p := ⟨b0, 4, none⟩) h0).trans k4, (b.cell (p := ⟨b1, 0, none⟩) h1).trans k5, (b.cell (p := ⟨b1, 1, none⟩) h1).trans k6⟩

set_option maxRecDepth 100000 in
set_option maxHeartbeats 2000000 in
theorem emptyOf_is (q : Nat) (hd e : Int) (H L : Nat) (hg : 8 ≤ H ∧ H ≤ 400 ∧ 4 ≤ L ∧ L ≤ 300) (hq : q < 4294967296) (w : World) :
    Calls Tryz.prog 167 #[.agg #[.int .i64 (q : Int), .int .i64 hd, .int .i64 e, .int .i64 (H : Int), .int .i64 (L : Int)]] w fun r w' => ∃ v, r = .returned v ∧ Below w.heap.size w w' ∧ w'.ownsRow w.heap.size 210 2 v (3 * pgs H + L) (flat Wr.cells (emptyW (q % 2) (3 * pgs H) ++ zerosW (2 + 6 * pgs H) L)) := by
  obtain ⟨i0, hi, hz0, hz1, hz2⟩ := info_parts wrInfo
  have HI := Lib.hid (And.intro hi (And.intro hz0 (And.intro hz1 hz2)))
  clear hi hz0 hz1 hz2
  have hp := (pgs_le hg.2.1).1
  have HG : Hid (∀ u, Calls Tryz.prog 118 #[.agg #[.int .i64 (q : Int), .int .i64 hd, .int .i64 e, .int .i64 (H : Int), .int .i64 (L : Int)]] u fun r w' => r = .returned (.agg #[.int .i64 (H : Int), .int .i64 (L : Int)]) ∧ Below u.heap.size u w') := Lib.hid (fun u => geoOf_is ⟨(q : Int), hd, e, (H : Int), (L : Int)⟩ u)
  have HS : Hid (∀ u, Calls Tryz.prog 187 #[.agg #[.int .i64 (q : Int), .int .i64 hd, .int .i64 e, .int .i64 (H : Int), .int .i64 (L : Int)]] u fun r w' => r = .returned (.int .i64 ((q % 2 : Nat) : Int)) ∧ Below u.heap.size u w') := Lib.hid (fun u => (slotOf_is ⟨(q : Int), hd, e, (H : Int), (L : Int)⟩ (Int.natCast_nonneg _) (by show (q : Int) < _; omega) u).mono fun r w' ⟨h1, h2⟩ => ⟨h1.trans (geo_i (by show (q : Int) % 2 = _; omega)), h2⟩)
  have HP : Hid (∀ u, Calls Tryz.prog 161 #[.agg #[.int .i64 (H : Int), .int .i64 (L : Int)]] u fun r w' => r = .returned (.int .i64 ((pgs H : Nat) : Int)) ∧ Below u.heap.size u w') := Lib.hid (fun u => (gpages_is H L u).mono fun r w' ⟨h1, h2⟩ => ⟨by rw [h1, ge_pages hg], h2⟩)
  have HA : Hid (∀ (no : Nat) u, no < pgs H → Calls Tryz.prog 186 #[.agg #[.int .i64 (H : Int), .int .i64 (L : Int)], .int .i64 (no : Int), .int .i64 ((q % 2 : Nat) : Int)] u fun r w' => r = .returned (.int .i64 ((2 + 6 * no + 3 * (q % 2) : Nat) : Int)) ∧ Below u.heap.size u w') := Lib.hid (fun no u hn => (gpage_is H L no _ u).mono fun r w' ⟨h1, h2⟩ => ⟨by rw [h1, ge_page hg hn (Nat.mod_lt _ (by omega))], h2⟩)
  have HL : Hid (∀ u, Calls Tryz.prog 149 #[.agg #[.int .i64 (H : Int), .int .i64 (L : Int)]] u fun r w' => r = .returned (.int .i64 ((2 + 6 * pgs H : Nat) : Int)) ∧ Below u.heap.size u w') := Lib.hid (fun u => (glog_is H L u).mono fun r w' ⟨h1, h2⟩ => ⟨by rw [h1, ge_log hg], h2⟩)
  have hL := hg.2.2.2
  have HE := Lib.hid (fun n => emptyW_three (q % 2) n)
  have hq2 : q % 2 < 2 := Nat.mod_lt _ (by omega)
  clear hg hq
  generalize hP : pgs H = P at *
  generalize hs : q % 2 = s at *
  clear hP hs
  go_enter Tryz.func167, Tryz.ntmps167
  go_wp2_with (first
    | (go_at_call 118
       refine (HG.out _).mono ?_
       rintro e' w1 ⟨rfl, b1⟩
       have R1 := Lib.hid (Row5.laid b1)
       clear b1)
    | (go_at_call 161
       refine (HP.out _).mono ?_
       rintro e' w3 ⟨rfl, b3⟩
       have R3 := Lib.hid (And.intro ((R1.out.1.alloc _).below b3) (And.intro (GBox.laid b3).1 (R1.out.2.trans ((GBox.laid b3).2.mono R1.out.2.size))))
       clear b3))
  have HC := Lib.hid (seven R3.out.1.lt R3.out.2.1.lt R3.out.1.c0 R3.out.1.c1 R3.out.1.c2 R3.out.1.c3 R3.out.1.c4 R3.out.2.1.c0 R3.out.2.1.c1)
  generalize w1.heap.size = b1 at *
  have hs3 := R3.out.2.2.size
  go_loopw [4, 10] (fun l i wr => ∃ k, k ≤ P ∧ i = .int .i64 (k : Int) ∧ Hid (Below w3.heap.size w3 wr ∧ wr.ownsRow w3.heap.size 210 2 l (3 * k) (flat Wr.cells (emptyW s (3 * k))))) (fun _ i _ => P - (intOf i).toNat)
  case atStart => exact ⟨0, Nat.zero_le _, rfl, Lib.hid ⟨Below.refl _ _, World.ownsRow_nil _ _ _ _⟩⟩
  case round =>
    obtain ⟨k, hk, rfl, HR⟩ := hrel
    have hki : (k : Int) ≤ 51 := by omega
    obtain ⟨c0, c1, c2, c3, c4, c5, c6⟩ := HC.out _ HR.out.1
    by_cases hlt : k < P
    · have hi1 : (k : Int) < (P : Int) := by omega
      have HA1 := Lib.hid (fun u => HA.out k u hlt)
      have HZ := Lib.hid (fun u => zerosOf_is (2 + 6 * k + 3 * s) 3 (by omega) (by omega) u)
      have HE1 := Lib.hid (HE.out k)
      clear HA
      generalize 2 + 6 * k + 3 * s = at_ at *
      have HD := Lib.hid (fun u (b : Below wr.heap.size wr u) => HC.out u (HR.out.1.trans (b.mono HR.out.1.size)))
      go_wp2
      go_region_held3 (fun u => u.cell? ⟨w.heap.size, 0, none⟩ = some (.int .i64 (q : Int)) ∧ u.cell? ⟨w.heap.size, 1, none⟩ = some (.int .i64 hd) ∧ u.cell? ⟨w.heap.size, 2, none⟩ = some (.int .i64 e) ∧ u.cell? ⟨w.heap.size, 3, none⟩ = some (.int .i64 (H : Int)) ∧ u.cell? ⟨w.heap.size, 4, none⟩ = some (.int .i64 (L : Int)) ∧ u.cell? ⟨b1, 0, none⟩ = some (.int .i64 (H : Int)) ∧ u.cell? ⟨b1, 1, none⟩ = some (.int .i64 (L : Int))) (first
          | assumption
          | exact HD.out _ (Below.refl _ _)
          | exact HD.out _ (Below.refl _ _).drew
          | exact HD.out _ b4
          | exact HD.out _ b5
          | exact HD.out _ H6.out.1
          | exact HC.out _ H7.out.1) (first
        | (go_at_call 187
           refine (HS.out _).mono ?_
           rintro e' w4 ⟨rfl, b4⟩
           replace b4 : Below wr.heap.size wr w4 := (by first | exact Below.refl _ _ | exact (Below.refl _ _).drew : Below wr.heap.size wr _).trans (b4.mono (by first | exact Nat.le_refl _ | simp)))
        | (go_at_call 186
           refine (HA1.out _).mono ?_
           rintro e' w5 ⟨rfl, b5⟩
           replace b5 : Below wr.heap.size wr w5 := (by first | exact b4 | exact b4.drew : Below wr.heap.size wr _).trans (b5.mono (by first | exact b4.size | exact b4.drew.size)))
        | (go_at_call 164
           refine (HZ.out _).mono ?_
           rintro e' w6 ⟨v6, rfl, b6, o6⟩
           obtain ⟨a6, c6', rfl, l6, _⟩ := own_formK o6
           have H6 : Hid (Below wr.heap.size wr w6 ∧ LiesAt w6 a6 (flat Wr.cells (zerosW at_ 3))) := Lib.hid ⟨(by first | exact b5 | exact b5.drew : Below wr.heap.size wr _).trans (b6.mono (by first | exact b5.size | exact b5.drew.size)), l6⟩
           clear b6 o6 l6)
        | (refine step_append_rowS rfl (.tmp 13) (.tmp 19) 206 rfl w3.heap.size 210 i0 _ 2 24 Tryz.underlying206 HI.out.1 HI.out.2.1 HI.out.2.2.1 HI.out.2.2.2 (by rfl) (by omega) u4 (3 * k) (flat Wr.cells (emptyW s (3 * k))) rfl (own_belowK HR.out.2 H6.out.1) a6 3 c6' (flat Wr.cells (zerosW at_ 3)) rfl (by rw [flat_len Wr.len, zerosW_len]) H6.out.2 (flat_all Wr.one _) (by unfold maxLen; omega) (by omega) (Nat.le_trans HR.out.1.size H6.out.1.size) ?_
           intro v7 w7 ho7 hg7
           have H7 := Lib.hid (And.intro ((HR.out.1.trans (H6.out.1.mono HR.out.1.size)).grown hg7 (Nat.le_trans HR.out.1.size H6.out.1.size) (fun b hb => (HR.out.2.lt b hb).1)) ho7)
           clear ho7 hg7))
      go_wp2
      refine ⟨⟨k + 1, by omega, by go_num, Lib.hid ⟨H7.out.1, ?_⟩⟩, by simp [intOf]; omega⟩
      rw [HE1.out, show 3 * (k + 1) = 3 * k + 3 by omega, flat_app]
      exact H7.out.2
    · obtain rfl : k = P := by omega
      have hn : ¬ (k : Int) < (k : Int) := by omega
      have HZ := Lib.hid (fun u => zerosOf_is (2 + 6 * k) L (by omega) (by omega) u)
      have HD := Lib.hid (fun u (b : Below wr.heap.size wr u) => HC.out u (HR.out.1.trans (b.mono HR.out.1.size)))
      have hLi : (L : Int) ≤ 300 := by omega
      clear hlt HA HE
      generalize hat : 2 + 6 * k = at_ at *
      have HAT := Lib.hid hat
      clear hat
      go_wp2
      go_region_held3 (fun u => u.cell? ⟨w.heap.size, 0, none⟩ = some (.int .i64 (q : Int)) ∧ u.cell? ⟨w.heap.size, 1, none⟩ = some (.int .i64 hd) ∧ u.cell? ⟨w.heap.size, 2, none⟩ = some (.int .i64 e) ∧ u.cell? ⟨w.heap.size, 3, none⟩ = some (.int .i64 (H : Int)) ∧ u.cell? ⟨w.heap.size, 4, none⟩ = some (.int .i64 (L : Int)) ∧ u.cell? ⟨b1, 0, none⟩ = some (.int .i64 (H : Int)) ∧ u.cell? ⟨b1, 1, none⟩ = some (.int .i64 (L : Int))) (first
          | assumption
          | exact HD.out _ (Below.refl _ _)
          | exact HD.out _ (Below.refl _ _).drew
          | exact HD.out _ b5
          | exact HD.out _ H6.out.1
          | exact HC.out _ H7.out.1) (first
        | (go_at_call 149
           refine (HL.out _).mono ?_
           rintro e' w5 ⟨rfl, b5⟩
           replace b5 : Below wr.heap.size wr w5 := (by first | exact Below.refl _ _ | exact (Below.refl _ _).drew : Below wr.heap.size wr _).trans (b5.mono (by first | exact Nat.le_refl _ | simp)))
        | (go_at_call 164
           refine (HZ.out _).mono ?_
           rintro e' w6 ⟨v6, rfl, b6, o6⟩
           obtain ⟨a6, c6', rfl, l6, _⟩ := own_formK o6
           have H6 : Hid (Below wr.heap.size wr w6 ∧ LiesAt w6 a6 (flat Wr.cells (zerosW at_ L))) := Lib.hid ⟨(by first | exact b5 | exact b5.drew : Below wr.heap.size wr _).trans (b6.mono (by first | exact b5.size | exact b5.drew.size)), l6⟩
           clear b6 o6 l6)
        | (refine step_append_rowS rfl (.tmp 22) (.tmp 27) 206 rfl w3.heap.size 210 i0 _ 2 24 Tryz.underlying206 HI.out.1 HI.out.2.1 HI.out.2.2.1 HI.out.2.2.2 (by rfl) (by omega) u4 (3 * k) (flat Wr.cells (emptyW s (3 * k))) rfl (own_belowK HR.out.2 H6.out.1) a6 L c6' (flat Wr.cells (zerosW at_ L)) rfl (by rw [flat_len Wr.len, zerosW_len]) H6.out.2 (flat_all Wr.one _) (by unfold maxLen; omega) (by omega) (Nat.le_trans HR.out.1.size H6.out.1.size) ?_
           intro v7 w7 ho7 hg7
           have H7 := Lib.hid (And.intro ((HR.out.1.trans (H6.out.1.mono HR.out.1.size)).grown hg7 (Nat.le_trans HR.out.1.size H6.out.1.size) (fun b hb => (HR.out.2.lt b hb).1)) ho7)
           clear ho7 hg7))
      go_wp2
      go_ret
      refine ⟨v7, rfl, R3.out.2.2.trans (H7.out.1.mono hs3), ?_⟩
      rw [flat_app, HAT.out]
      exact owns_base' hs3 H7.out.2
end Go.Proofs.YtiiioeodanmieaaGreatDoor
-- StorePages
namespace Go.Proofs.YtiiioeodanmieaaGreatDoor
open Go.RowKit Sec
open Go.Proofs.YtiiioeodanmieaaGreatDoor.Bk

theorem lies_cut {w : World} {g i n : Nat} {X : List Int} (h : LiesAt w (some ⟨g, 0, none⟩) (vals X)) : LiesAt w (some ⟨g, i, none⟩) (vals ((X.drop i).take n)) := fun j u hu => by
  have hj : ((X.drop i).take n)[j]? = X[i + j]? ∧ j < n := by
    rcases Nat.lt_or_ge j n with q | q
    · exact ⟨by rw [List.getElem?_take, if_pos q, List.getElem?_drop], q⟩
    · rw [List.getElem?_eq_none (by simp [vals]; omega)] at hu; cases hu
  have hu' : (vals X)[i + j]? = some u := by
    rw [vals, List.getElem?_map, ← hj.1, ← List.getElem?_map]
    exact hu
  obtain ⟨b, hb, hl, hc⟩ := h (i + j) u hu'
  obtain rfl : (⟨g, 0, none⟩ : Addr) = b := by simpa using hb
  refine ⟨_, rfl, hl, ?_⟩
  rw [Addr.add_mid] at hc ⊢
  simpa using hc

theorem owns_off {w : World} {b1 b2 : Nat} {e1 e2 : TypeId} {k1 k2 n1 n2 : Nat} {v1 v2 : Value} {x1 x2 : List Value} (h1 : w.ownsRow b1 e1 k1 v1 n1 x1) (h2 : w.ownsRow b2 e2 k2 v2 n2 x2) (hne : e1 ≠ e2) : ∀ g, v1.ownBlock = some g → v2.ownBlock ≠ some g := fun g q1 q2 => by
  rcases h1.2 with ⟨r, _⟩ | ⟨g1, _, _, r1, _, r2, _⟩
  · rw [r] at q1; cases q1
  · rcases h2.2 with ⟨s, _⟩ | ⟨g2, _, _, s1, _, s2, _⟩
    · rw [s] at q2; cases q2
    · rw [r1] at q1
      rw [s1] at q2
      simp only [Value.ownBlock, Option.some.injEq] at q1 q2
      subst q1 q2
      rw [r2] at s2
      simp only [Option.some.injEq, Obj.cells.injEq] at s2
      exact hne s2.2.1

set_option maxRecDepth 100000 in
set_option maxHeartbeats 4000000 in
theorem pagesOf_is (q : Nat) (hd e : Int) (H L : Nat) (hg : 8 ≤ H ∧ H ≤ 400 ∧ 4 ≤ L ∧ L ≤ 300) (hq : q < 4294967296) (gc c : Nat) (X : List Int) (hX : X.length = 16 * pgs H) (hc : 16 * pgs H ≤ c) (hf : FineC X) (w : World) (hl : LiesAt w (some ⟨gc, 0, none⟩) (vals X)) :
    Calls Tryz.prog 166 #[.agg #[.int .i64 (q : Int), .int .i64 hd, .int .i64 e, .int .i64 (H : Int), .int .i64 (L : Int)], .slice (some ⟨gc, 0, none⟩) X.length c] w fun r w' => ∃ v, r = .returned v ∧ Below w.heap.size w w' ∧ w'.ownsRow w.heap.size 210 2 v (3 * pgs H) (flat Wr.cells (pagesW q X (3 * pgs H))) := by
  obtain ⟨i0, hi, hz0, hz1, hz2⟩ := info_parts wrInfo
  have HI := Lib.hid (And.intro hi (And.intro hz0 (And.intro hz1 hz2)))
  clear hi hz0 hz1 hz2
  have hp := (pgs_le hg.2.1).1
  have HG : Hid (∀ u, Calls Tryz.prog 118 #[.agg #[.int .i64 (q : Int), .int .i64 hd, .int .i64 e, .int .i64 (H : Int), .int .i64 (L : Int)]] u fun r w' => r = .returned (.agg #[.int .i64 (H : Int), .int .i64 (L : Int)]) ∧ Below u.heap.size u w') := Lib.hid (fun u => geoOf_is ⟨(q : Int), hd, e, (H : Int), (L : Int)⟩ u)
  have HS : Hid (∀ u, Calls Tryz.prog 187 #[.agg #[.int .i64 (q : Int), .int .i64 hd, .int .i64 e, .int .i64 (H : Int), .int .i64 (L : Int)]] u fun r w' => r = .returned (.int .i64 ((q % 2 : Nat) : Int)) ∧ Below u.heap.size u w') := Lib.hid (fun u => (slotOf_is ⟨(q : Int), hd, e, (H : Int), (L : Int)⟩ (Int.natCast_nonneg _) (by show (q : Int) < _; omega) u).mono fun r w' ⟨h1, h2⟩ => ⟨h1.trans (geo_i (by show (q : Int) % 2 = _; omega)), h2⟩)
  have HP : Hid (∀ u, Calls Tryz.prog 161 #[.agg #[.int .i64 (H : Int), .int .i64 (L : Int)]] u fun r w' => r = .returned (.int .i64 ((pgs H : Nat) : Int)) ∧ Below u.heap.size u w') := Lib.hid (fun u => (gpages_is H L u).mono fun r w' ⟨h1, h2⟩ => ⟨by rw [h1, ge_pages hg], h2⟩)
  have HA : Hid (∀ (no : Nat) u, no < pgs H → Calls Tryz.prog 186 #[.agg #[.int .i64 (H : Int), .int .i64 (L : Int)], .int .i64 (no : Int), .int .i64 ((q % 2 : Nat) : Int)] u fun r w' => r = .returned (.int .i64 ((2 + 6 * no + 3 * (q % 2) : Nat) : Int)) ∧ Below u.heap.size u w') := Lib.hid (fun no u hn => (gpage_is H L no _ u).mono fun r w' ⟨h1, h2⟩ => ⟨by rw [h1, ge_page hg hn (Nat.mod_lt _ (by omega))], h2⟩)
  have HU : Hid (∀ (no : Nat) u, no < pgs H → LiesAt u (some ⟨gc, 0, none⟩) (vals X) → Calls Tryz.prog 185 #[.int .i64 (no : Int), .int .i64 (q : Int), .slice (some ⟨gc, no * 16, none⟩) 16 (c - no * 16)] u fun r w' => ∃ v, r = .returned (.tuple #[v, .bool true]) ∧ Below u.heap.size u w' ∧ w'.ownsRow u.heap.size 9 1 v 3 (txts (pgL (no : Int) (q : Int) (pgCells X no)))) := Lib.hid (fun no u hn hu => by
    have e1 := pg_cut hX hn
    have ok := pg_fine hf (no := no) (v := q) (by omega) hq
    have := pput_is (no : Int) (q : Int) (some ⟨gc, no * 16, none⟩) ((X.drop (no * 16)).take 16) (c - no * 16) u (lies_cut hu) (by rw [e1, pgCells_len]; unfold maxLen; omega)
    rw [e1, pgCells_len, ok] at this
    have h3 := (pgL_three ok).1
    rw [h3] at this
    exact this)
  have HX := Lib.hid (And.intro hl hX)
  have hXi : X.length = 16 * pgs H := hX
  have HW := Lib.hid (fun n => pagesW_next q X n)
  have hq2 : q % 2 < 2 := Nat.mod_lt _ (by omega)
  have hwr : ∀ no k, no < pgs H → k < 3 → wrPg q X (3 * no + k) = ⟨((2 + 6 * no + 3 * (q % 2) : Nat) : Int) + (k : Int), (pgL (no : Int) (q : Int) (pgCells X no)).getD k ByteArray.empty⟩ := fun no k hn hk => by
    rw [wrPg, show (3 * no + k) / 3 = no by omega, show (3 * no + k) % 3 = k by omega]
    congr 1
  have HV := Lib.hid hwr
  have HT : Hid (∀ no, no < pgs H → (pgL (no : Int) (q : Int) (pgCells X no)).length = 3) := Lib.hid (fun no hn => (pgL_three (pg_fine hf (no := no) (v := q) (by omega) hq)).1)
  clear hl hf hq hwr hg
  generalize hP : pgs H = P at *
  generalize hs : q % 2 = s at *
  clear hs
  go_enter Tryz.func166, Tryz.ntmps166
  go_wp2_with (first
    | (go_at_call 118
       refine (HG.out _).mono ?_
       rintro e' w1 ⟨rfl, b1⟩
       have R1 := Lib.hid (Row5.laid b1)
       clear b1)
    | (go_at_call 161
       refine (HP.out _).mono ?_
       rintro e' w3 ⟨rfl, b3⟩
       have R3 := Lib.hid (And.intro ((R1.out.1.alloc _).below b3) (And.intro (GBox.laid b3).1 (R1.out.2.trans ((GBox.laid b3).2.mono R1.out.2.size))))
       clear b3))
  have HC := Lib.hid (seven R3.out.1.lt R3.out.2.1.lt R3.out.1.c0 R3.out.1.c1 R3.out.1.c2 R3.out.1.c3 R3.out.1.c4 R3.out.2.1.c0 R3.out.2.1.c1)
  generalize w1.heap.size = b1 at *
  have hs3 := R3.out.2.2.size
  go_loopw [6, 16] (fun l i wr => ∃ k, k ≤ P ∧ i = .int .i64 (k : Int) ∧ Hid (Below w3.heap.size w3 wr ∧ wr.ownsRow w3.heap.size 210 2 l (3 * k) (flat Wr.cells (pagesW q X (3 * k))))) (fun _ i _ => P - (intOf i).toNat)
  case atStart => exact ⟨0, Nat.zero_le _, rfl, Lib.hid ⟨Below.refl _ _, World.ownsRow_nil _ _ _ _⟩⟩
  case round =>
    obtain ⟨k, hk, rfl, HR⟩ := hrel
    have hki : (k : Int) ≤ 51 := by omega
    obtain ⟨c0, c1, c2, c3, c4, c5, c6⟩ := HC.out _ HR.out.1
    by_cases hlt : k < P
    · have hi1 : (k : Int) < (P : Int) := by omega
      have HA1 := Lib.hid (fun u => HA.out k u hlt)
      have HD := Lib.hid (fun u (b : Below wr.heap.size wr u) => HC.out u (HR.out.1.trans (b.mono HR.out.1.size)))
      have HU1 := Lib.hid (fun u (b : Below wr.heap.size wr u) => HU.out k u hlt (HX.out.1.below ((R3.out.2.2.trans ((HR.out.1.trans (b.mono HR.out.1.size)).mono hs3)))))
      have hm1 : (k : Int) * 16 = ((k * 16 : Nat) : Int) := by omega
      have hm2 : ((k : Int) + 1) * 16 = ((k * 16 : Nat) : Int) + 16 := by omega
      have hm3 : k * 16 + 16 ≤ c := by omega
      have hm4 : k * 16 + 16 ≤ X.length := by omega
      have hm5 : ((k * 16 : Nat) : Int) + 16 ≤ (c : Int) := by omega
      have hm6 : ((k * 16 : Nat) : Int) ≤ 1000 := by omega
      have hw1 : IntKind.i64.wrap ((k * 16 : Nat) : Int) = ((k * 16 : Nat) : Int) := by rw [IntKind.wrap_i64]; omega
      have hw2 : IntKind.i64.wrap ((k : Int) + 1) = (k : Int) + 1 := by rw [IntKind.wrap_i64]; omega
      have hw3 : IntKind.i64.wrap (((k * 16 : Nat) : Int) + 16) = ((k * 16 : Nat) : Int) + 16 := by rw [IntKind.wrap_i64]; omega
      have hm7 : (0 : Int) ≤ ((k * 16 : Nat) : Int) + 16 := by omega
      have hm8 : max (((k * 16 : Nat) : Int) + 16) 0 = ((k * 16 : Nat) : Int) + 16 := by omega
      have hm9 : (((k * 16 : Nat) : Int) + 16).toNat = k * 16 + 16 := by omega
      have hm10 : ¬ c = k * 16 := by omega
      generalize k * 16 = m at *
      go_wp2
      go_region_held3 (fun u => u.cell? ⟨w.heap.size, 0, none⟩ = some (.int .i64 (q : Int)) ∧ u.cell? ⟨w.heap.size, 1, none⟩ = some (.int .i64 hd) ∧ u.cell? ⟨w.heap.size, 2, none⟩ = some (.int .i64 e) ∧ u.cell? ⟨w.heap.size, 3, none⟩ = some (.int .i64 (H : Int)) ∧ u.cell? ⟨w.heap.size, 4, none⟩ = some (.int .i64 (L : Int)) ∧ u.cell? ⟨b1, 0, none⟩ = some (.int .i64 (H : Int)) ∧ u.cell? ⟨b1, 1, none⟩ = some (.int .i64 (L : Int))) (first
          | assumption
          | exact HD.out _ (Below.refl _ _)
          | exact HD.out _ (Below.refl _ _).drew
          | exact HD.out _ H4.out.1) (first
        | (go_at_call 185
           refine (HU1.out _ (by first | exact Below.refl _ _ | exact (Below.refl _ _).drew)).mono ?_
           rintro e' w4 ⟨v4, rfl, b4, o4⟩
           have H4 := Lib.hid (And.intro ((by first | exact Below.refl _ _ | exact (Below.refl _ _).drew : Below wr.heap.size wr _).trans (b4.mono (by first | exact Nat.le_refl _ | simp))) o4)
           clear b4 o4))
      have H5 := Lib.hid (And.intro (HR.out.1.trans (H4.out.1.mono HR.out.1.size)) (And.intro (own_belowK HR.out.2 H4.out.1) (owns_base' (show wr.heap.size ≤ _ from by first | exact Nat.le_refl _ | simp) H4.out.2)))
      obtain ⟨g4, cp4, rfl, _, _⟩ := own_blkK H5.out.2.2 (by omega)
      have HT1 := Lib.hid (HT.out k hlt)
      have HV1 := Lib.hid (fun j h => HV.out k j hlt h)
      generalize pgL (k : Int) (q : Int) (pgCells X k) = T at *
      clear HU1 HU HD hw1 hw2 hw3 hm1 hm2 hm3 hm4 hm5 hm6 hm7 hm8 hm9 hm10 HT HV H4
      have hat0 : 2 + 6 * k + 3 * s ≤ 1000 := by omega
      generalize 2 + 6 * k + 3 * s = at_ at *
      go_wp2
      generalize wr = wo at *
      go_loopw [6, 35] (fun l i wr => ∃ j : Nat, j ≤ 3 ∧ i = .int .i64 (j : Int) ∧ Hid (Below w3.heap.size w3 wr ∧ wr.ownsRow w3.heap.size 210 2 l (3 * k + j) (flat Wr.cells (pagesW q X (3 * k + j))) ∧ wr.ownsRow wo.heap.size 9 1 (.slice (some ⟨g4, 0, none⟩) 3 cp4) 3 (txts T))) (fun _ i _ => 3 - (intOf i).toNat)
      case atStart => exact ⟨0, Nat.zero_le _, rfl, Lib.hid H5.out⟩
      case round =>
        obtain ⟨j, hj, rfl, HQ⟩ := hrel
        by_cases hj3 : j < 3
        · have hji : (j : Int) < 3 := by omega
          obtain ⟨c0, c1, c2, c3, c4', c5, c6⟩ := HC.out _ HQ.out.1
          have e0 : wr.cell? ⟨g4, j, none⟩ = some (.string (T.getD j ByteArray.empty)) := (owns_cell HQ.out.2.2 (k := j) (x := .string (T.getD j ByteArray.empty)) (by have := HT1.out; simp [txts, show j < T.length by omega])).1
          have HV2 := Lib.hid (HV1.out j hj3)
          generalize T.getD j ByteArray.empty = tj at *
          have HD := Lib.hid (fun u (b : Below wr.heap.size wr u) => HC.out u (HQ.out.1.trans (b.mono HQ.out.1.size)))
          have hw4 : IntKind.i64.wrap ((at_ : Int) + (j : Int)) = (at_ : Int) + (j : Int) := by rw [IntKind.wrap_i64]; omega
          have HW1 := Lib.hid (HW.out (3 * k + j))
          go_wp2
          go_region_held3 (fun u => u.cell? ⟨w.heap.size, 0, none⟩ = some (.int .i64 (q : Int)) ∧ u.cell? ⟨w.heap.size, 1, none⟩ = some (.int .i64 hd) ∧ u.cell? ⟨w.heap.size, 2, none⟩ = some (.int .i64 e) ∧ u.cell? ⟨w.heap.size, 3, none⟩ = some (.int .i64 (H : Int)) ∧ u.cell? ⟨w.heap.size, 4, none⟩ = some (.int .i64 (L : Int)) ∧ u.cell? ⟨b1, 0, none⟩ = some (.int .i64 (H : Int)) ∧ u.cell? ⟨b1, 1, none⟩ = some (.int .i64 (L : Int))) (first
              | assumption
              | exact HD.out _ (Below.refl _ _)
              | exact HD.out _ (Below.refl _ _).drew
              | exact HD.out _ b5
              | exact HD.out _ b6
              | exact HD.out _ (b6.alloc (by simp) _)
              | exact HD.out _ (b6.alloc b6.size _)
              | exact HC.out _ H7.out.1) (first
            | (go_at_call 187
               refine (HS.out _).mono ?_
               rintro e' w5 ⟨rfl, b5⟩
               replace b5 : Below wr.heap.size wr w5 := (by first | exact Below.refl _ _ | exact (Below.refl _ _).drew : Below wr.heap.size wr _).trans (b5.mono (by first | exact Nat.le_refl _ | simp)))
            | (go_at_call 186
               refine (HA1.out _).mono ?_
               rintro e' w6 ⟨rfl, b6⟩
               replace b6 : Below wr.heap.size wr w6 := (by first | exact b5 | exact b5.drew : Below wr.heap.size wr _).trans (b6.mono (by first | exact b5.size | exact b5.drew.size)))
            | (refine step_append_rowS rfl (.tmp 40) (.tmp 50) 206 rfl w3.heap.size 210 i0 _ 2 24 Tryz.underlying206 HI.out.1 HI.out.2.1 HI.out.2.2.1 HI.out.2.2.2 (by rfl) (by omega) u6 (3 * k + j) (flat Wr.cells (pagesW q X (3 * k + j))) rfl ((own_belowK HQ.out.2.1 b6).alloc _) (some ⟨w6.heap.size, 0, none⟩) 1 1 [.int .i64 ((at_ : Int) + (j : Int)), .string tj] rfl rfl (fun n v hv => ⟨_, rfl, by simp, World.news_of_block (heap_alloc_last _ _) n v hv⟩) (Wr.one ⟨(at_ : Int) + (j : Int), tj⟩) (by unfold maxLen; omega) (by omega) (by have := HQ.out.1.size; have := b6.size; simp; omega) ?_
               intro v7 w7 ho7 hg7
               have H7 := Lib.hid (And.intro ((HQ.out.1.trans ((b6.alloc b6.size (.cells #[.int .i64 ((at_ : Int) + (j : Int)), .string tj] 210)).mono HQ.out.1.size)).grown hg7 (by have := HQ.out.1.size; have := b6.size; simp; omega) (fun b hb => (HQ.out.2.1.lt b hb).1)) (And.intro ho7 (((own_belowK HQ.out.2.2 b6).alloc (.cells #[.int .i64 ((at_ : Int) + (j : Int)), .string tj] 210)).kept hg7 (.inr (fun e => owns_off HQ.out.2.1 HQ.out.2.2 (by decide) _ e.symm rfl)))))
               clear ho7 hg7))
          go_wp2
          refine ⟨⟨j + 1, by omega, by go_num, Lib.hid ⟨H7.out.1, ?_, H7.out.2.2⟩⟩, by simp [intOf]; omega⟩
          rw [show 3 * k + (j + 1) = 3 * k + j + 1 by omega, HW1.out, flat_app, Bk.flat_one, HV2.out]
          exact H7.out.2.1
        · obtain rfl : j = 3 := by omega
          have hn3 : ¬ ((3 : Nat) : Int) < 3 := by omega
          go_wp2
          refine ⟨⟨k + 1, by omega, by go_num, Lib.hid ⟨HQ.out.1, ?_⟩⟩, by simp [intOf]; omega⟩
          rw [show 3 * (k + 1) = 3 * k + 3 by omega]
          exact HQ.out.2.1
    · obtain rfl : k = P := by omega
      have hn : ¬ (k : Int) < (k : Int) := by omega
      go_wp2
      go_ret
      exact ⟨_, rfl, R3.out.2.2.trans (HR.out.1.mono hs3), owns_base' hs3 HR.out.2⟩
end Go.Proofs.YtiiioeodanmieaaGreatDoor
