import Derived.Laws.IdiomStrings
import Derived.Deep.MidRow
import Derived.Test.YtbghglkplbnnkaaGreatDoorYSeal
import Derived.Test.YtbghglkplbnnkaaGreatDoorYStoreB
set_option linter.unusedVariables false
set_option linter.unusedSimpArgs false
-- TurnB
namespace Go.Proofs.YtbghglkplbnnkaaGreatDoor
open Go.RowKit

def bcl (l : List UInt8) : List Value := l.map fun x => .int .u8 (x.toNat : Int)
theorem conv_bcl (w : World) (B n cap : Nat) (l : List UInt8) (hn : l.length = n) (h : w.rangeAt B 0 (bcl l)) :
    (convert 178 9 (.slice (some ⟨B, 0, none⟩) n cap)).run Tryz.prog w = .ok (.string ⟨l.toArray⟩) w := by
  subst hn
  refine run_convert_bytes_back w 178 9 5 ⟨B, 0, none⟩ cap l (by kernel_rfl) (by kernel_rfl) (by kernel_rfl) fun j hj => ?_
  have := h j (.int .u8 (l[j].toNat : Int)) (by simp [bcl, hj])
  rw [Addr.add_mid]
  exact this
theorem turn_at (at_ : Int) (N : Nat) (h : 0 < N) : (-(N : Int) < at_.tmod N ∧ at_.tmod N < N) ∧ ∃ K : Nat, K < N ∧ (at_.tmod N + N) % N = (K : Int) ∧ (at_.tmod N + N).tmod N = (K : Int) := by
  have ht0 : -(N : Int) < at_.tmod N := by
    have := Int.lt_tmod_of_pos at_ (b := (N : Int)) (by omega)
    omega
  have ht1 : at_.tmod N < N := Int.tmod_lt_of_pos at_ (by omega)
  have h3 := Int.emod_nonneg (at_.tmod N + N) (b := (N : Int)) (by omega)
  have h4 := Int.emod_lt_of_pos (at_.tmod N + N) (b := (N : Int)) (by omega)
  have h5 := Int.tmod_eq_emod_of_nonneg (a := at_.tmod N + N) (b := (N : Int)) (by omega)
  exact ⟨⟨ht0, ht1⟩, ((at_.tmod N + N) % N).toNat, by omega, by omega, by omega⟩
end Go.Proofs.YtbghglkplbnnkaaGreatDoor
-- StoreZero
namespace Go.Proofs.YtbghglkplbnnkaaGreatDoor
open Go.RowKit Sec
open Go.Proofs.YtbghglkplbnnkaaGreatDoor.Bk

theorem make_wrs (u : World) (n : Nat) (hn : n ≤ 2 ^ 40) :
    ∃ w', (Instr.makeSlice 145 (.int .i64 (n : Int)) (.int .i64 (n : Int))).run Tryz.prog u = .ok (.slice (some ⟨u.heap.size, 0, none⟩) n n) w' ∧ Below u.heap.size u w' ∧ w'.ownsRow u.heap.size 149 2 (.slice (some ⟨u.heap.size, 0, none⟩) n n) n (flat Wr.cells (List.replicate n ⟨0, ByteArray.empty⟩)) := by
  obtain ⟨i1, hi, hz0, hz1, hz2⟩ := info_parts wrInfo
  have h := run_make (P := Tryz.prog) u 145 149 i1 _ Tryz.underlying145 hi hz0 .i64 .i64 (n : Int) (n : Int) (by omega) (Int.le_refl _) (by rw [hz2]; omega) (by omega)
  refine ⟨_, by simpa using h, (Below.refl _ _).alloc (Nat.le_refl _) _, by rw [flat_len Wr.len]; simp, .inr ⟨u.heap.size, n, _, rfl, Nat.le_refl _, heap_alloc_new u _, Nat.le_refl _, by unfold maxLen; omega, ?_, ?_⟩⟩
  · rw [size_madeCells, hz1]
  · rw [hz1]
    apply List.ext_getElem?
    intro j
    rcases Nat.lt_or_ge j (n * 2) with q | q
    · have e1 : j = j / 2 * 2 + j % 2 := by omega
      have hx : (List.replicate n (⟨0, ByteArray.empty⟩ : Wr))[j / 2]? = some ⟨0, ByteArray.empty⟩ := by
        rw [List.getElem?_replicate, if_pos (by omega)]
      have := flat_get Wr.len hx (j % 2) (by omega)
      rw [← e1] at this
      rw [this]
      have : j % 2 = 0 ∨ j % 2 = 1 := by omega
      rcases this with r | r <;> simp [madeCells, Value.cells, Wr.cells, r, q]
    · rw [List.getElem?_eq_none (by simp [madeCells]; omega), List.getElem?_eq_none (by rw [flat_len Wr.len, List.length_replicate]; omega)]
def fillZ (a n k : Nat) : List Wr := zerosW a k ++ List.replicate (n - k) ⟨0, ByteArray.empty⟩
theorem fillZ_len (a n k : Nat) (h : k ≤ n) : (fillZ a n k).length = n := by simp [fillZ, zerosW_len]; omega
theorem fillZ_next (a n k : Nat) (h : k < n) : fillZ a n (k + 1) = (fillZ a n k).set k ⟨((a + k : Nat) : Int), zero32⟩ := by
  have e1 : n - k = (n - (k + 1)) + 1 := by omega
  have e2 : (zerosW a k).length = k := zerosW_len a k
  rw [fillZ, fillZ, e1, List.replicate_succ, List.set_append_right _ _ (by omega), e2, Nat.sub_self, List.set_cons_zero]
  simp [zerosW, List.range_succ]
theorem fillZ_end (a n : Nat) : fillZ a n n = zerosW a n := by simp [fillZ]
theorem zero_range (u : World) (m : Nat) (t : TypeId) : (u.alloc (.cells (Array.replicate m (.int .u8 0)) t)).rangeAt u.heap.size 0 (List.replicate m (.int .u8 0)) := fun j v hv => by
  rw [Nat.zero_add]
  rw [List.getElem?_replicate] at hv
  split at hv
  · rename_i hj
    obtain rfl := Option.some.inj hv
    simp [hj]
  · cases hv
theorem mk32 (u : World) : (Instr.makeSlice 178 (.int .i64 32) (.int .i64 32)).run Tryz.prog u = .ok (.slice (some ⟨u.heap.size, 0, none⟩) 32 32) (u.alloc (.cells (Array.replicate 32 (.int .u8 0)) 5)) := by
  obtain ⟨i1, hi, hz0, hz1, hz2⟩ := sl_info sl_u8Info
  have h := run_make (P := Tryz.prog) u 178 5 i1 _ Tryz.underlying178 hi hz0 .i64 .i64 32 32 (by omega) (Int.le_refl _) (by rw [hz2]; omega) (by omega)
  simpa [hz1, Value.cells, show madeCells #[Value.int .u8 0] 32 = Array.replicate 32 (.int .u8 0) from by apply Array.ext <;> simp [madeCells, Nat.mod_one]] using h
theorem conv_zero (u : World) (B : Nat) (h : u.rangeAt B 0 (List.replicate 32 (.int .u8 0))) : (convert 178 9 (.slice (some ⟨B, 0, none⟩) 32 32)).run Tryz.prog u = .ok (.string zero32) u :=
  conv_bcl u B 32 32 (List.replicate 32 0) rfl (by simpa [bcl] using h)

set_option maxRecDepth 100000 in
set_option maxHeartbeats 1000000 in
theorem zerosOf_is (a n : Nat) (ha : a ≤ 100000) (hn : n ≤ 100000) (w : World) :
    Calls Tryz.prog 101 #[.int .i64 (a : Int), .int .i64 (n : Int)] w fun e w' => ∃ v, e = .returned v ∧ Below w.heap.size w w' ∧ w'.ownsRow w.heap.size 149 2 v n (flat Wr.cells (zerosW a n)) := by
  obtain ⟨wm, hmk, bm, om⟩ := make_wrs w n (by omega)
  have HM := Lib.hid (And.intro bm om)
  clear bm om
  go_enter Tryz.func101, Tryz.ntmps101
  go_wp2
  clear hmk
  go_loopw [11] (fun i wr => ∃ k : Nat, k ≤ n ∧ i = .int .i64 (k : Int) ∧ Below w.heap.size w wr ∧ wr.ownsRow w.heap.size 149 2 (.slice (some ⟨w.heap.size, 0, none⟩) n n) n (flat Wr.cells (fillZ a n k))) (fun i _ => n - (intOf i).toNat)
  case atStart => exact ⟨0, Nat.zero_le _, rfl, HM.out.1, by have := HM.out.2; simpa [fillZ, zerosW] using this⟩
  case round =>
    obtain ⟨k, hk, rfl, hb, ho⟩ := hrel
    by_cases hlt : k < n
    · have HN : Hid (flat Wr.cells (fillZ a n (k + 1)) = ((flat Wr.cells (fillZ a n k)).set (k * 2) (.int .i64 ((a : Int) + (k : Int)))).set (k * 2 + 1) (.string zero32)) := Lib.hid (by
        rw [fillZ_next a n k hlt, flat_set Wr.len _ _ (by rw [fillZ_len a n k hk]; exact hlt)]
        rfl)
      obtain ⟨x0, hx0, c0, f0⟩ := owns_thereK ho (k := k * 2) (by omega)
      obtain ⟨x1, hx1, c1, f1⟩ := owns_thereK ho (k := k * 2 + 1) (by omega)
      have hwl := (ho.lt w.heap.size rfl).2
      have hne : w.heap.size ≠ wr.heap.size := by omega
      have hi1 : (k : Int) < (n : Int) := by omega
      have hak : (a : Int) + (k : Int) ≤ 200000 := by omega
      have HR := Lib.hid (And.intro hb ho)
      have hm32 := mk32 wr
      have hcv := conv_zero (wr.alloc (.cells (Array.replicate 32 (.int .u8 0)) 5)) wr.heap.size (zero_range wr 32 _)
      generalize Array.replicate 32 (Value.int .u8 0) = zs at *
      clear hb ho hx0 hx1
      go_wp2
      refine ⟨⟨k + 1, by omega, by go_num, ((HR.out.1.setCell (p := ⟨w.heap.size, k * 2, none⟩) (Nat.le_refl _) _).setCell (p := ⟨w.heap.size, k * 2 + 1, none⟩) (Nat.le_refl _) _).alloc (by have := HR.out.1.size; simp; omega) _, ?_⟩, by simp [intOf]; omega⟩
      rw [HN.out]
      exact (owns_setK (owns_setK HR.out.2 _ _) _ _).alloc _
    · obtain rfl : k = n := by omega
      have HR := Lib.hid (And.intro hb ho)
      have hn : ¬ (k : Int) < (k : Int) := by omega
      clear hlt hk hb ho
      go_wp2
      go_ret
      refine ⟨_, rfl, HR.out.1, ?_⟩
      rw [← fillZ_end]
      exact HR.out.2
end Go.Proofs.YtbghglkplbnnkaaGreatDoor
-- StoreRows
namespace Go.Proofs.YtbghglkplbnnkaaGreatDoor
open Go.RowKit Sec
open Go.Proofs.YtbghglkplbnnkaaGreatDoor.Bk

theorem step_append_rowS {P : Program} {ops : Array Oper} {o : Oper} {ac : Act} {w : World} {K : Act → World → Prop} {Q : Exit → Act → World → Prop} {E : Prop} (hw : Region.wanted o (yielded ops ac.tmps) = true) (s x : Operand) (t : TypeId)
    (ho : o.op = .call { callee := .builtin .append, args := #[s, x], argTypes := #[t, t] })
    (base : Nat) (e : TypeId) (i : TypeInfo) (z : Value) (size bytes : Nat) (ht : P.underlying t = some (.slice e)) (hi : P.info? e = some i) (hz : i.zero = some z)
    (hsize : i.size = size) (hby : i.bytes = bytes) (hzs : z.cells.size = size) (hsz : 0 < size)
    (v : Value) (n : Nat) (xs : List Value) (hs : ac.eval s = v) (hown : w.ownsRow base e size v n xs)
    (a : Option Addr) (m c : Nat) (news : List Value) (hx : ac.eval x = .slice a m c) (hl : news.length = m * size) (hnews : LiesAt w a news) (h1 : ∀ u ∈ news, u.oneCell' = true)
    (h63 : n + m ≤ maxLen) (hbytes : (n + m) * bytes ≤ 140737488355328) (hbase : base ≤ w.heap.size)
    (h : ∀ v' w', w'.ownsRow base e size v' (n + m) (xs ++ news) → w.grownBy w' v.ownBlock → K (ac.put o.dst v') w') :
    if Region.wanted o (yielded ops ac.tmps) = true then Oper.wp P o ac w K Q else E := by
  rw [if_pos hw]
  rcases Nat.eq_zero_or_pos m with h0 | h0
  · subst h0
    have hnn : news = [] := List.eq_nil_of_length_eq_zero (by simpa using hl)
    subst hnn
    have hr : (Builtin.append_ #[t, t] o.type #[v, .slice a 0 c]).run P w = .ok v w := by
      rcases hown.2 with ⟨q, _⟩ | ⟨g, cap, cur, q, _, _, hc, _⟩
      · rw [q]; exact run_append_nil_zero w t o.type e i ht hi a c
      · rw [q]; exact Bk.run_append_zero w t o.type e i ht hi _ n cap hc a c
    unfold Oper.wp execOp
    simp only [ho, resolve, invoke, builtin, Sem.run_bind, Sem.run_pure, Result.andThen_ok, List.map_toArray, List.map_cons, List.map_nil, hx, hs, hr]
    exact h _ _ (by simpa using hown) (grown_refl _ _)
  · have h0c : 0 < news.length := by rw [hl]; exact Nat.mul_pos h0 hsz
    obtain ⟨b, rfl, _, _⟩ := hnews 0 _ (List.getElem?_eq_getElem h0c)
    exact wp_append_lies w s x t ho base e i z size bytes ht hi hz hsize hby hzs hsz v n xs hs hown b m c news hx hl (fun j u hu => by
      obtain ⟨b', hb, _, hc⟩ := hnews j u hu
      obtain rfl : b = b' := by simpa using hb
      exact hc) h1 h0 h63 hbytes hbase _ rfl fun g cap w' ho' hg' _ _ => h _ w' ho' hg'

theorem ge_ok {H L : Nat} (h : 8 ≤ H ∧ H ≤ 400 ∧ 4 ≤ L ∧ L ≤ 300) : geOk (H : Int) (L : Int) = true := decide_eq_true (by omega)
theorem ge_pages {H L : Nat} (h : 8 ≤ H ∧ H ≤ 400 ∧ 4 ≤ L ∧ L ≤ 300) : gePages (H : Int) (L : Int) = ((pgs H : Nat) : Int) := by
  rw [gePages, geCells_yes (ge_ok h), pgs]
  omega
theorem ge_page {H L no s : Nat} (h : 8 ≤ H ∧ H ≤ 400 ∧ 4 ≤ L ∧ L ≤ 300) (hn : no < pgs H) (hs : s < 2) : gePage (H : Int) (L : Int) no s = ((2 + 6 * no + 3 * s : Nat) : Int) := by
  rw [gePage, ge_pages h, if_pos (by omega)]
  omega
theorem ge_log {H L : Nat} (h : 8 ≤ H ∧ H ≤ 400 ∧ 4 ≤ L ∧ L ≤ 300) : geLog (H : Int) (L : Int) = ((2 + 6 * pgs H : Nat) : Int) := by
  rw [geLog_yes (ge_ok h), ge_pages h]
  omega
theorem ge_sectors {H L : Nat} (h : 8 ≤ H ∧ H ≤ 400 ∧ 4 ≤ L ∧ L ≤ 300) : geSectors (H : Int) (L : Int) = ((2 + 6 * pgs H + L : Nat) : Int) := by
  rw [geSectors_yes (ge_ok h), ge_pages h]
  omega
theorem ge_cells {H L : Nat} (h : 8 ≤ H ∧ H ≤ 400 ∧ 4 ≤ L ∧ L ≤ 300) : geCells (H : Int) (L : Int) = ((16 + 2 * H : Nat) : Int) := by
  rw [geCells_yes (ge_ok h)]
  omega
theorem seven {w3 : World} {b0 b1 : Nat} {v0 v1 v2 v3 v4 v5 v6 : Value} (h0 : b0 < w3.heap.size) (h1 : b1 < w3.heap.size) (k0 : w3.cell? ⟨b0, 0, none⟩ = some v0) (k1 : w3.cell? ⟨b0, 1, none⟩ = some v1) (k2 : w3.cell? ⟨b0, 2, none⟩ = some v2) (k3 : w3.cell? ⟨b0, 3, none⟩ = some v3) (k4 : w3.cell? ⟨b0, 4, none⟩ = some v4) (k5 : w3.cell? ⟨b1, 0, none⟩ = some v5) (k6 : w3.cell? ⟨b1, 1, none⟩ = some v6) :
    ∀ u, Below w3.heap.size w3 u → (u.cell? ⟨b0, 0, none⟩ = some v0 ∧ u.cell? ⟨b0, 1, none⟩ = some v1 ∧ u.cell? ⟨b0, 2, none⟩ = some v2 ∧ u.cell? ⟨b0, 3, none⟩ = some v3 ∧ u.cell? ⟨b0, 4, none⟩ = some v4 ∧ u.cell? ⟨b1, 0, none⟩ = some v5 ∧ u.cell? ⟨b1, 1, none⟩ = some v6) := fun u b =>
  ⟨(b.cell (p := ⟨b0, 0, none⟩) h0).trans k0, (b.cell (p := ⟨b0, 1, none⟩) h0).trans k1, (b.cell (p := ⟨b0, 2, none⟩) h0).trans k2, (b.cell (p := ⟨b0, 3, none⟩) h0).trans k3, (b.cell (p := ⟨b0, 4, none⟩) h0).trans k4, (b.cell (p := ⟨b1, 0, none⟩) h1).trans k5, (b.cell (p := ⟨b1, 1, none⟩) h1).trans k6⟩

set_option maxRecDepth 100000 in
set_option maxHeartbeats 2000000 in
theorem emptyOf_is (q : Nat) (hd e : Int) (H L : Nat) (hg : 8 ≤ H ∧ H ≤ 400 ∧ 4 ≤ L ∧ L ≤ 300) (hq : q < 4294967296) (w : World) :
    Calls Tryz.prog 104 #[.agg #[.int .i64 (q : Int), .int .i64 hd, .int .i64 e, .int .i64 (H : Int), .int .i64 (L : Int)]] w fun r w' => ∃ v, r = .returned v ∧ Below w.heap.size w w' ∧ w'.ownsRow w.heap.size 149 2 v (3 * pgs H + L) (flat Wr.cells (emptyW (q % 2) (3 * pgs H) ++ zerosW (2 + 6 * pgs H) L)) := by
  obtain ⟨i0, hi, hz0, hz1, hz2⟩ := info_parts wrInfo
  have HI := Lib.hid (And.intro hi (And.intro hz0 (And.intro hz1 hz2)))
  clear hi hz0 hz1 hz2
  have hp := (pgs_le hg.2.1).1
  have HG : Hid (∀ u, Calls Tryz.prog 71 #[.agg #[.int .i64 (q : Int), .int .i64 hd, .int .i64 e, .int .i64 (H : Int), .int .i64 (L : Int)]] u fun r w' => r = .returned (.agg #[.int .i64 (H : Int), .int .i64 (L : Int)]) ∧ Below u.heap.size u w') := Lib.hid (fun u => geoOf_is ⟨(q : Int), hd, e, (H : Int), (L : Int)⟩ u)
  have HS : Hid (∀ u, Calls Tryz.prog 123 #[.agg #[.int .i64 (q : Int), .int .i64 hd, .int .i64 e, .int .i64 (H : Int), .int .i64 (L : Int)]] u fun r w' => r = .returned (.int .i64 ((q % 2 : Nat) : Int)) ∧ Below u.heap.size u w') := Lib.hid (fun u => (slotOf_is ⟨(q : Int), hd, e, (H : Int), (L : Int)⟩ (Int.natCast_nonneg _) (by show (q : Int) < _; omega) u).mono fun r w' ⟨h1, h2⟩ => ⟨h1.trans (geo_i (by show (q : Int) % 2 = _; omega)), h2⟩)
  have HP : Hid (∀ u, Calls Tryz.prog 98 #[.agg #[.int .i64 (H : Int), .int .i64 (L : Int)]] u fun r w' => r = .returned (.int .i64 ((pgs H : Nat) : Int)) ∧ Below u.heap.size u w') := Lib.hid (fun u => (gpages_is H L u).mono fun r w' ⟨h1, h2⟩ => ⟨by rw [h1, ge_pages hg], h2⟩)
  have HA : Hid (∀ (no : Nat) u, no < pgs H → Calls Tryz.prog 122 #[.agg #[.int .i64 (H : Int), .int .i64 (L : Int)], .int .i64 (no : Int), .int .i64 ((q % 2 : Nat) : Int)] u fun r w' => r = .returned (.int .i64 ((2 + 6 * no + 3 * (q % 2) : Nat) : Int)) ∧ Below u.heap.size u w') := Lib.hid (fun no u hn => (gpage_is H L no _ u).mono fun r w' ⟨h1, h2⟩ => ⟨by rw [h1, ge_page hg hn (Nat.mod_lt _ (by omega))], h2⟩)
  have HL : Hid (∀ u, Calls Tryz.prog 87 #[.agg #[.int .i64 (H : Int), .int .i64 (L : Int)]] u fun r w' => r = .returned (.int .i64 ((2 + 6 * pgs H : Nat) : Int)) ∧ Below u.heap.size u w') := Lib.hid (fun u => (glog_is H L u).mono fun r w' ⟨h1, h2⟩ => ⟨by rw [h1, ge_log hg], h2⟩)
  have hL := hg.2.2.2
  have HE := Lib.hid (fun n => emptyW_three (q % 2) n)
  have hq2 : q % 2 < 2 := Nat.mod_lt _ (by omega)
  clear hg hq
  generalize hP : pgs H = P at *
  generalize hs : q % 2 = s at *
  clear hP hs
  go_enter Tryz.func104, Tryz.ntmps104
  go_wp2_with (first
    | (go_at_call 71
       refine (HG.out _).mono ?_
       rintro e' w1 ⟨rfl, b1⟩
       have R1 := Lib.hid (Row5.laid b1)
       clear b1)
    | (go_at_call 98
       refine (HP.out _).mono ?_
       rintro e' w3 ⟨rfl, b3⟩
       have R3 := Lib.hid (And.intro ((R1.out.1.alloc _).below b3) (And.intro (GBox.laid b3).1 (R1.out.2.trans ((GBox.laid b3).2.mono R1.out.2.size))))
       clear b3))
  have HC := Lib.hid (seven R3.out.1.lt R3.out.2.1.lt R3.out.1.c0 R3.out.1.c1 R3.out.1.c2 R3.out.1.c3 R3.out.1.c4 R3.out.2.1.c0 R3.out.2.1.c1)
  generalize w1.heap.size = b1 at *
  have hs3 := R3.out.2.2.size
  go_loopw [4, 10] (fun l i wr => ∃ k, k ≤ P ∧ i = .int .i64 (k : Int) ∧ Hid (Below w3.heap.size w3 wr ∧ wr.ownsRow w3.heap.size 149 2 l (3 * k) (flat Wr.cells (emptyW s (3 * k))))) (fun _ i _ => P - (intOf i).toNat)
  case atStart => exact ⟨0, Nat.zero_le _, rfl, Lib.hid ⟨Below.refl _ _, World.ownsRow_nil _ _ _ _⟩⟩
  case round =>
    obtain ⟨k, hk, rfl, HR⟩ := hrel
    have hki : (k : Int) ≤ 51 := by omega
    obtain ⟨c0, c1, c2, c3, c4, c5, c6⟩ := HC.out _ HR.out.1
    by_cases hlt : k < P
    · have hi1 : (k : Int) < (P : Int) := by omega
      have HA1 := Lib.hid (fun u => HA.out k u hlt)
      have HZ := Lib.hid (fun u => zerosOf_is (2 + 6 * k + 3 * s) 3 (by omega) (by omega) u)
      have HE1 := Lib.hid (HE.out k)
      clear HA
      generalize 2 + 6 * k + 3 * s = at_ at *
      have HD := Lib.hid (fun u (b : Below wr.heap.size wr u) => HC.out u (HR.out.1.trans (b.mono HR.out.1.size)))
      go_wp2
      go_region_held3 (fun u => u.cell? ⟨w.heap.size, 0, none⟩ = some (.int .i64 (q : Int)) ∧ u.cell? ⟨w.heap.size, 1, none⟩ = some (.int .i64 hd) ∧ u.cell? ⟨w.heap.size, 2, none⟩ = some (.int .i64 e) ∧ u.cell? ⟨w.heap.size, 3, none⟩ = some (.int .i64 (H : Int)) ∧ u.cell? ⟨w.heap.size, 4, none⟩ = some (.int .i64 (L : Int)) ∧ u.cell? ⟨b1, 0, none⟩ = some (.int .i64 (H : Int)) ∧ u.cell? ⟨b1, 1, none⟩ = some (.int .i64 (L : Int))) (first
          | assumption
          | exact HD.out _ (Below.refl _ _)
          | exact HD.out _ (Below.refl _ _).drew
          | exact HD.out _ b4
          | exact HD.out _ b5
          | exact HD.out _ H6.out.1
          | exact HC.out _ H7.out.1) (first
        | (go_at_call 123
           refine (HS.out _).mono ?_
           rintro e' w4 ⟨rfl, b4⟩
           replace b4 : Below wr.heap.size wr w4 := (by first | exact Below.refl _ _ | exact (Below.refl _ _).drew : Below wr.heap.size wr _).trans (b4.mono (by first | exact Nat.le_refl _ | simp)))
        | (go_at_call 122
           refine (HA1.out _).mono ?_
           rintro e' w5 ⟨rfl, b5⟩
           replace b5 : Below wr.heap.size wr w5 := (by first | exact b4 | exact b4.drew : Below wr.heap.size wr _).trans (b5.mono (by first | exact b4.size | exact b4.drew.size)))
        | (go_at_call 101
           refine (HZ.out _).mono ?_
           rintro e' w6 ⟨v6, rfl, b6, o6⟩
           obtain ⟨a6, c6', rfl, l6, _⟩ := own_formK o6
           have H6 : Hid (Below wr.heap.size wr w6 ∧ LiesAt w6 a6 (flat Wr.cells (zerosW at_ 3))) := Lib.hid ⟨(by first | exact b5 | exact b5.drew : Below wr.heap.size wr _).trans (b6.mono (by first | exact b5.size | exact b5.drew.size)), l6⟩
           clear b6 o6 l6)
        | (refine step_append_rowS rfl (.tmp 13) (.tmp 19) 145 rfl w3.heap.size 149 i0 _ 2 24 Tryz.underlying145 HI.out.1 HI.out.2.1 HI.out.2.2.1 HI.out.2.2.2 (by rfl) (by omega) u4 (3 * k) (flat Wr.cells (emptyW s (3 * k))) rfl (own_belowK HR.out.2 H6.out.1) a6 3 c6' (flat Wr.cells (zerosW at_ 3)) rfl (by rw [flat_len Wr.len, zerosW_len]) H6.out.2 (flat_all Wr.one _) (by unfold maxLen; omega) (by omega) (Nat.le_trans HR.out.1.size H6.out.1.size) ?_
           intro v7 w7 ho7 hg7
           have H7 := Lib.hid (And.intro ((HR.out.1.trans (H6.out.1.mono HR.out.1.size)).grown hg7 (Nat.le_trans HR.out.1.size H6.out.1.size) (fun b hb => (HR.out.2.lt b hb).1)) ho7)
           clear ho7 hg7))
      go_wp2
      refine ⟨⟨k + 1, by omega, by go_num, Lib.hid ⟨H7.out.1, ?_⟩⟩, by simp [intOf]; omega⟩
      rw [HE1.out, show 3 * (k + 1) = 3 * k + 3 by omega, flat_app]
      exact H7.out.2
    · obtain rfl : k = P := by omega
      have hn : ¬ (k : Int) < (k : Int) := by omega
      have HZ := Lib.hid (fun u => zerosOf_is (2 + 6 * k) L (by omega) (by omega) u)
      have HD := Lib.hid (fun u (b : Below wr.heap.size wr u) => HC.out u (HR.out.1.trans (b.mono HR.out.1.size)))
      have hLi : (L : Int) ≤ 300 := by omega
      clear hlt HA HE
      generalize hat : 2 + 6 * k = at_ at *
      have HAT := Lib.hid hat
      clear hat
      go_wp2
      go_region_held3 (fun u => u.cell? ⟨w.heap.size, 0, none⟩ = some (.int .i64 (q : Int)) ∧ u.cell? ⟨w.heap.size, 1, none⟩ = some (.int .i64 hd) ∧ u.cell? ⟨w.heap.size, 2, none⟩ = some (.int .i64 e) ∧ u.cell? ⟨w.heap.size, 3, none⟩ = some (.int .i64 (H : Int)) ∧ u.cell? ⟨w.heap.size, 4, none⟩ = some (.int .i64 (L : Int)) ∧ u.cell? ⟨b1, 0, none⟩ = some (.int .i64 (H : Int)) ∧ u.cell? ⟨b1, 1, none⟩ = some (.int .i64 (L : Int))) (first
          | assumption
          | exact HD.out _ (Below.refl _ _)
          | exact HD.out _ (Below.refl _ _).drew
          | exact HD.out _ b5
          | exact HD.out _ H6.out.1
          | exact HC.out _ H7.out.1) (first
        | (go_at_call 87
           refine (HL.out _).mono ?_
           rintro e' w5 ⟨rfl, b5⟩
           replace b5 : Below wr.heap.size wr w5 := (by first | exact Below.refl _ _ | exact (Below.refl _ _).drew : Below wr.heap.size wr _).trans (b5.mono (by first | exact Nat.le_refl _ | simp)))
        | (go_at_call 101
           refine (HZ.out _).mono ?_
           rintro e' w6 ⟨v6, rfl, b6, o6⟩
           obtain ⟨a6, c6', rfl, l6, _⟩ := own_formK o6
           have H6 : Hid (Below wr.heap.size wr w6 ∧ LiesAt w6 a6 (flat Wr.cells (zerosW at_ L))) := Lib.hid ⟨(by first | exact b5 | exact b5.drew : Below wr.heap.size wr _).trans (b6.mono (by first | exact b5.size | exact b5.drew.size)), l6⟩
           clear b6 o6 l6)
        | (refine step_append_rowS rfl (.tmp 22) (.tmp 27) 145 rfl w3.heap.size 149 i0 _ 2 24 Tryz.underlying145 HI.out.1 HI.out.2.1 HI.out.2.2.1 HI.out.2.2.2 (by rfl) (by omega) u4 (3 * k) (flat Wr.cells (emptyW s (3 * k))) rfl (own_belowK HR.out.2 H6.out.1) a6 L c6' (flat Wr.cells (zerosW at_ L)) rfl (by rw [flat_len Wr.len, zerosW_len]) H6.out.2 (flat_all Wr.one _) (by unfold maxLen; omega) (by omega) (Nat.le_trans HR.out.1.size H6.out.1.size) ?_
           intro v7 w7 ho7 hg7
           have H7 := Lib.hid (And.intro ((HR.out.1.trans (H6.out.1.mono HR.out.1.size)).grown hg7 (Nat.le_trans HR.out.1.size H6.out.1.size) (fun b hb => (HR.out.2.lt b hb).1)) ho7)
           clear ho7 hg7))
      go_wp2
      go_ret
      refine ⟨v7, rfl, R3.out.2.2.trans (H7.out.1.mono hs3), ?_⟩
      rw [flat_app, HAT.out]
      exact owns_base' hs3 H7.out.2
end Go.Proofs.YtbghglkplbnnkaaGreatDoor
-- StorePages
namespace Go.Proofs.YtbghglkplbnnkaaGreatDoor
open Go.RowKit Sec
open Go.Proofs.YtbghglkplbnnkaaGreatDoor.Bk

theorem lies_cut {w : World} {g i n : Nat} {X : List Int} (h : LiesAt w (some ⟨g, 0, none⟩) (vals X)) : LiesAt w (some ⟨g, i, none⟩) (vals ((X.drop i).take n)) := fun j u hu => by
  have hj : ((X.drop i).take n)[j]? = X[i + j]? ∧ j < n := by
    rcases Nat.lt_or_ge j n with q | q
    · exact ⟨by rw [List.getElem?_take, if_pos q, List.getElem?_drop], q⟩
    · rw [List.getElem?_eq_none (by simp [vals]; omega)] at hu; cases hu
  have hu' : (vals X)[i + j]? = some u := by
    rw [vals, List.getElem?_map, ← hj.1, ← List.getElem?_map]
    exact hu
  obtain ⟨b, hb, hl, hc⟩ := h (i + j) u hu'
  obtain rfl : (⟨g, 0, none⟩ : Addr) = b := by simpa using hb
  refine ⟨_, rfl, hl, ?_⟩
  rw [Addr.add_mid] at hc ⊢
  simpa using hc

theorem owns_off {w : World} {b1 b2 : Nat} {e1 e2 : TypeId} {k1 k2 n1 n2 : Nat} {v1 v2 : Value} {x1 x2 : List Value} (h1 : w.ownsRow b1 e1 k1 v1 n1 x1) (h2 : w.ownsRow b2 e2 k2 v2 n2 x2) (hne : e1 ≠ e2) : ∀ g, v1.ownBlock = some g → v2.ownBlock ≠ some g := fun g q1 q2 => by
  rcases h1.2 with ⟨r, _⟩ | ⟨g1, _, _, r1, _, r2, _⟩
  · rw [r] at q1; cases q1
  · rcases h2.2 with ⟨s, _⟩ | ⟨g2, _, _, s1, _, s2, _⟩
    · rw [s] at q2; cases q2
    · rw [r1] at q1
      rw [s1] at q2
      simp only [Value.ownBlock, Option.some.injEq] at q1 q2
      subst q1 q2
      rw [r2] at s2
      simp only [Option.some.injEq, Obj.cells.injEq] at s2
      exact hne s2.2.1

set_option maxRecDepth 100000 in
set_option maxHeartbeats 4000000 in
theorem pagesOf_is (q : Nat) (hd e : Int) (H L : Nat) (hg : 8 ≤ H ∧ H ≤ 400 ∧ 4 ≤ L ∧ L ≤ 300) (hq : q < 4294967296) (gc c : Nat) (X : List Int) (hX : X.length = 16 * pgs H) (hc : 16 * pgs H ≤ c) (hf : FineC X) (w : World) (hl : LiesAt w (some ⟨gc, 0, none⟩) (vals X)) :
    Calls Tryz.prog 103 #[.agg #[.int .i64 (q : Int), .int .i64 hd, .int .i64 e, .int .i64 (H : Int), .int .i64 (L : Int)], .slice (some ⟨gc, 0, none⟩) X.length c] w fun r w' => ∃ v, r = .returned v ∧ Below w.heap.size w w' ∧ w'.ownsRow w.heap.size 149 2 v (3 * pgs H) (flat Wr.cells (pagesW q X (3 * pgs H))) := by
  obtain ⟨i0, hi, hz0, hz1, hz2⟩ := info_parts wrInfo
  have HI := Lib.hid (And.intro hi (And.intro hz0 (And.intro hz1 hz2)))
  clear hi hz0 hz1 hz2
  have hp := (pgs_le hg.2.1).1
  have HG : Hid (∀ u, Calls Tryz.prog 71 #[.agg #[.int .i64 (q : Int), .int .i64 hd, .int .i64 e, .int .i64 (H : Int), .int .i64 (L : Int)]] u fun r w' => r = .returned (.agg #[.int .i64 (H : Int), .int .i64 (L : Int)]) ∧ Below u.heap.size u w') := Lib.hid (fun u => geoOf_is ⟨(q : Int), hd, e, (H : Int), (L : Int)⟩ u)
  have HS : Hid (∀ u, Calls Tryz.prog 123 #[.agg #[.int .i64 (q : Int), .int .i64 hd, .int .i64 e, .int .i64 (H : Int), .int .i64 (L : Int)]] u fun r w' => r = .returned (.int .i64 ((q % 2 : Nat) : Int)) ∧ Below u.heap.size u w') := Lib.hid (fun u => (slotOf_is ⟨(q : Int), hd, e, (H : Int), (L : Int)⟩ (Int.natCast_nonneg _) (by show (q : Int) < _; omega) u).mono fun r w' ⟨h1, h2⟩ => ⟨h1.trans (geo_i (by show (q : Int) % 2 = _; omega)), h2⟩)
  have HP : Hid (∀ u, Calls Tryz.prog 98 #[.agg #[.int .i64 (H : Int), .int .i64 (L : Int)]] u fun r w' => r = .returned (.int .i64 ((pgs H : Nat) : Int)) ∧ Below u.heap.size u w') := Lib.hid (fun u => (gpages_is H L u).mono fun r w' ⟨h1, h2⟩ => ⟨by rw [h1, ge_pages hg], h2⟩)
  have HA : Hid (∀ (no : Nat) u, no < pgs H → Calls Tryz.prog 122 #[.agg #[.int .i64 (H : Int), .int .i64 (L : Int)], .int .i64 (no : Int), .int .i64 ((q % 2 : Nat) : Int)] u fun r w' => r = .returned (.int .i64 ((2 + 6 * no + 3 * (q % 2) : Nat) : Int)) ∧ Below u.heap.size u w') := Lib.hid (fun no u hn => (gpage_is H L no _ u).mono fun r w' ⟨h1, h2⟩ => ⟨by rw [h1, ge_page hg hn (Nat.mod_lt _ (by omega))], h2⟩)
  have HU : Hid (∀ (no : Nat) u, no < pgs H → LiesAt u (some ⟨gc, 0, none⟩) (vals X) → Calls Tryz.prog 121 #[.int .i64 (no : Int), .int .i64 (q : Int), .slice (some ⟨gc, no * 16, none⟩) 16 (c - no * 16)] u fun r w' => ∃ v, r = .returned (.tuple #[v, .bool true]) ∧ Below u.heap.size u w' ∧ w'.ownsRow u.heap.size 9 1 v 3 (txts (pgL (no : Int) (q : Int) (pgCells X no)))) := Lib.hid (fun no u hn hu => by
    have e1 := pg_cut hX hn
    have ok := pg_fine hf (no := no) (v := q) (by omega) hq
    have := pput_is (no : Int) (q : Int) (some ⟨gc, no * 16, none⟩) ((X.drop (no * 16)).take 16) (c - no * 16) u (lies_cut hu) (by rw [e1, pgCells_len]; unfold maxLen; omega)
    rw [e1, pgCells_len, ok] at this
    have h3 := (pgL_three ok).1
    rw [h3] at this
    exact this)
  have HX := Lib.hid (And.intro hl hX)
  have hXi : X.length = 16 * pgs H := hX
  have HW := Lib.hid (fun n => pagesW_next q X n)
  have hq2 : q % 2 < 2 := Nat.mod_lt _ (by omega)
  have hwr : ∀ no k, no < pgs H → k < 3 → wrPg q X (3 * no + k) = ⟨((2 + 6 * no + 3 * (q % 2) : Nat) : Int) + (k : Int), (pgL (no : Int) (q : Int) (pgCells X no)).getD k ByteArray.empty⟩ := fun no k hn hk => by
    rw [wrPg, show (3 * no + k) / 3 = no by omega, show (3 * no + k) % 3 = k by omega]
    congr 1
  have HV := Lib.hid hwr
  have HT : Hid (∀ no, no < pgs H → (pgL (no : Int) (q : Int) (pgCells X no)).length = 3) := Lib.hid (fun no hn => (pgL_three (pg_fine hf (no := no) (v := q) (by omega) hq)).1)
  clear hl hf hq hwr hg
  generalize hP : pgs H = P at *
  generalize hs : q % 2 = s at *
  clear hs
  go_enter Tryz.func103, Tryz.ntmps103
  go_wp2_with (first
    | (go_at_call 71
       refine (HG.out _).mono ?_
       rintro e' w1 ⟨rfl, b1⟩
       have R1 := Lib.hid (Row5.laid b1)
       clear b1)
    | (go_at_call 98
       refine (HP.out _).mono ?_
       rintro e' w3 ⟨rfl, b3⟩
       have R3 := Lib.hid (And.intro ((R1.out.1.alloc _).below b3) (And.intro (GBox.laid b3).1 (R1.out.2.trans ((GBox.laid b3).2.mono R1.out.2.size))))
       clear b3))
  have HC := Lib.hid (seven R3.out.1.lt R3.out.2.1.lt R3.out.1.c0 R3.out.1.c1 R3.out.1.c2 R3.out.1.c3 R3.out.1.c4 R3.out.2.1.c0 R3.out.2.1.c1)
  generalize w1.heap.size = b1 at *
  have hs3 := R3.out.2.2.size
  go_loopw [6, 16] (fun l i wr => ∃ k, k ≤ P ∧ i = .int .i64 (k : Int) ∧ Hid (Below w3.heap.size w3 wr ∧ wr.ownsRow w3.heap.size 149 2 l (3 * k) (flat Wr.cells (pagesW q X (3 * k))))) (fun _ i _ => P - (intOf i).toNat)
  case atStart => exact ⟨0, Nat.zero_le _, rfl, Lib.hid ⟨Below.refl _ _, World.ownsRow_nil _ _ _ _⟩⟩
  case round =>
    obtain ⟨k, hk, rfl, HR⟩ := hrel
    have hki : (k : Int) ≤ 51 := by omega
    obtain ⟨c0, c1, c2, c3, c4, c5, c6⟩ := HC.out _ HR.out.1
    by_cases hlt : k < P
    · have hi1 : (k : Int) < (P : Int) := by omega
      have HA1 := Lib.hid (fun u => HA.out k u hlt)
      have HD := Lib.hid (fun u (b : Below wr.heap.size wr u) => HC.out u (HR.out.1.trans (b.mono HR.out.1.size)))
      have HU1 := Lib.hid (fun u (b : Below wr.heap.size wr u) => HU.out k u hlt (HX.out.1.below ((R3.out.2.2.trans ((HR.out.1.trans (b.mono HR.out.1.size)).mono hs3)))))
      have hm1 : (k : Int) * 16 = ((k * 16 : Nat) : Int) := by omega
      have hm2 : ((k : Int) + 1) * 16 = ((k * 16 : Nat) : Int) + 16 := by omega
      have hm3 : k * 16 + 16 ≤ c := by omega
      have hm4 : k * 16 + 16 ≤ X.length := by omega
      have hm5 : ((k * 16 : Nat) : Int) + 16 ≤ (c : Int) := by omega
      have hm6 : ((k * 16 : Nat) : Int) ≤ 1000 := by omega
      have hw1 : IntKind.i64.wrap ((k * 16 : Nat) : Int) = ((k * 16 : Nat) : Int) := by rw [IntKind.wrap_i64]; omega
      have hw2 : IntKind.i64.wrap ((k : Int) + 1) = (k : Int) + 1 := by rw [IntKind.wrap_i64]; omega
      have hw3 : IntKind.i64.wrap (((k * 16 : Nat) : Int) + 16) = ((k * 16 : Nat) : Int) + 16 := by rw [IntKind.wrap_i64]; omega
      have hm7 : (0 : Int) ≤ ((k * 16 : Nat) : Int) + 16 := by omega
      have hm8 : max (((k * 16 : Nat) : Int) + 16) 0 = ((k * 16 : Nat) : Int) + 16 := by omega
      have hm9 : (((k * 16 : Nat) : Int) + 16).toNat = k * 16 + 16 := by omega
      have hm10 : ¬ c = k * 16 := by omega
      generalize k * 16 = m at *
      go_wp2
      go_region_held3 (fun u => u.cell? ⟨w.heap.size, 0, none⟩ = some (.int .i64 (q : Int)) ∧ u.cell? ⟨w.heap.size, 1, none⟩ = some (.int .i64 hd) ∧ u.cell? ⟨w.heap.size, 2, none⟩ = some (.int .i64 e) ∧ u.cell? ⟨w.heap.size, 3, none⟩ = some (.int .i64 (H : Int)) ∧ u.cell? ⟨w.heap.size, 4, none⟩ = some (.int .i64 (L : Int)) ∧ u.cell? ⟨b1, 0, none⟩ = some (.int .i64 (H : Int)) ∧ u.cell? ⟨b1, 1, none⟩ = some (.int .i64 (L : Int))) (first
          | assumption
          | exact HD.out _ (Below.refl _ _)
          | exact HD.out _ (Below.refl _ _).drew
          | exact HD.out _ H4.out.1) (first
        | (go_at_call 121
           refine (HU1.out _ (by first | exact Below.refl _ _ | exact (Below.refl _ _).drew)).mono ?_
           rintro e' w4 ⟨v4, rfl, b4, o4⟩
           have H4 := Lib.hid (And.intro ((by first | exact Below.refl _ _ | exact (Below.refl _ _).drew : Below wr.heap.size wr _).trans (b4.mono (by first | exact Nat.le_refl _ | simp))) o4)
           clear b4 o4))
      have H5 := Lib.hid (And.intro (HR.out.1.trans (H4.out.1.mono HR.out.1.size)) (And.intro (own_belowK HR.out.2 H4.out.1) (owns_base' (show wr.heap.size ≤ _ from by first | exact Nat.le_refl _ | simp) H4.out.2)))
      obtain ⟨g4, cp4, rfl, _, _⟩ := own_blkK H5.out.2.2 (by omega)
      have HT1 := Lib.hid (HT.out k hlt)
      have HV1 := Lib.hid (fun j h => HV.out k j hlt h)
      generalize pgL (k : Int) (q : Int) (pgCells X k) = T at *
      clear HU1 HU HD hw1 hw2 hw3 hm1 hm2 hm3 hm4 hm5 hm6 hm7 hm8 hm9 hm10 HT HV H4
      have hat0 : 2 + 6 * k + 3 * s ≤ 1000 := by omega
      generalize 2 + 6 * k + 3 * s = at_ at *
      go_wp2
      generalize wr = wo at *
      go_loopw [6, 35] (fun l i wr => ∃ j : Nat, j ≤ 3 ∧ i = .int .i64 (j : Int) ∧ Hid (Below w3.heap.size w3 wr ∧ wr.ownsRow w3.heap.size 149 2 l (3 * k + j) (flat Wr.cells (pagesW q X (3 * k + j))) ∧ wr.ownsRow wo.heap.size 9 1 (.slice (some ⟨g4, 0, none⟩) 3 cp4) 3 (txts T))) (fun _ i _ => 3 - (intOf i).toNat)
      case atStart => exact ⟨0, Nat.zero_le _, rfl, Lib.hid H5.out⟩
      case round =>
        obtain ⟨j, hj, rfl, HQ⟩ := hrel
        by_cases hj3 : j < 3
        · have hji : (j : Int) < 3 := by omega
          obtain ⟨c0, c1, c2, c3, c4', c5, c6⟩ := HC.out _ HQ.out.1
          have e0 : wr.cell? ⟨g4, j, none⟩ = some (.string (T.getD j ByteArray.empty)) := (owns_cell HQ.out.2.2 (k := j) (x := .string (T.getD j ByteArray.empty)) (by have := HT1.out; simp [txts, show j < T.length by omega])).1
          have HV2 := Lib.hid (HV1.out j hj3)
          generalize T.getD j ByteArray.empty = tj at *
          have HD := Lib.hid (fun u (b : Below wr.heap.size wr u) => HC.out u (HQ.out.1.trans (b.mono HQ.out.1.size)))
          have hw4 : IntKind.i64.wrap ((at_ : Int) + (j : Int)) = (at_ : Int) + (j : Int) := by rw [IntKind.wrap_i64]; omega
          have HW1 := Lib.hid (HW.out (3 * k + j))
          go_wp2
          go_region_held3 (fun u => u.cell? ⟨w.heap.size, 0, none⟩ = some (.int .i64 (q : Int)) ∧ u.cell? ⟨w.heap.size, 1, none⟩ = some (.int .i64 hd) ∧ u.cell? ⟨w.heap.size, 2, none⟩ = some (.int .i64 e) ∧ u.cell? ⟨w.heap.size, 3, none⟩ = some (.int .i64 (H : Int)) ∧ u.cell? ⟨w.heap.size, 4, none⟩ = some (.int .i64 (L : Int)) ∧ u.cell? ⟨b1, 0, none⟩ = some (.int .i64 (H : Int)) ∧ u.cell? ⟨b1, 1, none⟩ = some (.int .i64 (L : Int))) (first
              | assumption
              | exact HD.out _ (Below.refl _ _)
              | exact HD.out _ (Below.refl _ _).drew
              | exact HD.out _ b5
              | exact HD.out _ b6
              | exact HD.out _ (b6.alloc (by simp) _)
              | exact HD.out _ (b6.alloc b6.size _)
              | exact HC.out _ H7.out.1) (first
            | (go_at_call 123
               refine (HS.out _).mono ?_
               rintro e' w5 ⟨rfl, b5⟩
               replace b5 : Below wr.heap.size wr w5 := (by first | exact Below.refl _ _ | exact (Below.refl _ _).drew : Below wr.heap.size wr _).trans (b5.mono (by first | exact Nat.le_refl _ | simp)))
            | (go_at_call 122
               refine (HA1.out _).mono ?_
               rintro e' w6 ⟨rfl, b6⟩
               replace b6 : Below wr.heap.size wr w6 := (by first | exact b5 | exact b5.drew : Below wr.heap.size wr _).trans (b6.mono (by first | exact b5.size | exact b5.drew.size)))
            | (refine step_append_rowS rfl (.tmp 40) (.tmp 50) 145 rfl w3.heap.size 149 i0 _ 2 24 Tryz.underlying145 HI.out.1 HI.out.2.1 HI.out.2.2.1 HI.out.2.2.2 (by rfl) (by omega) u6 (3 * k + j) (flat Wr.cells (pagesW q X (3 * k + j))) rfl ((own_belowK HQ.out.2.1 b6).alloc _) (some ⟨w6.heap.size, 0, none⟩) 1 1 [.int .i64 ((at_ : Int) + (j : Int)), .string tj] rfl rfl (fun n v hv => ⟨_, rfl, by simp, World.news_of_block (heap_alloc_last _ _) n v hv⟩) (Wr.one ⟨(at_ : Int) + (j : Int), tj⟩) (by unfold maxLen; omega) (by omega) (by have := HQ.out.1.size; have := b6.size; simp; omega) ?_
               intro v7 w7 ho7 hg7
               have H7 := Lib.hid (And.intro ((HQ.out.1.trans ((b6.alloc b6.size (.cells #[.int .i64 ((at_ : Int) + (j : Int)), .string tj] 149)).mono HQ.out.1.size)).grown hg7 (by have := HQ.out.1.size; have := b6.size; simp; omega) (fun b hb => (HQ.out.2.1.lt b hb).1)) (And.intro ho7 (((own_belowK HQ.out.2.2 b6).alloc (.cells #[.int .i64 ((at_ : Int) + (j : Int)), .string tj] 149)).kept hg7 (.inr (fun e => owns_off HQ.out.2.1 HQ.out.2.2 (by decide) _ e.symm rfl)))))
               clear ho7 hg7))
          go_wp2
          refine ⟨⟨j + 1, by omega, by go_num, Lib.hid ⟨H7.out.1, ?_, H7.out.2.2⟩⟩, by simp [intOf]; omega⟩
          rw [show 3 * k + (j + 1) = 3 * k + j + 1 by omega, HW1.out, flat_app, Bk.flat_one, HV2.out]
          exact H7.out.2.1
        · obtain rfl : j = 3 := by omega
          have hn3 : ¬ ((3 : Nat) : Int) < 3 := by omega
          go_wp2
          refine ⟨⟨k + 1, by omega, by go_num, Lib.hid ⟨HQ.out.1, ?_⟩⟩, by simp [intOf]; omega⟩
          rw [show 3 * (k + 1) = 3 * k + 3 by omega]
          exact HQ.out.2.1
    · obtain rfl : k = P := by omega
      have hn : ¬ (k : Int) < (k : Int) := by omega
      go_wp2
      go_ret
      exact ⟨_, rfl, R3.out.2.2.trans (HR.out.1.mono hs3), owns_base' hs3 HR.out.2⟩
end Go.Proofs.YtbghglkplbnnkaaGreatDoor
-- StoreFormat
namespace Go.Proofs.YtbghglkplbnnkaaGreatDoor
open Go.RowKit Sec
open Go.Proofs.YtbghglkplbnnkaaGreatDoor.Bk

theorem st_intInfo : (Tryz.prog.info? 3).map (fun i => (i.zero, i.size, i.bytes)) = some (some (.int .i64 0), 1, 8) := by kernel_rfl
theorem st_make_ints (u : World) (n : Nat) (hn : n ≤ 100000) :
    ∃ w', (Instr.makeSlice 24 (.int .i64 (n : Int)) (.int .i64 (n : Int))).run Tryz.prog u = .ok (.slice (some ⟨u.heap.size, 0, none⟩) n n) w' ∧ Below u.heap.size u w' ∧ w'.ownsRow u.heap.size 3 1 (.slice (some ⟨u.heap.size, 0, none⟩) n n) n (vals (List.replicate n 0)) := by
  obtain ⟨i1, hi, hz0, hz1, hz2⟩ := info_parts st_intInfo
  have h := run_make (P := Tryz.prog) u 24 3 i1 _ Tryz.underlying24 hi hz0 .i64 .i64 (n : Int) (n : Int) (by omega) (Int.le_refl _) (by rw [hz2]; omega) (by omega)
  refine ⟨_, by simpa using h, (Below.refl _ _).alloc (Nat.le_refl _) _, by simp [vals], .inr ⟨u.heap.size, n, _, rfl, Nat.le_refl _, heap_alloc_new u _, Nat.le_refl _, by unfold maxLen; omega, ?_, ?_⟩⟩
  · rw [size_madeCells, hz1]
  · rw [hz1]
    apply List.ext_getElem
    · simp [madeCells, vals]
    · intro j h1 h2
      simp [madeCells, vals, Value.cells, Nat.mod_one]
def freshX (P : Nat) : List Int := (List.replicate (16 * P) 0).set 1 16
def freshC (H : Nat) : List Int := (List.replicate (16 + 2 * H) 0).set 1 16
theorem fresh_join (H : Nat) (h : H ≤ 400) : freshX (pgs H) = joinP (freshC H) (pgs H) := by
  obtain ⟨p1, p2⟩ := pgs_le h
  refine joinP_ext (P := pgs H) (by simp [freshX]) (joinP_len _ _) (fun k hk => ?_)
  rw [joinP_getD (by simp [freshC]; omega), freshX, freshC, List.getD_eq_getElem?_getD, List.getD_eq_getElem?_getD, List.getElem?_set, List.getElem?_set]
  by_cases e : 1 = k
  · subst e
    rw [if_pos rfl, if_pos rfl, if_pos (by simp; omega), if_pos (by simp; omega)]
  · rw [if_neg e, if_neg e, List.getElem?_replicate, List.getElem?_replicate]
    split <;> split <;> rfl
theorem freshX_fine (P : Nat) : FineC (freshX P) := fun c hc => by
  rcases List.mem_or_eq_of_mem_set hc with q | rfl
  · have := (List.mem_replicate.1 q).2
    omega
  · omega
theorem own_cells {w u : World} {base g n c : Nat} {X : List Int} (o : w.ownsRow base 3 1 (.slice (some ⟨g, 0, none⟩) n c) n (vals X)) (b : Below w.heap.size w u) : LiesAt u (some ⟨g, 0, none⟩) (vals X) := by
  obtain ⟨a', c', hv, hl, _⟩ := own_form (own_belowK o b)
  obtain ⟨rfl, _⟩ : some ⟨g, 0, none⟩ = a' ∧ c = c' := by simpa using hv
  exact hl
theorem KeptG.below {G : Nat → Prop} {B : Nat} {w w' : World} {p : Nat} {D : Dsk} (h : AtK B G w p D) (b : Below w.heap.size w w') : KeptG G w w' := fun k hk => b.block k (h.lt k hk)

theorem ten_of {w3 : World} {g0 g1 : Nat} {H L : Int} (re : Row5 w3 g0 (.int .i64 0) (.int .i64 0) (.int .i64 1) (.int .i64 H) (.int .i64 L)) (rn : Row5 w3 g1 (.int .i64 1) (.int .i64 0) (.int .i64 1) (.int .i64 H) (.int .i64 L)) (u : World) (k : ∀ b, b = g0 ∨ b = g1 → u.heap[b]? = w3.heap[b]?) :
    (u.cell? ⟨g0, 0, none⟩ = some (.int .i64 0) ∧ u.cell? ⟨g0, 1, none⟩ = some (.int .i64 0) ∧ u.cell? ⟨g0, 2, none⟩ = some (.int .i64 1) ∧ u.cell? ⟨g0, 3, none⟩ = some (.int .i64 H) ∧ u.cell? ⟨g0, 4, none⟩ = some (.int .i64 L) ∧ u.cell? ⟨g1, 0, none⟩ = some (.int .i64 1) ∧ u.cell? ⟨g1, 1, none⟩ = some (.int .i64 0) ∧ u.cell? ⟨g1, 2, none⟩ = some (.int .i64 1) ∧ u.cell? ⟨g1, 3, none⟩ = some (.int .i64 H) ∧ u.cell? ⟨g1, 4, none⟩ = some (.int .i64 L)) :=
  have e : ∀ b, (b = g0 ∨ b = g1) → ∀ j, u.cell? ⟨b, j, none⟩ = w3.cell? ⟨b, j, none⟩ := fun b hb j => World.cell?_of_block (a := ⟨b, j, none⟩) (k b hb)
  ⟨(e _ (.inl rfl) 0).trans re.c0, (e _ (.inl rfl) 1).trans re.c1, (e _ (.inl rfl) 2).trans re.c2, (e _ (.inl rfl) 3).trans re.c3, (e _ (.inl rfl) 4).trans re.c4, (e _ (.inr rfl) 0).trans rn.c0, (e _ (.inr rfl) 1).trans rn.c1, (e _ (.inr rfl) 2).trans rn.c2, (e _ (.inr rfl) 3).trans rn.c3, (e _ (.inr rfl) 4).trans rn.c4⟩

set_option maxRecDepth 100000 in
set_option maxHeartbeats 4000000 in
theorem format_is {B : Nat} {G : Nat → Prop} {w : World} {p : Nat} {D D1 D2 D3 : Dsk} (h : AtK B G w p D) (H L : Nat) (hg : 8 ≤ H ∧ H ≤ 400 ∧ 4 ≤ L ∧ L ≤ 300)
    (hb : D.waits = [] ∧ D1.waits = [] ∧ D2.waits = []) (hd : D.deeds < 2 ^ 50 ∧ D1.deeds < 2 ^ 50 ∧ D2.deeds < 2 ^ 50)
    (e1 : layR D (zerosW 0 2) = (D1, 0)) (e2 : layR D1 (pagesW 1 (freshX (pgs H)) (3 * pgs H) ++ (emptyW 0 (3 * pgs H) ++ zerosW (2 + 6 * pgs H) L)) = (D2, 0)) (e3 : layR D2 [crW (crS 0 0 1 H L), crW (crS 1 0 1 H L)] = (D3, 0)) :
    Calls Tryz.prog 89 #[.pointer (some ⟨p, 0, none⟩), .agg #[.int .i64 (H : Int), .int .i64 (L : Int)]] w fun r w' => r = .returned .nilIface ∧ AtK B G w' p D3 ∧ Below B w w' ∧ KeptG G w w' := by
  have hp := (pgs_le hg.2.1).1
  have hp1 : 1 ≤ pgs H := by unfold pgs; omega
  have HZ := Lib.hid (fun u => zerosOf_is 0 2 (by omega) (by omega) u)
  have HP : Hid (∀ u, Calls Tryz.prog 98 #[.agg #[.int .i64 (H : Int), .int .i64 (L : Int)]] u fun r w' => r = .returned (.int .i64 ((pgs H : Nat) : Int)) ∧ Below u.heap.size u w') := Lib.hid (fun u => (gpages_is H L u).mono fun r w' ⟨h1, h2⟩ => ⟨by rw [h1, ge_pages hg], h2⟩)
  have HPa : Hid (∀ (gc c : Nat) u, 16 * pgs H ≤ c → LiesAt u (some ⟨gc, 0, none⟩) (vals (freshX (pgs H))) → Calls Tryz.prog 103 #[.agg #[.int .i64 1, .int .i64 0, .int .i64 1, .int .i64 (H : Int), .int .i64 (L : Int)], .slice (some ⟨gc, 0, none⟩) (16 * pgs H) c] u fun r w' => ∃ v, r = .returned v ∧ Below u.heap.size u w' ∧ w'.ownsRow u.heap.size 149 2 v (3 * pgs H) (flat Wr.cells (pagesW 1 (freshX (pgs H)) (3 * pgs H)))) := Lib.hid (fun gc c u hc hl => by
    have hX : (freshX (pgs H)).length = 16 * pgs H := by simp [freshX]
    have := pagesOf_is 1 0 1 H L hg (by omega) gc c (freshX (pgs H)) hX hc (freshX_fine _) u hl
    rw [hX] at this
    exact this)
  have HEm : Hid (∀ u, Calls Tryz.prog 104 #[.agg #[.int .i64 0, .int .i64 0, .int .i64 1, .int .i64 (H : Int), .int .i64 (L : Int)]] u fun r w' => ∃ v, r = .returned v ∧ Below u.heap.size u w' ∧ w'.ownsRow u.heap.size 149 2 v (3 * pgs H + L) (flat Wr.cells (emptyW 0 (3 * pgs H) ++ zerosW (2 + 6 * pgs H) L))) := Lib.hid (fun u => emptyOf_is 0 0 1 H L hg (by omega) u)
  have ok0 : supOk (crS 0 0 1 H L) = true := by
    simp only [supOk, crS, mostI, Bool.and_eq_true]
    exact ⟨⟨⟨⟨⟨⟨decide_eq_true (by omega), decide_eq_true (by omega)⟩, decide_eq_true (by omega)⟩, decide_eq_true (by omega)⟩, decide_eq_true (by omega)⟩, decide_eq_true (by omega)⟩, decide_eq_true (by omega)⟩
  have ok1 : supOk (crS 1 0 1 H L) = true := by
    simp only [supOk, crS, mostI, Bool.and_eq_true]
    exact ⟨⟨⟨⟨⟨⟨decide_eq_true (by omega), decide_eq_true (by omega)⟩, decide_eq_true (by omega)⟩, decide_eq_true (by omega)⟩, decide_eq_true (by omega)⟩, decide_eq_true (by omega)⟩, decide_eq_true (by omega)⟩
  have HK0 : Hid (∀ u, Calls Tryz.prog 105 #[.agg #[.int .i64 0, .int .i64 0, .int .i64 1, .int .i64 (H : Int), .int .i64 (L : Int)]] u fun r w' => r = .returned (.agg #[.int .i64 0, .string (crB (crS 0 0 1 H L))]) ∧ Below u.heap.size u w') := Lib.hid (fun u => crownOf_is _ ok0 u)
  have HK1 : Hid (∀ u, Calls Tryz.prog 105 #[.agg #[.int .i64 1, .int .i64 0, .int .i64 1, .int .i64 (H : Int), .int .i64 (L : Int)]] u fun r w' => r = .returned (.agg #[.int .i64 1, .string (crB (crS 1 0 1 H L))]) ∧ Below u.heap.size u w') := Lib.hid (fun u => crownOf_is _ ok1 u)
  have HCc : Hid (∀ (g : Nat) (a4 a5 : Option Addr) (k4 k5 : Nat) (u : World), u.cell? ⟨g, 0, none⟩ = some (.slice a4 (3 * pgs H) k4) → u.cell? ⟨g, 1, none⟩ = some (.slice a5 (3 * pgs H + L) k5) → LiesAt u a4 (flat Wr.cells (pagesW 1 (freshX (pgs H)) (3 * pgs H))) → LiesAt u a5 (flat Wr.cells (emptyW 0 (3 * pgs H) ++ zerosW (2 + 6 * pgs H) L)) → Calls Tryz.prog 102 #[.slice (some ⟨g, 0, none⟩) 2 2] u fun r w' => ∃ v, r = .returned v ∧ Below u.heap.size u w' ∧ w'.ownsRow u.heap.size 149 2 v (3 * pgs H + (3 * pgs H + L)) (flat Wr.cells (pagesW 1 (freshX (pgs H)) (3 * pgs H) ++ (emptyW 0 (3 * pgs H) ++ zerosW (2 + 6 * pgs H) L)))) := Lib.hid (fun g a4 a5 k4 k5 u h0 h1 l4 l5 => by
    have m1 : (pagesW 1 (freshX (pgs H)) (3 * pgs H)).length = 3 * pgs H := pagesW_len _ _ _
    have m2 : (emptyW 0 (3 * pgs H) ++ zerosW (2 + 6 * pgs H) L).length = 3 * pgs H + L := by rw [List.length_append, emptyW_len, zerosW_len]
    have := wconcat_is g 2 a4 a5 (pagesW 1 (freshX (pgs H)) (3 * pgs H)) (emptyW 0 (3 * pgs H) ++ zerosW (2 + 6 * pgs H) L) k4 k5 u (by rw [m1]; exact h0) (by rw [m2]; exact h1) l4 l5 (by rw [m1]; omega) (by rw [m2]; omega) (by rw [m1]; omega)
    rw [m1, m2] at this
    exact this)
  have HL2 : Hid (∀ (G' : Nat → Prop) (u : World) (a : Option Addr) (c : Nat), AtK B G' u p D1 → LiesAt u a (flat Wr.cells (pagesW 1 (freshX (pgs H)) (3 * pgs H) ++ (emptyW 0 (3 * pgs H) ++ zerosW (2 + 6 * pgs H) L))) → (∀ b : Addr, a = some b → G' b.block) → Calls Tryz.prog 100 #[.pointer (some ⟨p, 0, none⟩), .slice a (3 * pgs H + (3 * pgs H + L)) c] u fun e w' => ∃ v, e = .returned v ∧ ErrIs w' 0 v ∧ AtK B G' w' p D2 ∧ Below B u w' ∧ KeptG G' u w') := Lib.hid (fun G' u a c hA hl ha => by
    have m : (pagesW 1 (freshX (pgs H)) (3 * pgs H) ++ (emptyW 0 (3 * pgs H) ++ zerosW (2 + 6 * pgs H) L)).length = 3 * pgs H + (3 * pgs H + L) := by rw [List.length_append, List.length_append, pagesW_len, emptyW_len, zerosW_len]
    have := lay_is hA a _ c hl ha (by rw [m]; omega) (by rw [m, hb.2.1]; simp; omega) (by rw [m]; have := hd.2.1; omega) D2 0 e2
    rw [m] at this
    exact this)
  have HL3 : Hid (∀ (G' : Nat → Prop) (u : World) (a : Option Addr) (c : Nat), AtK B G' u p D2 → LiesAt u a [.int .i64 0, .string (crB (crS 0 0 1 H L)), .int .i64 1, .string (crB (crS 1 0 1 H L))] → (∀ b : Addr, a = some b → G' b.block) → Calls Tryz.prog 100 #[.pointer (some ⟨p, 0, none⟩), .slice a 2 c] u fun e w' => ∃ v, e = .returned v ∧ ErrIs w' 0 v ∧ AtK B G' w' p D3 ∧ Below B u w' ∧ KeptG G' u w') := Lib.hid (fun G' u a c hA hl ha =>
    lay_is hA a [crW (crS 0 0 1 H L), crW (crS 1 0 1 H L)] c hl ha (by show 2 ≤ 100000; omega) (by rw [hb.2.2]; show 0 + 2 + 1 < 2 ^ 40; omega) (by have := hd.2.2; show D2.deeds + 2 + 2 < 2 ^ 60; omega) D3 0 e3)
  have E1 := Lib.hid e1
  have E2 := Lib.hid e2
  have E3 := Lib.hid e3
  have HA := Lib.hid h
  have HB := Lib.hid (And.intro hb hd)
  have hL := hg.2.2.2
  have HX : Hid ((freshX (pgs H)) = (List.replicate (pgs H * 16) 0).set 1 16) := Lib.hid (by rw [freshX, Nat.mul_comm])
  clear h e1 e2 e3 hb hd ok0 ok1 hg
  generalize pgs H = P at *
  generalize hX : freshX P = X at *
  clear hX
  have hPm : (P : Int) * 16 = ((P * 16 : Nat) : Int) := by omega
  have hP16 := Lib.hid (show P * 16 = 16 * P from Nat.mul_comm _ _)
  have hPb : P * 16 ≤ 1000 := by omega
  have hPc : 1 < P * 16 := by have := hp1; omega
  rw [← hP16.out] at HPa
  generalize P * 16 = n16 at *
  have hXl : X.length = n16 := by rw [HX.out]; simp
  go_enter Tryz.func89, Tryz.ntmps89
  go_wp2_with (first
    | (go_at_call 101
       refine (HZ.out _).mono ?_
       rintro e' w1 ⟨v1, rfl, b1, o1⟩
       obtain ⟨a1, c1, rfl, l1, q1⟩ := own_formK o1
       have bx := GBox.laid b1
       have H1 := Lib.hid (And.intro (HA.out.more bx.2) (And.intro bx (And.intro l1 (show ∀ b : Addr, a1 = some b → (G b.block ∨ (w.heap.size ≤ b.block ∧ b.block < w1.heap.size)) from fun b hb => by
         rcases q1 with q1 | ⟨g1, q1, q2, q3⟩
         · rw [q1] at hb; cases hb
         · rw [q1] at hb
           obtain rfl := Option.some.inj hb
           exact .inr ⟨by have := q2; simp at this; show w.heap.size ≤ g1; omega, q3⟩))))
       clear b1 o1 l1 q1 bx)
    | (go_at_call 100
       refine (lay_is H1.out.1 a1 (zerosW 0 2) c1 H1.out.2.2.1 H1.out.2.2.2 (by rw [zerosW_len]; omega) (by rw [zerosW_len, HB.out.1.1]; simp) (by rw [zerosW_len]; have := HB.out.2.1; omega) D1 0 E1.out).mono ?_
       rintro e' w2 ⟨v2, rfl, v2e, A2, b2, k2⟩
       obtain rfl := v2e.nil
       have z0 : w2.cell? ⟨w.heap.size, 0, none⟩ = some (.int .i64 (H : Int)) := (k2.cell ⟨w.heap.size, 0, none⟩ (.inr ⟨Nat.le_refl _, H1.out.2.1.1.lt⟩)).trans H1.out.2.1.1.c0
       have z1 : w2.cell? ⟨w.heap.size, 1, none⟩ = some (.int .i64 (L : Int)) := (k2.cell ⟨w.heap.size, 1, none⟩ (.inr ⟨Nat.le_refl _, H1.out.2.1.1.lt⟩)).trans H1.out.2.1.1.c1
       have hs2 : w.heap.size < w2.heap.size := Nat.lt_of_lt_of_le H1.out.2.1.1.lt b2.size
       have H2 := Lib.hid (And.intro (A2.mono (fun k r => Or.inl r)) (And.intro ((H1.out.2.1.2.mono HA.out.le).trans b2) (KeptG.trans (KeptG.below HA.out H1.out.2.1.2) (k2.mono (fun k r => Or.inl r)))))
       clear v2e A2 b2 k2)
    | (go_at_call 98
       refine (HP.out _).mono ?_
       rintro e' w3 ⟨rfl, b3⟩
       have re := ((Row5.made w2 (.int .i64 0) (.int .i64 0) (.int .i64 1) (.int .i64 (H : Int)) (.int .i64 (L : Int)) 113).alloc (.cells #[.int .i64 1, .int .i64 0, .int .i64 1, .int .i64 (H : Int), .int .i64 (L : Int)] 113)).below b3
       have rn := (Row5.made (w2.alloc (.cells #[.int .i64 0, .int .i64 0, .int .i64 1, .int .i64 (H : Int), .int .i64 (L : Int)] 113)) (.int .i64 1) (.int .i64 0) (.int .i64 1) (.int .i64 (H : Int)) (.int .i64 (L : Int)) 113).below b3
       rw [size_alloc] at rn
       have b23 : Below w2.heap.size w2 w3 := (((Below.refl _ _).alloc (Nat.le_refl _) (.cells #[.int .i64 0, .int .i64 0, .int .i64 1, .int .i64 (H : Int), .int .i64 (L : Int)] 113)).alloc (by simp) (.cells #[.int .i64 1, .int .i64 0, .int .i64 1, .int .i64 (H : Int), .int .i64 (L : Int)] 113)).trans (b3.mono (by simp; omega))
       obtain ⟨wm, hmk, bm, om⟩ := st_make_ints w3 n16 (by omega)
       obtain ⟨k1, f1⟩ := owns_cell om (k := 1) (x := .int .i64 0) (by simp [vals, hPc])
       have H3 := Lib.hid (And.intro re (And.intro rn (And.intro b23 (And.intro bm om))))
       clear b3 re rn b23 bm om))
  have hs23 := H3.out.2.2.1.size
  have HM : Hid (Below w2.heap.size w2 (wm.setCell ⟨w3.heap.size, 1, none⟩ (.int .i64 16)) ∧ (wm.setCell ⟨w3.heap.size, 1, none⟩ (.int .i64 16)).ownsRow w3.heap.size 3 1 (.slice (some ⟨w3.heap.size, 0, none⟩) n16 n16) n16 (vals X)) := Lib.hid ⟨(H3.out.2.2.1.trans (H3.out.2.2.2.1.mono hs23)).setCell (p := ⟨w3.heap.size, 1, none⟩) hs23 _, by
    rw [HX.out, vals, List.map_set]
    exact owns_set H3.out.2.2.2.2 1 _⟩
  have HC0 : Hid (∀ k, (k = w2.heap.size ∨ k = w2.heap.size + 1) → (wm.setCell ⟨w3.heap.size, 1, none⟩ (.int .i64 16)).heap[k]? = w3.heap[k]?) := Lib.hid (fun k hk => by
    have h0 := H3.out.1.lt
    have h1 := H3.out.2.1.lt
    have hlt : k < w3.heap.size := by rcases hk with rfl | rfl <;> omega
    have e1 : wm.heap[k]? = w3.heap[k]? := H3.out.2.2.2.1.block k hlt
    have e2 : (wm.setCell ⟨w3.heap.size, 1, none⟩ (.int .i64 16)).heap[k]? = wm.heap[k]? := heap_setCell_other _ _ _ _ (by show k ≠ w3.heap.size; omega)
    exact e2.trans e1)
  have HC1 : Hid (∀ k, (k = w2.heap.size ∨ k = w2.heap.size + 1) → k < w3.heap.size) := Lib.hid (fun k hk => by
    have h0 := H3.out.1.lt
    have h1 := H3.out.2.1.lt
    rcases hk with rfl | rfl <;> omega)
  have HCn : Hid (w3.heap.size ≤ (wm.setCell ⟨w3.heap.size, 1, none⟩ (.int .i64 16)).heap.size) := Lib.hid (by rw [size_setCell']; exact H3.out.2.2.2.1.size)
  clear hmk k1 f1 z0 z1
  generalize wm.setCell ⟨w3.heap.size, 1, none⟩ (.int .i64 16) = wn at *
  have hsn := HM.out.1.size
  have HC : Hid (∀ u, Below wn.heap.size wn u → (u.cell? ⟨w2.heap.size, 0, none⟩ = some (.int .i64 0) ∧ u.cell? ⟨w2.heap.size, 1, none⟩ = some (.int .i64 0) ∧ u.cell? ⟨w2.heap.size, 2, none⟩ = some (.int .i64 1) ∧ u.cell? ⟨w2.heap.size, 3, none⟩ = some (.int .i64 (H : Int)) ∧ u.cell? ⟨w2.heap.size, 4, none⟩ = some (.int .i64 (L : Int)) ∧ u.cell? ⟨w2.heap.size + 1, 0, none⟩ = some (.int .i64 1) ∧ u.cell? ⟨w2.heap.size + 1, 1, none⟩ = some (.int .i64 0) ∧ u.cell? ⟨w2.heap.size + 1, 2, none⟩ = some (.int .i64 1) ∧ u.cell? ⟨w2.heap.size + 1, 3, none⟩ = some (.int .i64 (H : Int)) ∧ u.cell? ⟨w2.heap.size + 1, 4, none⟩ = some (.int .i64 (L : Int)))) := Lib.hid (fun u b => ten_of H3.out.1 H3.out.2.1 u (fun k hk => (b.block k (Nat.lt_of_lt_of_le (HC1.out k hk) HCn.out)).trans (HC0.out k hk)))
  obtain ⟨c0, c1', c2, c3, c4, c5, c6, c7, c8, c9⟩ := HC.out _ (Below.refl _ _)
  generalize w3.heap.size = gx at *
  go_region_held3 (fun u => u.cell? ⟨w2.heap.size, 0, none⟩ = some (.int .i64 0) ∧ u.cell? ⟨w2.heap.size, 1, none⟩ = some (.int .i64 0) ∧ u.cell? ⟨w2.heap.size, 2, none⟩ = some (.int .i64 1) ∧ u.cell? ⟨w2.heap.size, 3, none⟩ = some (.int .i64 (H : Int)) ∧ u.cell? ⟨w2.heap.size, 4, none⟩ = some (.int .i64 (L : Int)) ∧ u.cell? ⟨w2.heap.size + 1, 0, none⟩ = some (.int .i64 1) ∧ u.cell? ⟨w2.heap.size + 1, 1, none⟩ = some (.int .i64 0) ∧ u.cell? ⟨w2.heap.size + 1, 2, none⟩ = some (.int .i64 1) ∧ u.cell? ⟨w2.heap.size + 1, 3, none⟩ = some (.int .i64 (H : Int)) ∧ u.cell? ⟨w2.heap.size + 1, 4, none⟩ = some (.int .i64 (L : Int))) (first
      | assumption
      | exact HC.out _ (Below.refl _ _)
      | exact HC.out _ (Below.refl _ _).drew
      | exact HC.out _ H4.out.1
      | exact HC.out _ H5.out.1
      | exact HC.out _ (H5.out.1.alloc H5.out.1.size _)
      | exact HC.out _ H6.out.1
      | exact HC8.out _ (Below.refl _ _)) (first
    | (go_at_call 103
       refine (HPa.out gx n16 _ (Nat.le_refl _) (own_cells (HM.out.2) (by first | exact Below.refl _ _ | exact (Below.refl _ _).drew))).mono ?_
       rintro e' w4 ⟨v4, rfl, b4, o4⟩
       obtain ⟨a4, k4, rfl, l4, _⟩ := own_formK o4
       have H4 := Lib.hid (And.intro ((by first | exact Below.refl _ _ | exact (Below.refl _ _).drew : Below wn.heap.size wn _).trans (b4.mono (by first | exact Nat.le_refl _ | simp))) l4)
       clear b4 o4 l4)
    | (go_at_call 104
       refine (HEm.out _).mono ?_
       rintro e' w5 ⟨v5, rfl, b5, o5⟩
       obtain ⟨a5, k5, rfl, l5, _⟩ := own_formK o5
       have H5 := Lib.hid (And.intro (H4.out.1.trans ((by first | exact b5 | exact (Below.refl _ _).drew.trans b5 : Below w4.heap.size w4 w5).mono H4.out.1.size)) (And.intro (H4.out.2.below (by first | exact b5 | exact (Below.refl _ _).drew.trans b5)) l5))
       clear b5 o5 l5)
    | (go_at_call 102
       refine (HCc.out w5.heap.size a4 a5 k4 k5 _ (by simp) (by simp) (H5.out.2.1.below ((Below.refl _ _).alloc (Nat.le_refl _) _)) (H5.out.2.2.below ((Below.refl _ _).alloc (Nat.le_refl _) _))).mono ?_
       rintro e' w6 ⟨v6, rfl, b6, o6⟩
       obtain ⟨a6, k6, rfl, l6, q6⟩ := own_formK o6
       have b56 : Below wn.heap.size wn w6 := (H5.out.1.alloc H5.out.1.size _).trans (b6.mono (by have := H5.out.1.size; simp; omega))
       have H6 := Lib.hid (And.intro b56 (And.intro l6 (show ∀ b : Addr, a6 = some b → (G b.block ∨ (w2.heap.size ≤ b.block ∧ b.block < w6.heap.size)) from fun b hb => by
         rcases q6 with q | ⟨g, q, q2, q3⟩
         · rw [q] at hb; cases hb
         · rw [q] at hb
           obtain rfl := Option.some.inj hb
           exact .inr ⟨by have := H5.out.1.size; have := HM.out.1.size; simp at q2; show w2.heap.size ≤ g; omega, q3⟩)))
       clear b6 o6 l6 q6 b56)
    | (go_at_call 100
       refine (HL2.out _ _ a6 k6 (H2.out.1.more (HM.out.1.trans (H6.out.1.mono hsn))) H6.out.2.1 H6.out.2.2).mono ?_
       rintro e' w8 ⟨v8, rfl, v8e, A8, b8, kk8⟩
       obtain rfl := v8e.nil
       have hin : ∀ k, (k = w2.heap.size ∨ k = w2.heap.size + 1) → w2.heap.size ≤ k ∧ k < w6.heap.size := fun k hk => ⟨by rcases hk with rfl | rfl <;> omega, Nat.lt_of_lt_of_le (HC1.out k hk) (Nat.le_trans HCn.out H6.out.1.size)⟩
       have HE8 : Hid (∀ k, (k = w2.heap.size ∨ k = w2.heap.size + 1) → k < w8.heap.size ∧ w8.heap[k]? = w3.heap[k]?) := Lib.hid (fun k hk => ⟨Nat.lt_of_lt_of_le (hin k hk).2 b8.size, (kk8 k (.inr (hin k hk))).trans ((H6.out.1.block k (Nat.lt_of_lt_of_le (HC1.out k hk) HCn.out)).trans (HC0.out k hk))⟩)
       have HC8 : Hid (∀ u, Below w8.heap.size w8 u → (u.cell? ⟨w2.heap.size, 0, none⟩ = some (.int .i64 0) ∧ u.cell? ⟨w2.heap.size, 1, none⟩ = some (.int .i64 0) ∧ u.cell? ⟨w2.heap.size, 2, none⟩ = some (.int .i64 1) ∧ u.cell? ⟨w2.heap.size, 3, none⟩ = some (.int .i64 (H : Int)) ∧ u.cell? ⟨w2.heap.size, 4, none⟩ = some (.int .i64 (L : Int)) ∧ u.cell? ⟨w2.heap.size + 1, 0, none⟩ = some (.int .i64 1) ∧ u.cell? ⟨w2.heap.size + 1, 1, none⟩ = some (.int .i64 0) ∧ u.cell? ⟨w2.heap.size + 1, 2, none⟩ = some (.int .i64 1) ∧ u.cell? ⟨w2.heap.size + 1, 3, none⟩ = some (.int .i64 (H : Int)) ∧ u.cell? ⟨w2.heap.size + 1, 4, none⟩ = some (.int .i64 (L : Int)))) := Lib.hid (fun u b => ten_of H3.out.1 H3.out.2.1 u (fun k hk => (b.block k (HE8.out k hk).1).trans (HE8.out k hk).2))
       have H8 := Lib.hid (And.intro (A8.mono (G' := fun k => G k ∨ (k = w2.heap.size ∨ k = w2.heap.size + 1)) (fun k r => r.imp id (hin k))) (And.intro (((HM.out.1.trans (H6.out.1.mono hsn)).mono H2.out.1.le).trans b8) (KeptG.trans (KeptG.below H2.out.1 (HM.out.1.trans (H6.out.1.mono hsn))) (kk8.mono (fun k r => Or.inl r)))))
       clear v8e A8 b8 kk8))
  clear c0 c1' c2 c3 c4 c5 c6 c7 c8 c9
  obtain ⟨c0, c1', c2, c3, c4, c5, c6, c7, c8, c9⟩ := HC8.out _ (Below.refl _ _)
  generalize hw8 : crB (crS 0 0 1 H L) = B0 at *
  generalize crB (crS 1 0 1 H L) = B1 at *
  clear hw8
  go_wp2
  go_region_held3 (fun u => u.cell? ⟨w2.heap.size, 0, none⟩ = some (.int .i64 0) ∧ u.cell? ⟨w2.heap.size, 1, none⟩ = some (.int .i64 0) ∧ u.cell? ⟨w2.heap.size, 2, none⟩ = some (.int .i64 1) ∧ u.cell? ⟨w2.heap.size, 3, none⟩ = some (.int .i64 (H : Int)) ∧ u.cell? ⟨w2.heap.size, 4, none⟩ = some (.int .i64 (L : Int)) ∧ u.cell? ⟨w2.heap.size + 1, 0, none⟩ = some (.int .i64 1) ∧ u.cell? ⟨w2.heap.size + 1, 1, none⟩ = some (.int .i64 0) ∧ u.cell? ⟨w2.heap.size + 1, 2, none⟩ = some (.int .i64 1) ∧ u.cell? ⟨w2.heap.size + 1, 3, none⟩ = some (.int .i64 (H : Int)) ∧ u.cell? ⟨w2.heap.size + 1, 4, none⟩ = some (.int .i64 (L : Int))) (first
      | assumption
      | exact HC8.out _ (Below.refl _ _)
      | exact HC8.out _ (Below.refl _ _).drew
      | exact HC8.out _ b9
      | exact HC8.out _ b10
      | exact HC8.out _ (b10.alloc b10.size _)
      | exact HC11.out _ (Below.refl _ _)
      | exact HC11.out _ H12.out.1) (first
    | (go_at_call 105
       with_reducible refine (HK0.out _).mono ?_
       rintro e' w9 ⟨rfl, b9⟩
       replace b9 : Below w8.heap.size w8 w9 := (by first | exact Below.refl _ _ | exact (Below.refl _ _).drew : Below w8.heap.size w8 _).trans (b9.mono (by first | exact Nat.le_refl _ | simp)))
    | (go_at_call 105
       with_reducible refine (HK1.out _).mono ?_
       rintro e' w10 ⟨rfl, b10⟩
       replace b10 : Below w8.heap.size w8 w10 := (by first | exact b9 | exact b9.drew : Below w8.heap.size w8 _).trans (b10.mono (by first | exact b9.size | exact b9.drew.size)))
    | (go_at_call 100
       have b10a : Below w8.heap.size w8 (w10.alloc (.cells #[.int .i64 0, .string B0, .int .i64 1, .string B1] 149)) := b10.alloc b10.size _
       refine (HL3.out _ _ (some ⟨w10.heap.size, 0, none⟩) 2 (H8.out.1.more b10a) (fun n v hv => ⟨_, rfl, by simp, World.news_of_block (heap_alloc_last _ _) n v hv⟩) (fun b hb => by
         obtain rfl := Option.some.inj hb
         exact .inr ⟨b10.size, by simp⟩)).mono ?_
       rintro e' w11 ⟨v11, rfl, v11e, A11, b11, k11⟩
       obtain rfl := v11e.nil
       have HC11 : Hid (∀ u, Below w11.heap.size w11 u → (u.cell? ⟨w2.heap.size, 0, none⟩ = some (.int .i64 0) ∧ u.cell? ⟨w2.heap.size, 1, none⟩ = some (.int .i64 0) ∧ u.cell? ⟨w2.heap.size, 2, none⟩ = some (.int .i64 1) ∧ u.cell? ⟨w2.heap.size, 3, none⟩ = some (.int .i64 (H : Int)) ∧ u.cell? ⟨w2.heap.size, 4, none⟩ = some (.int .i64 (L : Int)) ∧ u.cell? ⟨w2.heap.size + 1, 0, none⟩ = some (.int .i64 1) ∧ u.cell? ⟨w2.heap.size + 1, 1, none⟩ = some (.int .i64 0) ∧ u.cell? ⟨w2.heap.size + 1, 2, none⟩ = some (.int .i64 1) ∧ u.cell? ⟨w2.heap.size + 1, 3, none⟩ = some (.int .i64 (H : Int)) ∧ u.cell? ⟨w2.heap.size + 1, 4, none⟩ = some (.int .i64 (L : Int)))) := Lib.hid (fun u b => ten_of H3.out.1 H3.out.2.1 u (fun k hk => by
         have h8 := HE8.out k hk
         exact (b.block k (Nat.lt_of_lt_of_le h8.1 (Nat.le_trans b10a.size b11.size))).trans ((k11 k (.inl (.inr hk))).trans ((b10a.block k h8.1).trans h8.2))))
       have H11 := Lib.hid (And.intro (A11.mono (G' := G) (fun k r => Or.inl (Or.inl r))) (And.intro ((b10a.mono H8.out.1.le).trans b11) (KeptG.trans ((KeptG.below H8.out.1 b10a).mono (fun k r => Or.inl r)) (k11.mono (fun k r => Or.inl (Or.inl r))))))
       clear v11e A11 b11 k11)
    | (go_at_call 64
       refine (in_err 0 .nilIface _ _ (errNil _)).mono ?_
       rintro e' w12 ⟨v12, rfl, b12, v12e⟩
       obtain rfl := v12e.nil
       have H12 := Lib.hid (And.intro b12 b12)
       clear b12 v12e))
  go_wp2
  go_ret
  exact ⟨rfl, H11.out.1.below H12.out.1, (H2.out.2.1.trans H8.out.2.1).trans (H11.out.2.1.trans (H12.out.1.mono H11.out.1.le)), KeptG.trans (KeptG.trans H2.out.2.2 H8.out.2.2) (KeptG.trans H11.out.2.2 (KeptG.below H11.out.1 H12.out.1))⟩
end Go.Proofs.YtbghglkplbnnkaaGreatDoor
-- StoreFresh
namespace Go.Proofs.YtbghglkplbnnkaaGreatDoor
open Go.RowKit Sec
open Go.Proofs.YtbghglkplbnnkaaGreatDoor.Bk

theorem freshC_len (H : Nat) : (freshC H).length = 16 + 2 * H := by simp [freshC]
theorem freshC_fine (H : Nat) : FineC (freshC H) := fun c hc => by
  rcases List.mem_or_eq_of_mem_set hc with q | rfl
  · have := (List.mem_replicate.1 q).2
    omega
  · omega
theorem logIs_zero (D : Dsk) (fr n hd : Nat) (ep : Int) (hon : D.on = true) (n1 : 1 ≤ n) (hl : fr + n ≤ D.now.length) (hz : ∀ k, k < n → D.now[fr + k]? = some zero32) : LogIs D fr n hd hd ep [] :=
  ⟨hon, n1, hl, Nat.le_refl _, by omega, ⟨[], rfl, fun i e q => by simp at q, fun rest => rfl⟩, fun k b hk hb hi => by
    rw [hz k hk] at hb
    obtain rfl := Option.some.inj hb
    rw [zero_no] at hi
    cases hi⟩
theorem zerosW_at {a n : Nat} {s : List ByteArray} (hn : a + n ≤ s.length) (k : Nat) (hk : k < n) : (setAll s ((zerosW a n).map Wr.put))[a + k]? = some zero32 := by
  have hg : ((zerosW a n).map Wr.put)[k]? = some (a + k, zero32) := by
    simp [zerosW, hk, Wr.put]
    omega
  have := setAll_at _ s k _ hg (by show a + k < _; omega) (fun i y hi hy => by
    simp only [zerosW, List.map_map, List.getElem?_map] at hy
    obtain ⟨j, hj', rfl⟩ := Option.map_eq_some_iff.1 hy
    obtain ⟨_, hjj⟩ := List.getElem?_eq_some_iff.1 hj'
    simp only [List.getElem_range] at hjj
    subst hjj
    show ((a + i : Nat) : Int).toNat ≠ a + k
    omega)
  exact this
theorem zerosW_off {a n k : Nat} {s : List ByteArray} (hk : k < a ∨ a + n ≤ k) : (setAll s ((zerosW a n).map Wr.put))[k]? = s[k]? :=
  setAll_off _ _ _ (fun x hx => by
    obtain ⟨y, hy, rfl⟩ := List.mem_map.1 hx
    obtain ⟨j, hj, rfl⟩ := List.mem_map.1 hy
    have hj := List.mem_range.1 hj
    show ((a + j : Nat) : Int).toNat ≠ k
    omega)
theorem emptyW_off {sl m k : Nat} {s : List ByteArray} (hk : ∀ j, j < m → 2 + 6 * (j / 3) + 3 * sl + j % 3 ≠ k) : (setAll s ((emptyW sl m).map Wr.put))[k]? = s[k]? :=
  setAll_off _ _ _ (fun x hx => by
    obtain ⟨y, hy, rfl⟩ := List.mem_map.1 hx
    obtain ⟨j, hj, rfl⟩ := List.mem_map.1 hy
    have hj := List.mem_range.1 hj
    have := hk j hj
    show ((2 + 6 * (j / 3) + 3 * sl + j % 3 : Nat) : Int).toNat ≠ k
    omega)
theorem on_fresh {D : Dsk} {K H L : Nat} (hs : Still D K) (hlit : D.lit = false) (hg : 8 ≤ H ∧ H ≤ 400 ∧ 4 ≤ L ∧ L ≤ 300) (hm : 2 + 6 * pgs H + L ≤ D.now.length) :
    ∃ D1 D2 D3, layR D (zerosW 0 2) = (D1, 0) ∧ layR D1 (pagesW 1 (freshX (pgs H)) (3 * pgs H) ++ (emptyW 0 (3 * pgs H) ++ zerosW (2 + 6 * pgs H) L)) = (D2, 0) ∧ layR D2 [crW (crS 0 0 1 H L), crW (crS 1 0 1 H L)] = (D3, 0) ∧
      (D.waits = [] ∧ D1.waits = [] ∧ D2.waits = []) ∧ (D1.deeds ≤ K + 1000 ∧ D2.deeds ≤ K + 3000) ∧ On D3 H L 1 0 0 1 (K + 5000) (freshC H) ∧ D3.lit = false ∧ D3.now.length = D.now.length := by
  obtain ⟨g1, g2, g3, g4⟩ := hg
  obtain ⟨p1, p2⟩ := pgs_le g2
  obtain ⟨D1, a1, a2, a3, a4⟩ := layR_calm hs hlit (zerosW_fits (a := 0) (k := 2) (by omega : 0 + 2 ≤ D.now.length))
  have l1 : D1.now.length = D.now.length := by rw [a4, setAll_len]
  have hfit2 : ∀ x ∈ pagesW 1 (freshX (pgs H)) (3 * pgs H) ++ (emptyW 0 (3 * pgs H) ++ zerosW (2 + 6 * pgs H) L), x.fits D1.now.length := fun x hx => by
    rcases List.mem_append.1 hx with r | r
    · exact pagesW_fits (freshX_fine _) (P := pgs H) (by omega) (by omega) (by omega) x r
    · rcases List.mem_append.1 r with r | r
      · exact emptyW_fits (P := pgs H) (by omega) (by omega) x r
      · exact zerosW_fits (by omega) x r
  obtain ⟨D2, b1, b2, b3, b4⟩ := layR_calm a2 a3 hfit2
  have l2 : D2.now.length = D.now.length := by rw [b4, setAll_len, l1]
  have hfit3 : ∀ x ∈ [crW (crS 0 0 1 H L), crW (crS 1 0 1 H L)], x.fits D2.now.length := fun x hx => by
    have : x = crW (crS 0 0 1 H L) ∨ x = crW (crS 1 0 1 H L) := by simpa using hx
    rcases this with rfl | rfl
    · exact ⟨Int.natCast_nonneg _, by show ((0 % 2 : Nat) : Int) < _; omega, crB_size _⟩
    · exact ⟨Int.natCast_nonneg _, by show ((1 % 2 : Nat) : Int) < _; omega, crB_size _⟩
  obtain ⟨D3, c1, c2, c3, c4⟩ := layR_calm b2 b3 hfit3
  have l3 : D3.now.length = D.now.length := by rw [c4, setAll_len, l2]
  have e3 : D3.now = (D2.now.set 0 (crB (crS 0 0 1 H L))).set 1 (crB (crS 1 0 1 H L)) := by rw [c4]; rfl
  rw [List.map_append, setAll_app, List.map_append, setAll_app] at b4
  have d1 := a2.deeds
  have d2 := b2.deeds
  have d3 := c2.deeds
  simp only [List.length_append, pagesW_len, emptyW_len, zerosW_len, List.length_cons, List.length_nil] at d1 d2 d3
  have ok0 : supOk (crS 0 0 1 H L) = true := by
    simp only [supOk, crS, mostI, Bool.and_eq_true]
    exact ⟨⟨⟨⟨⟨⟨decide_eq_true (by omega), decide_eq_true (by omega)⟩, decide_eq_true (by omega)⟩, decide_eq_true (by omega)⟩, decide_eq_true (by omega)⟩, decide_eq_true (by omega)⟩, decide_eq_true (by omega)⟩
  have ok1 : supOk (crS 1 0 1 H L) = true := by
    simp only [supOk, crS, mostI, Bool.and_eq_true]
    exact ⟨⟨⟨⟨⟨⟨decide_eq_true (by omega), decide_eq_true (by omega)⟩, decide_eq_true (by omega)⟩, decide_eq_true (by omega)⟩, decide_eq_true (by omega)⟩, decide_eq_true (by omega)⟩, decide_eq_true (by omega)⟩
  have off : ∀ k, 2 ≤ k → D3.now[k]? = D2.now[k]? := fun k hk => by rw [e3, List.getElem?_set_ne (by omega), List.getElem?_set_ne (by omega)]
  refine ⟨D1, D2, D3, a1, b1, c1, ⟨hs.waits, a2.waits, b2.waits⟩, ⟨by omega, by omega⟩, ⟨⟨c2.on, c2.waits, c2.same, by omega⟩, ⟨g1, g2, g3, g4⟩, ⟨freshC H, [], ⟨by rw [l3]; exact hm, ?_, ok1, Nat.le_refl _, ⟨0, 1, ?_, ok0⟩, ?_, freshC_len H, freshC_fine H, rfl⟩, ?_, rfl, fun x hx => by simp at hx⟩⟩, c3, l3⟩
  · show D3.now[1]? = _
    rw [e3, List.getElem?_set_self (by rw [List.length_set, l2]; omega)]
  · show D3.now[0]? = _
    rw [e3, List.getElem?_set_ne (by omega), List.getElem?_set_self (by rw [l2]; omega)]
  · have hp : PagesAt (setAll D1.now ((pagesW 1 (freshX (pgs H)) (3 * pgs H)).map Wr.put)) 1 (freshX (pgs H)) (pgs H) := pagesW_at (freshX_fine _) (by omega) (by omega) (by rw [l1]; omega)
    intro no hno k hk
    rw [off _ (by omega), b4, zerosW_off (.inl (by omega)), emptyW_off (fun j hj => by omega), hp no hno k hk, fresh_join H g2, pg_join (by rw [freshC_len]; exact p2)]
  · refine logIs_zero _ _ _ _ _ c2.on (by omega) (by rw [l3]; omega) (fun k hk => ?_)
    rw [off _ (by omega), b4, zerosW_at (by rw [setAll_len, setAll_len, l1]; omega) k hk]
section
variable {B : Nat} {G : Nat → Prop} {w : World} {p : Nat} {D : Dsk}
set_option maxRecDepth 100000 in
set_option maxHeartbeats 1000000 in
theorem Format_ok (h : AtK B G w p D) {K H L : Nat} (hs : Still D K) (hK : K < 2 ^ 40) (hlit : D.lit = false) (hg : 8 ≤ H ∧ H ≤ 400 ∧ 4 ≤ L ∧ L ≤ 300) (hm : 2 + 6 * pgs H + L ≤ D.now.length) :
    Calls Tryz.prog 62 #[.pointer (some ⟨p, 0, none⟩), .agg #[.int .i64 (H : Int), .int .i64 (L : Int)]] w fun e w' => e = .returned (.int .i64 0) ∧ ∃ D', AtK B G w' p D' ∧ Below B w w' ∧ KeptG G w w' ∧ On D' H L 1 0 0 1 (K + 5000) (freshC H) ∧ D'.lit = false ∧ D'.now.length = D.now.length := by
  obtain ⟨D1, D2, D3, e1, e2, e3, hb, hd, hon, hl3, hlen⟩ := on_fresh hs hlit hg hm
  have hll : D.lasts.length = D.now.length := by rw [hs.same]
  have hll2 : ((2 + 6 * pgs H + L : Nat) : Int) ≤ (D.lasts.length : Int) := by omega
  have hdd := hs.deeds
  have HF : Hid (∀ u, AtK B G u p D → Calls Tryz.prog 89 #[.pointer (some ⟨p, 0, none⟩), .agg #[.int .i64 (H : Int), .int .i64 (L : Int)]] u fun r w' => r = .returned .nilIface ∧ AtK B G w' p D3 ∧ Below B u w' ∧ KeptG G u w') := Lib.hid (fun u hu => format_is hu H L hg hb ⟨by omega, by omega, by omega⟩ e1 e2 e3)
  have HR : Hid (∀ u, Calls Tryz.prog 86 #[.agg #[.int .i64 (H : Int), .int .i64 (L : Int)]] u fun r w' => r = .returned (.bool true) ∧ Below u.heap.size u w') := Lib.hid (fun u => (gright_is H L u).mono fun r w' ⟨h1, h2⟩ => ⟨by rw [h1, ge_ok hg], h2⟩)
  have HS : Hid (∀ u, Calls Tryz.prog 61 #[.agg #[.int .i64 (H : Int), .int .i64 (L : Int)]] u fun r w' => r = .returned (.int .i64 ((2 + 6 * pgs H + L : Nat) : Int)) ∧ Below u.heap.size u w') := Lib.hid (fun u => (gsectors_is H L u).mono fun r w' ⟨h1, h2⟩ => ⟨by rw [h1, ge_sectors hg], h2⟩)
  have HA := Lib.hid h
  have HZ := Lib.hid (And.intro hon (And.intro hl3 hlen))
  have HL : Hid (∀ u, AtK B G u p D → Calls Tryz.prog 88 #[.pointer (some ⟨p, 0, none⟩)] u fun e w' => e = .returned (.int .i64 (D.lasts.length : Int)) ∧ w' = u) := Lib.hid (fun u hu => Len_k hu)
  have hlt : ¬ ((D.lasts.length : Int) < ((2 + 6 * pgs H + L : Nat) : Int)) := by omega
  clear h hs hon hl3 hlen hdd hd hb e1 e2 e3 hll hll2 hm hlit
  generalize (D.lasts.length : Int) = m at *
  generalize ((2 + 6 * pgs H + L : Nat) : Int) = n at *
  have HBX := Lib.hid (GBox.made w H L 23)
  go_enter Tryz.func62, Tryz.ntmps62
  go_wp2_with (first
    | (go_at_call 86
       refine (HR.out _).mono ?_
       rintro e' w1 ⟨rfl, b1⟩
       have H1 := Lib.hid (GBox.laid b1)
       have c0 := H1.out.1.c0
       have c1 := H1.out.1.c1
       clear b1))
  have HC : Hid (∀ u, Below w1.heap.size w1 u → (u.cell? ⟨w.heap.size, 0, none⟩ = some (.int .i64 (H : Int)) ∧ u.cell? ⟨w.heap.size, 1, none⟩ = some (.int .i64 (L : Int)))) := Lib.hid (fun u b => ⟨(b.cell (p := ⟨w.heap.size, 0, none⟩) H1.out.1.lt).trans H1.out.1.c0, (b.cell (p := ⟨w.heap.size, 1, none⟩) H1.out.1.lt).trans H1.out.1.c1⟩)
  go_region_held3 (fun u => u.cell? ⟨w.heap.size, 0, none⟩ = some (.int .i64 (H : Int)) ∧ u.cell? ⟨w.heap.size, 1, none⟩ = some (.int .i64 (L : Int))) (first
      | assumption
      | exact HC.out _ (Below.refl _ _)
      | exact HC.out _ (Below.refl _ _).drew
      | exact HC.out _ b2) (first
    | (go_at_call 88
       refine (HL.out _ (HA.out.below (by first | exact H1.out.2 | exact H1.out.2.drew))).mono ?_
       rintro e' w' ⟨rfl, rfl⟩)
    | (go_at_call 61
       refine (HS.out _).mono ?_
       rintro e' w2 ⟨rfl, b2⟩
       replace b2 : Below w1.heap.size w1 w2 := (by first | exact Below.refl _ _ | exact (Below.refl _ _).drew : Below w1.heap.size w1 _).trans (b2.mono (by first | exact Nat.le_refl _ | simp))
       have H2 := Lib.hid b2))
  all_goals
    obtain ⟨c0', c1'⟩ := HC.out _ H2.out
    have H02 := Lib.hid (H1.out.2.trans (H2.out.mono H1.out.2.size))
    go_wp2_with (first
      | (go_at_call 89
         refine (HF.out _ (HA.out.below H02.out)).mono ?_
         rintro e' w3 ⟨rfl, A3, b3, k3⟩
         have H3 := Lib.hid (And.intro A3 (And.intro b3 k3))
         clear A3 b3 k3)
      | (go_at_call 34
         refine (errno_err 0 .nilIface _ (errNil _) H3.out.1.1.1).mono ?_
         rintro e' w4 ⟨rfl, b4⟩
         have H4 := Lib.hid b4
         clear b4))
    go_ret
    exact ⟨rfl, D3, H3.out.1.below H4.out, (H02.out.mono HA.out.le).trans (H3.out.2.1.trans (H4.out.mono H3.out.1.le)), KeptG.trans (KeptG.below HA.out H02.out) (KeptG.trans H3.out.2.2 (KeptG.below H3.out.1 H4.out)), HZ.out⟩
end
end Go.Proofs.YtbghglkplbnnkaaGreatDoor
