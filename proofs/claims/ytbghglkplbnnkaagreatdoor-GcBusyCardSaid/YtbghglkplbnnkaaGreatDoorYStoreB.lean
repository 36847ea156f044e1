import Derived.Test.YtbghglkplbnnkaaGreatDoorYStoreA
import Derived.Test.YtbghglkplbnnkaaGreatDoorYCrown
set_option linter.unusedVariables false
set_option linter.unusedSimpArgs false
-- StoreConcat
namespace Go.Proofs.YtbghglkplbnnkaaGreatDoor
open Go.RowKit Sec
open Go.Proofs.YtbghglkplbnnkaaGreatDoor.Bk

theorem run_append_zeros {P : Program} (w : World) (t u ty e : TypeId) (i : TypeInfo) (z : Value) (k : IntKind) (ht : P.underlying t = some (.slice e)) (hu : P.underlying u = some (.int k)) (hi : P.info? e = some i) (hz : i.zero = some z)
    (n : Nat) (h0 : 0 < n) (h40 : n ≤ 1000000) (hb : i.bytes ≤ 1000) (hs : 0 < i.size) :
    (Builtin.append_ #[t, u] ty #[.slice none 0 0, .int .i64 (n : Int)]).run P w =
      .ok (.slice (some ⟨w.heap.size, 0, none⟩) n (grownCap w n 0 e)) (w.drew.alloc (.cells (Builtin.zeroCells z.cells n ++ Builtin.zeroCells z.cells (grownCap w n 0 e - n)) e)) := by
  have hn : n ≠ 0 := by omega
  have hm : n * i.bytes ≤ 1000000 * 1000 := Nat.mul_le_mul h40 hb
  have h63' : ¬ (9223372036854775807 < (n : Int)) := by omega
  have h48' : ¬ (281474976710656 < Builtin.nextslicecap n 0 * i.bytes) := by rw [nextslicecap_zero h0]; omega
  have h48i : ¬ (281474976710656 < (n : Int) * (i.bytes : Int)) := by
    have : ((n * i.bytes : Nat) : Int) = (n : Int) * (i.bytes : Int) := by simp
    omega
  have hw : IntKind.i64.wrap (n : Int) = (n : Int) := by rw [IntKind.wrap_i64]; omega
  have hsz : ¬ i.size = 0 := by omega
  have hn0 : ¬ (n : Int) < 0 := by omega
  have hns : ¬ n * i.size = 0 := Nat.ne_of_gt (Nat.mul_pos h0 hs)
  simp [Builtin.append_, run_underlying ht, run_underlying hu, sizeOf, typeInfo, zeroValue, hi, hz, Builtin.lenOf, hn, h63', h48', h48i, hw, hn0, hns, hsz, Question.forced, run_firstCells_none, newRow, grownCap, asInt, asIntOf]

set_option maxRecDepth 100000 in
set_option maxHeartbeats 1000000 in
theorem wgrow_is (n : Nat) (h0 : 0 < n) (hn : n ≤ 100000) (w : World) :
    Calls Tryz.prog 120 #[.slice none 0 0, .int .i64 (n : Int)] w fun e w' => ∃ v, e = .returned v ∧ Below w.heap.size w w' ∧ w'.ownsRow w.heap.size 149 2 v 0 [] := by
  obtain ⟨i0, hi, hz0, hz1, hz2⟩ := info_parts wrInfo
  have hr := fun u => run_append_zeros (P := Tryz.prog) u 145 3 145 149 i0 _ .i64 Tryz.underlying145 Tryz.underlying3 hi hz0 n h0 (by omega) (by omega) (by omega)
  have hni : ¬ ((n : Int) < 0) := by omega
  have hn0 : (0 : Int) < (n : Int) := by omega
  have hr2 := hr w
  have HC : Hid (n ≤ grownCap w n 0 149 ∧ grownCap w n 0 149 ≤ maxLen) := Lib.hid ⟨grownCap_ge _ _ _ _, grownCap_le_maxLen _ _ _ _ (by unfold maxLen; omega)⟩
  generalize grownCap w n 0 149 = cap at *
  clear hr
  have hR := Lib.hid hr2
  clear hr2
  go_enter Tryz.func120, Tryz.ntmps120
  go_wp2_with (refine Bk.wpList_append_run rfl _ _ _ _ rfl _ _ _ rfl rfl hR.out ?_)
  go_ret
  refine ⟨_, rfl, (Below.refl _ _).drew.alloc (Nat.le_refl _) _, by simp, .inr ⟨w.heap.size, cap, _, rfl, Nat.le_refl _, heap_alloc_last _ _, Nat.zero_le _, HC.out.2, ?_, by simp⟩⟩
  have := HC.out.1
  simp [Builtin.zeroCells, Value.cells]
  omega
set_option maxRecDepth 100000 in
set_option maxHeartbeats 2000000 in
theorem wconcat_is (g c : Nat) (a1 a2 : Option Addr) (l1 l2 : List Wr) (c1 c2 : Nat) (w : World) (h0 : w.cell? ⟨g, 0, none⟩ = some (.slice a1 l1.length c1)) (h1 : w.cell? ⟨g, 1, none⟩ = some (.slice a2 l2.length c2))
    (hl1 : LiesAt w a1 (flat Wr.cells l1)) (hl2 : LiesAt w a2 (flat Wr.cells l2)) (n1 : l1.length ≤ 10000) (n2 : l2.length ≤ 10000) (hp : 0 < l1.length) :
    Calls Tryz.prog 102 #[.slice (some ⟨g, 0, none⟩) 2 c] w fun e w' => ∃ v, e = .returned v ∧ Below w.heap.size w w' ∧ w'.ownsRow w.heap.size 149 2 v (l1.length + l2.length) (flat Wr.cells (l1 ++ l2)) := by
  obtain ⟨i0, hi, hz0, hz1, hz2⟩ := info_parts wrInfo
  have HI := Lib.hid (And.intro hi (And.intro hz0 (And.intro hz1 hz2)))
  clear hi hz0 hz1 hz2
  have H := Lib.hid (And.intro hl1 hl2)
  have HH := Lib.hid (And.intro h0 h1)
  have HF := Lib.hid (show flat Wr.cells (l1 ++ l2) = flat Wr.cells l1 ++ flat Wr.cells l2 from flat_app _ _)
  have hg := cell_lt h0
  have HN1 := Lib.hid (flat_len Wr.len l1)
  have HN2 := Lib.hid (flat_len Wr.len l2)
  clear hl1 hl2
  generalize flat Wr.cells (l1 ++ l2) = X at *
  have HA1 : Hid (∀ u ∈ flat Wr.cells l1, u.oneCell' = true) := Lib.hid (flat_all Wr.one l1)
  have HA2 : Hid (∀ u ∈ flat Wr.cells l2, u.oneCell' = true) := Lib.hid (flat_all Wr.one l2)
  generalize flat Wr.cells l1 = X1 at *
  generalize flat Wr.cells l2 = X2 at *
  generalize l1.length = m1 at *
  generalize l2.length = m2 at *
  have i1 : (m1 : Int) ≤ 10000 := by omega
  have i2 : (m2 : Int) ≤ 10000 := by omega
  go_enter Tryz.func102, Tryz.ntmps102
  go_wp2
  go_loopw [3, 11] (fun s i wr => w = wr ∧ ((i = .int .i64 0 ∧ s = .int .i64 0) ∨ (i = .int .i64 1 ∧ s = .int .i64 (m1 : Int)) ∨ (i = .int .i64 2 ∧ s = .int .i64 ((m1 : Int) + (m2 : Int))))) (fun _ i _ => 2 - (intOf i).toNat)
  case atStart => exact ⟨rfl, .inl ⟨rfl, rfl⟩⟩
  case round =>
    obtain ⟨rfl, hc⟩ := hrel
    rcases hc with ⟨rfl, rfl⟩ | ⟨rfl, rfl⟩ | ⟨rfl, rfl⟩
    · go_wp2
      refine ⟨⟨trivial, .inr (.inl ⟨rfl, ?_⟩)⟩, by decide⟩
      go_num
    · have i3 : ¬ (m1 : Int) + (m2 : Int) < 0 := by omega
      go_wp2
      refine ⟨⟨trivial, .inr (.inr ⟨rfl, ?_⟩)⟩, by decide⟩
      go_num
    · have HG := Lib.hid (wgrow_is (m1 + m2) (by omega) (by omega) w)
      have hs : (m1 : Int) + (m2 : Int) = ((m1 + m2 : Nat) : Int) := by omega
      rw [hs] at *
      go_wp2_with (go_at_call 120
                   refine HG.out.mono ?_
                   rintro e w1 ⟨v1, rfl, b1, o1⟩
                   have H1 := Lib.hid (And.intro b1 o1)
                   clear b1 o1)
      clear hs
      go_loopw [6, 27] (fun v i wr => Hid (Below w.heap.size w wr) ∧ ((i = .int .i64 0 ∧ Hid (wr.ownsRow w.heap.size 149 2 v 0 [])) ∨ (i = .int .i64 1 ∧ Hid (wr.ownsRow w.heap.size 149 2 v m1 X1)) ∨ (i = .int .i64 2 ∧ Hid (wr.ownsRow w.heap.size 149 2 v (m1 + m2) (X1 ++ X2))))) (fun _ i _ => 2 - (intOf i).toNat)
      case atStart => exact ⟨Lib.hid H1.out.1, .inl ⟨rfl, Lib.hid H1.out.2⟩⟩
      case round =>
        obtain ⟨HB, hc⟩ := hrel
        have k0 := (HB.out.cell hg).trans HH.out.1
        have k1 := (HB.out.cell (p := ⟨g, 1, none⟩) hg).trans HH.out.2
        rcases hc with ⟨rfl, HO⟩ | ⟨rfl, HO⟩ | ⟨rfl, HO⟩
        · go_wp2_with (refine wpList_append_row rfl (.tmp 31) (.tmp 32) 145 rfl w.heap.size 149 i0 _ 2 24 Tryz.underlying145 HI.out.1 HI.out.2.1 HI.out.2.2.1 HI.out.2.2.2 rfl (by omega) u6 0 [] rfl HO.out a1 m1 c1 X1 rfl HN1.out (H.out.1.below HB.out) HA1.out (by unfold maxLen; omega) (by omega) HB.out.size ?_
                       intro v6 w6 ho6 hg6
                       have H6 := Lib.hid (And.intro ho6 hg6)
                       clear ho6 hg6)
          refine ⟨⟨Lib.hid (HB.out.grown H6.out.2 HB.out.size (fun b hb => (HO.out.lt b hb).1)), .inr (.inl ⟨rfl, Lib.hid ?_⟩)⟩, by decide⟩
          have := H6.out.1
          rwa [Nat.zero_add, List.nil_append] at this
        · go_wp2_with (refine wpList_append_row rfl (.tmp 31) (.tmp 32) 145 rfl w.heap.size 149 i0 _ 2 24 Tryz.underlying145 HI.out.1 HI.out.2.1 HI.out.2.2.1 HI.out.2.2.2 rfl (by omega) u6 m1 X1 rfl HO.out a2 m2 c2 X2 rfl HN2.out (H.out.2.below HB.out) HA2.out (by unfold maxLen; omega) (by omega) HB.out.size ?_
                       intro v6 w6 ho6 hg6
                       have H6 := Lib.hid (And.intro ho6 hg6)
                       clear ho6 hg6)
          exact ⟨⟨Lib.hid (HB.out.grown H6.out.2 HB.out.size (fun b hb => (HO.out.lt b hb).1)), .inr (.inr ⟨rfl, Lib.hid H6.out.1⟩)⟩, by decide⟩
        · go_wp2
          go_ret
          refine ⟨u6, rfl, HB.out, ?_⟩
          rw [HF.out]
          exact HO.out
end Go.Proofs.YtbghglkplbnnkaaGreatDoor
-- StoreObj
namespace Go.Proofs.YtbghglkplbnnkaaGreatDoor
open Go.RowKit Sec
open Go.Proofs.YtbghglkplbnnkaaGreatDoor.Bk

def scells (p q : Nat) (S : Sup) (vC vW : Value) (off : Bool) : Array Value := #[.pointer (some ⟨p, 0, none⟩), .int .i64 S.q, .int .i64 S.h, .int .i64 S.e, .int .i64 S.f, .int .i64 S.g, .pointer (some ⟨q, 0, none⟩), vC, vW, .bool off]
structure StIs (B : Nat) (w : World) (s p q : Nat) (S : Sup) (X Y : List Int) (off : Bool) (vC vW : Value) : Prop where
  hp : B ≤ s
  blk : w.heap[s]? = some (.cells (scells p q S vC vW off) 116 (0, 0))
  oC : w.ownsRow B 3 1 vC X.length (vals X)
  oW : w.ownsRow B 3 1 vW Y.length (vals Y)
  ap : ∀ g, vC.ownBlock = some g → vW.ownBlock ≠ some g
  len : X.length = Y.length
  le : X.length ≤ 1000
section
variable {B : Nat} {G G' : Nat → Prop} {w w' : World} {s p q : Nat} {S S' : Sup} {X Y : List Int} {off : Bool} {vC vW : Value} {D D' : Dsk} {fr n hd nx ep hd' nx' ep' : Int}
theorem StIs.lt (h : StIs B w s p q S X Y off vC vW) : s < w.heap.size := by
  have hb := h.blk
  rcases Nat.lt_or_ge s w.heap.size with q | q
  · exact q
  · simp [Array.getElem?_eq_none q] at hb
theorem StIs.cell (h : StIs B w s p q S X Y off vC vW) (j : Nat) : w.cell? ⟨s, j, none⟩ = (scells p q S vC vW off)[j]? := by simp [World.cell?, h.blk]
theorem StIs.frozen (h : StIs B w s p q S X Y off vC vW) (j : Nat) : w.frozen? ⟨s, j, none⟩ = false := by simp [World.frozen?, h.blk]
theorem StIs.cs (h : StIs B w s p q S X Y off vC vW) : w.cell? ⟨s, 0, none⟩ = some (.pointer (some ⟨p, 0, none⟩)) ∧ w.cell? ⟨s, 1, none⟩ = some (.int .i64 S.q) ∧ w.cell? ⟨s, 2, none⟩ = some (.int .i64 S.h) ∧ w.cell? ⟨s, 3, none⟩ = some (.int .i64 S.e) ∧ w.cell? ⟨s, 4, none⟩ = some (.int .i64 S.f) ∧ w.cell? ⟨s, 5, none⟩ = some (.int .i64 S.g) ∧ w.cell? ⟨s, 6, none⟩ = some (.pointer (some ⟨q, 0, none⟩)) ∧ w.cell? ⟨s, 7, none⟩ = some vC ∧ w.cell? ⟨s, 8, none⟩ = some vW ∧ w.cell? ⟨s, 9, none⟩ = some (.bool off) :=
  ⟨(h.cell 0).trans rfl, (h.cell 1).trans rfl, (h.cell 2).trans rfl, (h.cell 3).trans rfl, (h.cell 4).trans rfl, (h.cell 5).trans rfl, (h.cell 6).trans rfl, (h.cell 7).trans rfl, (h.cell 8).trans rfl, (h.cell 9).trans rfl⟩
theorem StIs.neC (h : StIs B w s p q S X Y off vC vW) {g : Nat} (hg : vC.ownBlock = some g) : g ≠ s := by
  rintro rfl
  obtain ⟨cur, hh⟩ := own_type h.oC hg
  have := h.blk
  rw [hh] at this
  simp only [Option.some.injEq, Obj.cells.injEq] at this
  exact absurd this.2.1 (by decide)
theorem StIs.neW (h : StIs B w s p q S X Y off vC vW) {g : Nat} (hg : vW.ownBlock = some g) : g ≠ s := by
  rintro rfl
  obtain ⟨cur, hh⟩ := own_type h.oW hg
  have := h.blk
  rw [hh] at this
  simp only [Option.some.injEq, Obj.cells.injEq] at this
  exact absurd this.2.1 (by decide)
theorem StIs.foot (h : StIs B w s p q S X Y off vC vW) (b : Nat) (hb : RF s vC vW b) : B ≤ b ∧ b < w.heap.size := by
  rcases hb with rfl | e | e
  · exact ⟨h.hp, h.lt⟩
  · exact h.oC.lt b e
  · exact h.oW.lt b e
theorem StIs.of_blocks (h : StIs B w s p q S X Y off vC vW) (k : ∀ b, RF s vC vW b → w'.heap[b]? = w.heap[b]?) : StIs B w' s p q S X Y off vC vW :=
  ⟨h.hp, (k s (.inl rfl)).trans h.blk, owns_same h.oC (fun g e => k g (.inr (.inl e))), owns_same h.oW (fun g e => k g (.inr (.inr e))), h.ap, h.len, h.le⟩
theorem StIs.below (h : StIs B w s p q S X Y off vC vW) (b : Below w.heap.size w w') : StIs B w' s p q S X Y off vC vW := h.of_blocks fun k hk => b.block k (h.foot k hk).2
theorem StIs.put (h : StIs B w s p q S X Y off vC vW) (j : Nat) (v : Value) {q' : Nat} {off' : Bool} (e : (scells p q S vC vW off).setIfInBounds j v = scells p q' S' vC vW off') : StIs B (w.setCell ⟨s, j, none⟩ v) s p q' S' X Y off' vC vW := by
  refine ⟨h.hp, ?_, owns_same h.oC (fun g q => heap_setCell_other _ _ _ _ (h.neC q)), owns_same h.oW (fun g q => heap_setCell_other _ _ _ _ (h.neW q)), h.ap, h.len, h.le⟩
  rw [← e]
  exact heap_setCell_same w s j _ _ v h.blk
theorem StIs.setW {g c m : Nat} (h : StIs B w s p q S X Y off vC (.slice (some ⟨g, 0, none⟩) m c)) (hm : m = Y.length) (k : Nat) (x : Int) : StIs B (w.setCell ⟨g, k, none⟩ (.int .i64 x)) s p q S X (Y.set k x) off vC (.slice (some ⟨g, 0, none⟩) m c) := by
  subst hm
  refine ⟨h.hp, ?_, owns_same h.oC (fun i q => heap_setCell_other _ _ _ _ (fun e => h.ap i q (by subst e; rfl))), ?_, h.ap, by simpa using h.len, h.le⟩
  · exact (heap_setCell_other _ _ _ _ (fun e => h.neW (g := g) rfl e.symm)).trans h.blk
  · show World.ownsRow _ _ _ 1 _ (Y.set k x).length (vals (Y.set k x))
    rw [List.length_set, vals, List.map_set]
    exact owns_set h.oW k _

structure StAt (B : Nat) (G : Nat → Prop) (w : World) (s p q : Nat) (D : Dsk) (fr n hd nx ep : Int) (S : Sup) (X Y : List Int) (off : Bool) (vC vW : Value) : Prop where
  st : StIs B w s p q S X Y off vC vW
  lg : LogAt B (fun b => G b ∨ RF s vC vW b) w q p D fr n hd nx ep
  ng : ∀ b, RF s vC vW b → ¬ G b
theorem StAt.below (h : StAt B G w s p q D fr n hd nx ep S X Y off vC vW) (b : Below w.heap.size w w') : StAt B G w' s p q D fr n hd nx ep S X Y off vC vW := ⟨h.st.below b, h.lg.below b, h.ng⟩
theorem StAt.mono (h : StAt B G w s p q D fr n hd nx ep S X Y off vC vW) (hG : ∀ b, G' b → G b) : StAt B G' w s p q D fr n hd nx ep S X Y off vC vW := ⟨h.st, h.lg.mono (fun b r => r.imp (hG b) id), fun b r g => h.ng b r (hG b g)⟩
theorem StAt.more (h : StAt B G w s p q D fr n hd nx ep S X Y off vC vW) (b : Below w.heap.size w w') : StAt B (fun k => G k ∨ (w.heap.size ≤ k ∧ k < w'.heap.size)) w' s p q D fr n hd nx ep S X Y off vC vW :=
  ⟨h.st.below b, (h.lg.more b).mono (fun k r => by
    rcases r with (r | r) | r
    · exact .inl (.inl r)
    · exact .inr r
    · exact .inl (.inr r)), fun k r g => by
    rcases g with g | g
    · exact h.ng k r g
    · have := (h.st.foot k r).2; omega⟩
theorem StAt.le (h : StAt B G w s p q D fr n hd nx ep S X Y off vC vW) : B ≤ w.heap.size := h.lg.le
theorem StAt.keptG (h : StAt B G w s p q D fr n hd nx ep S X Y off vC vW) (b : Below w.heap.size w w') : KeptG G w w' := fun k g => b.block k (h.lg.d.lt k (.inl (.inl g)))
theorem StAt.log (h : StAt B G w s p q D fr n hd nx ep S X Y off vC vW) (hl : LogAt B (fun b => G b ∨ RF s vC vW b) w' q p D' fr n hd' nx' ep') (k : KeptG (fun b => G b ∨ RF s vC vW b) w w') : StAt B G w' s p q D' fr n hd' nx' ep' S X Y off vC vW :=
  ⟨h.st.of_blocks (fun b r => k b (.inr r)), hl, h.ng⟩
theorem StAt.disk (h : StAt B G w s p q D fr n hd nx ep S X Y off vC vW) (hd' : AtK B (fun b => (G b ∨ RF s vC vW b) ∨ b = q) w' p D') (k : KeptG (fun b => (G b ∨ RF s vC vW b) ∨ b = q) w w') : StAt B G w' s p q D' fr n hd nx ep S X Y off vC vW :=
  h.log (h.lg.disk hd' k) (k.mono fun b r => .inl r)
theorem LogAt.own (h : LogAt B G w q p D fr n hd nx ep) (hs : w.heap.size ≤ w'.heap.size) (ht : TyOk B w') (hb : ∀ b, ¬ G b → b < w.heap.size → w'.heap[b]? = w.heap[b]?) : LogAt B G w' q p D fr n hd nx ep :=
  ⟨h.d.keep hs (fun b hn hl => hb b (fun g => hn (.inl g)) hl) ht, h.c.of_block (hb q h.ng h.c.lt), h.ge, h.ng⟩
theorem LogAt.set (h : LogAt B G w q p D fr n hd nx ep) {a : Addr} (ha : G a.block) (hB : B ≤ a.block) (v : Value) : LogAt B G (w.setCell a v) q p D fr n hd nx ep :=
  h.own (by rw [size_setCell']; exact Nat.le_refl _) (h.d.1.below ((Below.refl B w).setCell hB v)) (fun b hn _ => heap_setCell_ne _ _ _ _ (fun e => hn (e ▸ ha)))
theorem StAt.put (h : StAt B G w s p q D fr n hd nx ep S X Y off vC vW) (j : Nat) (v : Value) {off' : Bool} (e : (scells p q S vC vW off).setIfInBounds j v = scells p q S' vC vW off') : StAt B G (w.setCell ⟨s, j, none⟩ v) s p q D fr n hd nx ep S' X Y off' vC vW ∧ Below B w (w.setCell ⟨s, j, none⟩ v) ∧ KeptG G w (w.setCell ⟨s, j, none⟩ v) :=
  ⟨⟨h.st.put j v e, h.lg.set (a := ⟨s, j, none⟩) (.inr (.inl rfl)) h.st.hp v, h.ng⟩, (Below.refl B w).setCell (p := ⟨s, j, none⟩) h.st.hp v, set_kept (a := ⟨s, j, none⟩) v (h.ng s (.inl rfl))⟩
theorem StAt.setW {g c m : Nat} (h : StAt B G w s p q D fr n hd nx ep S X Y off vC (.slice (some ⟨g, 0, none⟩) m c)) (hm : m = Y.length) (k : Nat) (x : Int) : StAt B G (w.setCell ⟨g, k, none⟩ (.int .i64 x)) s p q D fr n hd nx ep S X (Y.set k x) off vC (.slice (some ⟨g, 0, none⟩) m c) ∧ Below B w (w.setCell ⟨g, k, none⟩ (.int .i64 x)) ∧ KeptG G w (w.setCell ⟨g, k, none⟩ (.int .i64 x)) :=
  have hg : RF s vC (.slice (some ⟨g, 0, none⟩) m c) g := .inr (.inr rfl)
  have hB : B ≤ g := (h.st.foot g hg).1
  ⟨⟨h.st.setW hm k x, h.lg.set (a := ⟨g, k, none⟩) (.inr hg) hB _, h.ng⟩, (Below.refl B w).setCell (p := ⟨g, k, none⟩) hB _, set_kept (a := ⟨g, k, none⟩) _ (h.ng g hg)⟩
end
end Go.Proofs.YtbghglkplbnnkaaGreatDoor
-- StoreSt
namespace Go.Proofs.YtbghglkplbnnkaaGreatDoor
open Go.RowKit Sec
open Go.Proofs.YtbghglkplbnnkaaGreatDoor.Bk

def pgs (H : Nat) : Nat := (16 + 2 * H + 15) / 16
def crW (S : Sup) : Wr := ⟨((S.q.toNat % 2 : Nat) : Int), crB S⟩
def FineL (N : Nat) (l : List Chg) : Prop := ∀ x ∈ l, (0 ≤ x.c ∧ x.c < N) ∧ 0 ≤ x.v ∧ x.v < 4294967296
structure On (D : Dsk) (H L q hd nx : Nat) (e : Int) (K : Nat) (C : List Int) : Prop where
  st : Still D K
  ge : 8 ≤ H ∧ H ≤ 400 ∧ 4 ≤ L ∧ L ≤ 300
  on : ∃ C0 all, Good D.now H L (pgs H) q hd e C0 ∧ LogIs D (2 + 6 * pgs H) L hd nx e all ∧ C = applyL C0 all ∧ FineL (16 + 2 * H) all
section
variable {D : Dsk} {H L q hd nx : Nat} {e : Int} {K : Nat} {C : List Int}
theorem pgs_le (h : H ≤ 400) : pgs H ≤ 51 ∧ 16 + 2 * H ≤ 16 * pgs H := by unfold pgs; omega
theorem On.len (h : On D H L q hd nx e K C) : C.length = 16 + 2 * H := by
  obtain ⟨C0, all, g, _, rfl, _⟩ := h.on
  rw [applyL_len]; exact g.cl
theorem On.fine (h : On D H L q hd nx e K C) : FineC C := by
  obtain ⟨C0, all, g, _, rfl, f⟩ := h.on
  exact applyL_fine g.fine (fun x hx => (f x hx).2)
theorem On.many (h : On D H L q hd nx e K C) : 2 + 6 * pgs H + L ≤ D.now.length := by
  obtain ⟨C0, all, g, _⟩ := h.on
  exact g.len
theorem On.more {K' : Nat} (h : On D H L q hd nx e K C) (hk : K ≤ K') : On D H L q hd nx e K' C := ⟨⟨h.st.on, h.st.waits, h.st.same, Nat.le_trans h.st.deeds hk⟩, h.ge, h.on⟩
theorem pagesW_log {s : List ByteArray} {v P k : Nat} (hk : 2 + 6 * P ≤ k) : (setAll s ((pagesW v C (3 * P)).map Wr.put))[k]? = s[k]? :=
  setAll_off _ _ _ (fun x hx => by
    obtain ⟨y, hy, rfl⟩ := List.mem_map.1 hx
    obtain ⟨j, hj, rfl⟩ := List.mem_map.1 hy
    have hj := List.mem_range.1 hj
    show ((2 + 6 * (j / 3) + 3 * (v % 2) + j % 3 : Nat) : Int).toNat ≠ k
    omega)
theorem On.mark (h : On D H L q hd nx e K C) (hlit : D.lit = false) (hq : q < 900000000) (hn : nx ≤ 900000000) (e0 : 0 ≤ e) (e1 : e < 900000000) :
    supOk (crS (q + 1) nx (e + 1) H L) = true ∧ ∃ D1 D2, layR D (pagesW (q + 1) C (3 * pgs H)) = (D1, 0) ∧ layR D1 [crW (crS (q + 1) nx (e + 1) H L)] = (D2, 0) ∧ On D2 H L (q + 1) nx nx (e + 1) (K + 3 * pgs H + 3) C ∧ D2.lit = false := by
  have hlen := h.len
  have hf := h.fine
  have hm := h.many
  obtain ⟨g1, g2, g3, g4⟩ := h.ge
  obtain ⟨p1, p2⟩ := pgs_le g2
  obtain ⟨C0, all, g, l, rfl, f⟩ := h.on
  have hok : supOk (crS (q + 1) nx (e + 1) H L) = true := by
    simp only [supOk, crS, mostI, Bool.and_eq_true]
    exact ⟨⟨⟨⟨⟨⟨decide_eq_true (by omega), decide_eq_true (by omega)⟩, decide_eq_true (by omega)⟩, decide_eq_true (by omega)⟩, decide_eq_true (by omega)⟩, decide_eq_true (by omega)⟩, decide_eq_true (by omega)⟩
  obtain ⟨D1, a1, a2, a3, a4⟩ := layR_calm h.st hlit (pagesW_fits (v := q + 1) hf (P := pgs H) (by omega) (by omega) (by omega : 2 + 6 * pgs H ≤ D.now.length))
  have hl1 : D1.now.length = D.now.length := by rw [a4, setAll_len]
  have gp := g.part (s' := D1.now) (C' := applyL C0 all) hl1 (fun k hk => by rw [a4]; exact pagesW_or hf (by omega) (by omega) k hk)
  have pa : PagesAt D1.now (q + 1) (applyL C0 all) (pgs H) := by rw [a4]; exact pagesW_at hf (by omega) (by omega) (by omega)
  have hfit : ∀ x ∈ [crW (crS (q + 1) nx (e + 1) H L)], x.fits D1.now.length := fun x hx => by
    obtain rfl : x = _ := by simpa using hx
    refine ⟨Int.natCast_nonneg _, ?_, crB_size _⟩
    show (((crS (q + 1) nx (e + 1) H L).q.toNat % 2 : Nat) : Int) < _
    rw [hl1]
    omega
  obtain ⟨D2, b1, b2, b3, b4⟩ := layR_calm a2 a3 hfit
  have b5 : D2.now = D1.now.set ((q + 1) % 2) (crB (crS (q + 1) nx (e + 1) H L)) := by rw [b4]; rfl
  refine ⟨hok, D1, D2, a1, b1, ⟨⟨b2.on, b2.waits, b2.same, ?_⟩, h.ge, ⟨applyL C0 all, [], ?_, ?_, rfl, fun x hx => by simp at hx⟩⟩, b3⟩
  · have := b2.deeds
    simp only [pagesW_len, List.length_cons, List.length_nil] at this
    omega
  · rw [b5]
    exact gp.mark pa hlen hf hok
  · refine (l.near b2.on (by rw [b5, List.length_set, hl1]; omega) (fun k hk => ?_)).cut (by omega)
    rw [b5, List.getElem?_set_ne (by have := Nat.mod_lt (q + 1) (show 0 < 2 by omega); omega), a4]
    exact pagesW_log (by omega)
end
end Go.Proofs.YtbghglkplbnnkaaGreatDoor
-- StoreCalls
namespace Go.Proofs.YtbghglkplbnnkaaGreatDoor
open Go.RowKit Sec
open Go.Proofs.YtbghglkplbnnkaaGreatDoor.Bk

theorem sand1 (x : Int) (h0 : 0 ≤ x) (h1 : x < 4294967296) : bits BinOp.and IntKind.i64 x 1 = x % 2 := by
  obtain ⟨X, rfl⟩ := Int.eq_ofNat_of_zero_le h0
  show IntKind.i64.wrap ((BitVec.ofInt 64 (X : Int) &&& BitVec.ofInt 64 ((1 : Nat) : Int)).toNat : Int) = _
  rw [BitVec.toNat_and, ofInt_u64 _ (by omega), ofInt_u64 _ (by omega), Nat.and_one_is_mod, IntKind.wrap_i64]
  omega
theorem geo_set {u : World} {g : Nat} {z0 z1 : Value} (h0 : u.cell? ⟨g, 0, none⟩ = some z0) (h1 : u.cell? ⟨g, 1, none⟩ = some z1) (v0 v1 : Value) :
    (loadVar 23 ⟨g, 0, none⟩).run Tryz.prog ((u.setCell ⟨g, 0, none⟩ v0).setCell ⟨g, 1, none⟩ v1) = .ok (.agg #[v0, v1]) ((u.setCell ⟨g, 0, none⟩ v0).setCell ⟨g, 1, none⟩ v1) := by
  have c1 : ((u.setCell ⟨g, 0, none⟩ v0).setCell ⟨g, 1, none⟩ v1).cell? ⟨g, 1, none⟩ = some v1 := World.cell?_setCell_same _ _ _ ((World.cell?_setCell_other _ _ _ _ (by intro e; cases e)).trans h1)
  have c0 : ((u.setCell ⟨g, 0, none⟩ v0).setCell ⟨g, 1, none⟩ v1).cell? ⟨g, 0, none⟩ = some v0 := (World.cell?_setCell_other _ _ _ _ (by intro e; cases e)).trans (World.cell?_setCell_same _ _ _ h0)
  generalize (u.setCell ⟨g, 0, none⟩ v0).setCell ⟨g, 1, none⟩ v1 = x at *
  simp [go_sem, c0, c1]
theorem wr_set {u : World} {g : Nat} {z0 z1 : Value} (h0 : u.cell? ⟨g, 0, none⟩ = some z0) (h1 : u.cell? ⟨g, 1, none⟩ = some z1) (v0 v1 : Value) :
    (loadVar 149 ⟨g, 0, none⟩).run Tryz.prog ((u.setCell ⟨g, 0, none⟩ v0).setCell ⟨g, 1, none⟩ v1) = .ok (.agg #[v0, v1]) ((u.setCell ⟨g, 0, none⟩ v0).setCell ⟨g, 1, none⟩ v1) := by
  have c1 : ((u.setCell ⟨g, 0, none⟩ v0).setCell ⟨g, 1, none⟩ v1).cell? ⟨g, 1, none⟩ = some v1 := World.cell?_setCell_same _ _ _ ((World.cell?_setCell_other _ _ _ _ (by intro e; cases e)).trans h1)
  have c0 : ((u.setCell ⟨g, 0, none⟩ v0).setCell ⟨g, 1, none⟩ v1).cell? ⟨g, 0, none⟩ = some v0 := (World.cell?_setCell_other _ _ _ _ (by intro e; cases e)).trans (World.cell?_setCell_same _ _ _ h0)
  generalize (u.setCell ⟨g, 0, none⟩ v0).setCell ⟨g, 1, none⟩ v1 = x at *
  simp [go_sem, c0, c1]
theorem set2_below {B : Nat} {w u : World} {g : Nat} (b : Below B w u) (hg : B ≤ g) (v0 v1 : Value) : Below B w ((u.setCell ⟨g, 0, none⟩ v0).setCell ⟨g, 1, none⟩ v1) :=
  (b.setCell (p := ⟨g, 0, none⟩) hg _).setCell (p := ⟨g, 1, none⟩) hg _
set_option maxRecDepth 100000 in
theorem geoOf_is (S : Sup) (w : World) : Calls Tryz.prog 71 #[S.val] w fun e w' => e = .returned (.agg #[.int .i64 S.f, .int .i64 S.g]) ∧ Below w.heap.size w w' := by
  unfold Sup.val
  go_enter Tryz.func71, Tryz.ntmps71
  go_wp2
  refine bodyPost_ret (results_cell1 (x := .agg #[.int .i64 S.f, .int .i64 S.g]) rfl rfl (by simp [go_sem])) rfl ?_
  exact ⟨rfl, ((Below.refl _ _).alloc (Nat.le_refl _) _).alloc (by simp) _⟩
set_option maxRecDepth 100000 in
theorem slotOf_is (S : Sup) (h0 : 0 ≤ S.q) (h1 : S.q < 4294967296) (w : World) : Calls Tryz.prog 123 #[S.val] w fun e w' => e = .returned (.int .i64 (S.q % 2)) ∧ Below w.heap.size w w' := by
  unfold Sup.val
  have HE := Lib.hid (sand1 S.q h0 h1)
  go_enter Tryz.func123, Tryz.ntmps123
  go_wp2
  go_ret
  exact ⟨geo_i HE.out, ((Below.refl _ _).alloc (Nat.le_refl _) _)⟩
theorem crownOf_is (S : Sup) (hk : supOk S = true) (w : World) : Calls Tryz.prog 105 #[S.val] w fun e w' => e = .returned (crW S).val ∧ Below w.heap.size w w' := by
  obtain ⟨⟨q0, q1⟩, _⟩ := sup_of hk
  have HE : Hid ((crW S).val = .agg #[.int .i64 (bits BinOp.and .i64 S.q 1), .string (crB S)]) := Lib.hid (by
    rw [sand1 S.q q0 (by omega)]
    obtain ⟨m, hm⟩ := Int.eq_ofNat_of_zero_le q0
    show Value.agg #[.int .i64 ((S.q.toNat % 2 : Nat) : Int), .string (crB S)] = _
    rw [hm, show ((m : Int).toNat % 2 : Nat) = ((m % 2 : Nat)) from rfl, Int.natCast_emod]
    rfl)
  have HP := Lib.hid (fun u => cput_yes S hk u)
  have HL := Lib.hid (fun u => place_is S u)
  unfold Sup.val at HP HL ⊢
  rw [HE.out]
  go_enter Tryz.func105, Tryz.ntmps105
  have BA : Below w.heap.size w ((w.alloc (.cells #[.int .i64 S.q, .int .i64 S.h, .int .i64 S.e, .int .i64 S.f, .int .i64 S.g] 113)).alloc (.cells #[.int .i64 0, .string { data := #[] }] 149)) := ((Below.refl _ _).alloc (Nat.le_refl _) _).alloc (by simp) _
  have HB := Lib.hid BA
  clear BA
  go_wp2_with (first
    | (go_at_call 124
       refine (HP.out _).mono ?_
       rintro e' w1 ⟨rfl, b1⟩
       have cc := (bcell b1).1
       have k0 : w1.cell? ⟨w.heap.size, 0, none⟩ = some (.int .i64 S.q) := (cc _ _ (by simp <;> omega)).trans (by simp)
       have k1 : w1.cell? ⟨w.heap.size, 1, none⟩ = some (.int .i64 S.h) := (cc _ _ (by simp <;> omega)).trans (by simp)
       have k2 : w1.cell? ⟨w.heap.size, 2, none⟩ = some (.int .i64 S.e) := (cc _ _ (by simp <;> omega)).trans (by simp)
       have k3 : w1.cell? ⟨w.heap.size, 3, none⟩ = some (.int .i64 S.f) := (cc _ _ (by simp <;> omega)).trans (by simp)
       have k4 : w1.cell? ⟨w.heap.size, 4, none⟩ = some (.int .i64 S.g) := (cc _ _ (by simp <;> omega)).trans (by simp)
       have R1 := Lib.hid b1
       clear b1 cc)
    | (go_at_call 125
       refine (HL.out _).mono ?_
       rintro e' w2 ⟨rfl, b2⟩
       have b3 := R1.out.trans (b2.mono R1.out.size)
       have cc := (bcell b3).1
       have ff := (bcell b3).2
       have d0 : w2.cell? ⟨w.heap.size + 1, 0, none⟩ = some (.int .i64 0) := (cc _ _ (by simp <;> omega)).trans (by simp)
       have d1 : w2.cell? ⟨w.heap.size + 1, 1, none⟩ = some (.string { data := #[] }) := (cc _ _ (by simp <;> omega)).trans (by simp)
       have f0 : w2.frozen? ⟨w.heap.size + 1, 0, none⟩ = false := (ff _ _ (by simp <;> omega)).trans (by simp)
       have f1 : w2.frozen? ⟨w.heap.size + 1, 1, none⟩ = false := (ff _ _ (by simp <;> omega)).trans (by simp)
       have R2 := Lib.hid (And.intro (And.intro d0 d1) (HB.out.trans (b3.mono HB.out.size)))
       clear b2 b3 cc ff))
  refine bodyPost_ret (results_cell1 rfl rfl (wr_set R2.out.1.1 R2.out.1.2 _ _)) rfl ?_
  exact ⟨rfl, set2_below R2.out.2 (by omega) _ _⟩
section
variable {B : Nat} {G G' : Nat → Prop} {w w' : World} {s p q : Nat} {S S' : Sup} {X Y : List Int} {off : Bool} {vC vW : Value} {D D' : Dsk} {fr n hd nx ep hd' nx' ep' : Int}
theorem snone_no (h : StIs B w s p q S X Y off vC vW) : Calls Tryz.prog 73 #[.pointer (some ⟨s, 0, none⟩)] w fun e w' => e = .returned (.bool false) ∧ w' = w := by
  obtain ⟨c0, _⟩ := h.cs
  clear h
  go_enter Tryz.func73, Tryz.ntmps73
  go_wp2
  go_ret
  exact ⟨rfl, rfl⟩
set_option maxRecDepth 100000 in
theorem ssuper_is (h : StIs B w s p q S X Y off vC vW) : Calls Tryz.prog 72 #[.pointer (some ⟨s, 0, none⟩)] w fun e w' => e = .returned S.val ∧ Below w.heap.size w w' := by
  have h1 := h.below ((Below.refl _ _).alloc (Nat.le_refl _) (.cells #[.int .i64 0, .int .i64 0, .int .i64 0, .int .i64 0, .int .i64 0] 113))
  obtain ⟨_, c1, c2, c3, c4, c5, _⟩ := h1.cs
  have H := Lib.hid h1
  clear h h1
  unfold Sup.val
  go_enter Tryz.func72, Tryz.ntmps72
  go_wp2_with (go_at_call 73; refine (snone_no H.out).mono ?_; rintro e w' ⟨rfl, rfl⟩)
  refine bodyPost_ret (results_cell1 (x := .agg #[.int .i64 S.q, .int .i64 S.h, .int .i64 S.e, .int .i64 S.f, .int .i64 S.g]) rfl rfl (by simp [go_sem])) rfl ?_
  exact ⟨rfl, (Below.refl _ _).alloc (Nat.le_refl _) _⟩
theorem sgeo_is (h : StIs B w s p q S X Y off vC vW) : Calls Tryz.prog 37 #[.pointer (some ⟨s, 0, none⟩)] w fun e w' => e = .returned (.agg #[.int .i64 S.f, .int .i64 S.g]) ∧ Below w.heap.size w w' := by
  have H := Lib.hid h
  have HG := Lib.hid (fun u => geoOf_is S u)
  clear h
  unfold Sup.val at HG
  go_enter Tryz.func37, Tryz.ntmps37
  go_wp2_with (first
    | (go_at_call 72
       refine (ssuper_is (H.out.below ((Below.refl _ _).alloc (Nat.le_refl _) _))).mono ?_
       rintro e w1 ⟨rfl, b1⟩
       unfold Sup.val
       have H1 := Lib.hid b1
       clear b1)
    | (go_at_call 71
       refine (HG.out _).mono ?_
       rintro e w2 ⟨rfl, b2⟩
       have b3 := geo_next H1.out b2
       have H2 := Lib.hid (GBox.laid b3)
       have c0 := H2.out.1.c0
       have c1 := H2.out.1.c1
       have f0 : w2.frozen? ⟨w.heap.size, 0, none⟩ = false := (b3.frozen (p := ⟨w.heap.size, 0, none⟩) (by simp)).trans (by simp)
       have f1 : w2.frozen? ⟨w.heap.size, 1, none⟩ = false := (b3.frozen (p := ⟨w.heap.size, 1, none⟩) (by simp)).trans (by simp)
       clear b2 b3))
  refine bodyPost_ret (results_cell1 rfl rfl (geo_set H2.out.1.c0 H2.out.1.c1 _ _)) rfl ?_
  exact ⟨rfl, set2_below H2.out.2 (Nat.le_refl _) _ _⟩
def hasB (S : Sup) (c : Int) : Bool := decide (0 ≤ c ∧ c < geCells S.f S.g)
theorem shas_is (h : StIs B w s p q S X Y off vC vW) (c : Int) : Calls Tryz.prog 69 #[.pointer (some ⟨s, 0, none⟩), .int .i64 c] w fun e w' => e = .returned (.bool (hasB S c)) ∧ Below w.heap.size w w' := by
  have H := Lib.hid h
  have HC := Lib.hid (fun u => gcells_is S.f S.g u)
  rw [show hasB S c = decide (0 ≤ c ∧ c < geCells S.f S.g) from rfl]
  have hge := geCells_le S.f S.g
  generalize geCells S.f S.g = m at *
  clear h
  by_cases h0 : 0 ≤ c
  · by_cases h1 : c < m
    all_goals
      go_enter Tryz.func69, Tryz.ntmps69
      go_wp2_with (first
        | (go_at_call 37; refine (sgeo_is H.out).mono ?_; rintro e w1 ⟨rfl, b1⟩; have H1 := Lib.hid b1; clear b1)
        | (go_at_call 75; refine (HC.out _).mono ?_; rintro e w2 ⟨rfl, b2⟩; have H2 := Lib.hid b2; clear b2))
      go_ret
      refine ⟨geo_b ?_, geo_next H1.out H2.out⟩
      first
        | exact (decide_eq_true (by omega)).symm
        | exact (decide_eq_false (by omega)).symm
        | simp_all
  · go_enter Tryz.func69, Tryz.ntmps69
    go_wp2
    go_ret
    exact ⟨geo_b (by have : ¬ 0 ≤ c := by omega
                     simp [this]), Below.refl _ _⟩
end
end Go.Proofs.YtbghglkplbnnkaaGreatDoor
-- StoreLay
namespace Go.Proofs.YtbghglkplbnnkaaGreatDoor
open Go.RowKit Sec
open Go.Proofs.YtbghglkplbnnkaaGreatDoor.Bk

set_option maxRecDepth 100000 in
set_option maxHeartbeats 2000000 in
theorem lay_is {B : Nat} {G : Nat → Prop} {w : World} {p : Nat} {D : Dsk} (h : AtK B G w p D)
    (a : Option Addr) (L : List Wr) (c : Nat) (hL : LiesAt w a (flat Wr.cells L)) (ha : ∀ b : Addr, a = some b → G b.block) (hl : L.length ≤ 100000)
    (hwc : D.waits.length + L.length + 1 < 2 ^ 40) (hdd : D.deeds + L.length + 2 < 2 ^ 60) (D' : Dsk) (x : Int) (hx : layR D L = (D', x)) :
    Calls Tryz.prog 100 #[.pointer (some ⟨p, 0, none⟩), .slice a L.length c] w fun e w' => ∃ v, e = .returned v ∧ ErrIs w' x v ∧ AtK B G w' p D' ∧ Below B w w' ∧ KeptG G w w' := by
  have H := Lib.hid (And.intro hL ha)
  have HX := Lib.hid hx
  have HA : Hid (AtK B G w p D) := Lib.hid h
  clear hL ha h hx
  go_enter Tryz.func100, Tryz.ntmps100
  go_wp2
  go_loopw [10] (fun i wr => ∃ (k : Nat) (E : Dsk), k ≤ L.length ∧ i = .int .i64 (k : Int) ∧ Hid (AtK B G wr p E ∧ Below B w wr ∧ KeptG G w wr ∧ layW D L = layW E (L.drop k) ∧ E.waits.length + (L.length - k) + 1 < 2 ^ 40 ∧ E.deeds + (L.length - k) + 2 < 2 ^ 60)) (fun i _ => L.length - (intOf i).toNat)
  case atStart => exact ⟨0, D, Nat.zero_le _, rfl, Lib.hid ⟨HA.out, Below.refl _ _, KeptG.refl, rfl, by omega, by omega⟩⟩
  case round =>
    obtain ⟨k, E, hk, rfl, HR⟩ := hrel
    by_cases hlt : k < L.length
    · have hLw := liesAt_kept H.out.1 HR.out.2.1.size HR.out.2.2.1 H.out.2
      obtain ⟨g1, o1, rfl, hg1, e1⟩ := hLw.elem Wr.len (by omega) (List.getElem?_eq_getElem hlt)
      have e1_0 := e1 0 _ rfl
      have e1_1 := e1 1 _ rfl
      rw [Nat.add_zero] at e1_0
      clear e1 hLw
      have HW := Lib.hid (layW_at E L k hlt)
      generalize L[k] = x at *
      obtain ⟨xk, xb⟩ := x
      simp only at e1_0 e1_1
      have hi1 : (k : Int) < (L.length : Int) := by omega
      have hz := HR.out.1.le
      have A0 : Hid (AtK B (fun b => G b ∨ (wr.heap.size ≤ b ∧ b < (wr.alloc (.cells #[.int .i64 xk, .string xb] 149)).heap.size)) (wr.alloc (.cells #[.int .i64 xk, .string xb] 149)) p E) := Lib.hid (HR.out.1.more ((Below.refl _ _).alloc (Nat.le_refl _) _))
      have B2 := Lib.hid ((Below.refl wr.heap.size wr).alloc (Nat.le_refl _) (.cells #[.int .i64 xk, .string xb] 149))
      have s0 : (wr.alloc (.cells #[.int .i64 xk, .string xb] 149)).cell? ⟨wr.heap.size, 0, none⟩ = some (.int .i64 xk) := by simp
      have s1 : (wr.alloc (.cells #[.int .i64 xk, .string xb] 149)).cell? ⟨wr.heap.size, 1, none⟩ = some (.string xb) := by simp
      have HV : Hid (∀ u, Below (wr.alloc (.cells #[.int .i64 xk, .string xb] 149)).heap.size (wr.alloc (.cells #[.int .i64 xk, .string xb] 149)) u → Calls Tryz.prog 118 #[.pointer (some ⟨p, 0, none⟩), .int .i64 xk, .string xb] u fun e w' => e = .returned (.int .i64 (wrD E xk xb).2) ∧ (w'.cell? ⟨wr.heap.size, 0, none⟩ = some (.int .i64 xk) ∧ w'.cell? ⟨wr.heap.size, 1, none⟩ = some (.string xb)) ∧ AtK B G w' p (wrD E xk xb).1 ∧ Below B u w' ∧ KeptG G u w') := Lib.hid (fun u hu => by
        have A3 := A0.out.below hu
        refine (Write_k A3 xk xb (by have := HR.out.2.2.2.2.1; omega) (by have := HR.out.2.2.2.2.2; omega)).mono fun e w' ⟨he, h1, h2, h3⟩ => ?_
        have k1 := h3.cell ⟨wr.heap.size, 0, none⟩ (.inr (by show wr.heap.size ≤ wr.heap.size ∧ wr.heap.size < _; simp))
        have k2 := h3.cell ⟨wr.heap.size, 1, none⟩ (.inr (by show wr.heap.size ≤ wr.heap.size ∧ wr.heap.size < _; simp))
        exact ⟨he, ⟨k1.trans ((hu.cell (cell_lt s0)).trans s0), k2.trans ((hu.cell (cell_lt s1)).trans s1)⟩, h1.mono (fun b r => .inl r), h2, h3.mono (fun b r => .inl r)⟩)
      generalize hR : wrD E xk xb = R at *
      go_wp2
      generalize wr.alloc (.cells #[.int .i64 xk, .string xb] 149) = w2 at *
      go_region_held3 (fun u => u.cell? ⟨wr.heap.size, 0, none⟩ = some (.int .i64 xk) ∧ u.cell? ⟨wr.heap.size, 1, none⟩ = some (.string xb)) (first
          | assumption
          | exact ⟨s0, s1⟩
          | exact k4
          | exact k5) (first
        | (go_at_call 118
           refine (HV.out _ ?_).mono ?_
           · first | exact Below.refl _ _ | exact (Below.refl _ _).drew
           rintro e' w4 ⟨rfl, k4, A4, b4, g4⟩
           have HY := Lib.hid (new_two k4 R.2 xk))
        | (go_at_call 65
           refine (HY.out _ ?_).mono ?_
           · first | exact Below.refl _ _ | exact (Below.refl _ _).drew
           rintro e' w5 ⟨v5, rfl, k5, b5, v5e⟩))
      all_goals
        have Z := Lib.hid (And.intro (A4.below b5) (And.intro (HR.out.2.1.trans (((B2.out.mono hz).trans ((Below.refl B w2).drew.trans b4)).trans (b5.mono A4.le))) (HR.out.2.2.1.trans (KeptG.trans (show KeptG G wr w2 from fun b hb => B2.out.block b (HR.out.1.lt b hb)) (KeptG.trans (show KeptG G w2 w4 from g4) (fun b hb => b5.block b (A4.lt b hb)))))))
        have VE := Lib.hid v5e
        have HB := Lib.hid (wrD_boundsR hR)
        clear A4 b4 g4 k4 k5 HY b5 s0 s1 HV B2 A0
        by_cases hx0 : R.2 = 0
        · have hv : v5 = .nilIface := by
            have := VE.out
            rw [hx0] at this
            exact this.nil
          subst hv
          have HE : Hid (layW D L = layW R.1 (L.drop (k + 1))) := Lib.hid (by rw [HR.out.2.2.2.1, HW.out, if_pos hx0])
          clear VE hx0
          go_wp2
          exact ⟨⟨k + 1, R.1, by omega, by go_num, Lib.hid ⟨Z.out.1, Z.out.2.1, Z.out.2.2, HE.out, by have := HR.out.2.2.2.2.1; have := HB.out.1; omega, by have := HR.out.2.2.2.2.2; have := HB.out.2; omega⟩⟩, by simp [intOf]; omega⟩
        · obtain ⟨tv, vv, rfl⟩ := VE.out.iface hx0
          have HE : Hid (R = (D', x)) := Lib.hid (by
            have h1 := HX.out
            rw [layR, HR.out.2.2.2.1, HW.out, if_neg hx0, if_neg hx0] at h1
            exact h1)
          go_wp2_with (go_at_call 64; refine (in_err R.2 _ _ _ VE.out).mono ?_; rintro e' w6 ⟨v6, rfl, b6, v6e⟩)
          go_ret
          obtain ⟨rfl, rfl⟩ : R.1 = D' ∧ R.2 = x := by have := HE.out; rw [this]; exact ⟨rfl, rfl⟩
          exact ⟨_, rfl, v6e, Z.out.1.below b6, Z.out.2.1.trans (b6.mono Z.out.1.le), Z.out.2.2.trans (fun b hb => b6.block b (Z.out.1.lt b hb))⟩
    · obtain rfl : k = L.length := by omega
      have hn1 : ¬ (L.length : Int) < (L.length : Int) := by omega
      have hX : barD E = (D', x) := by
        have h1 := HX.out
        rw [layR, HR.out.2.2.2.1, List.drop_length, layW, if_pos rfl] at h1
        exact h1
      have HV : Hid (∀ u, Below wr.heap.size wr u → Calls Tryz.prog 119 #[.pointer (some ⟨p, 0, none⟩)] u fun e w' => e = .returned (.int .i64 x) ∧ AtK B G w' p D' ∧ Below B u w' ∧ KeptG G u w') := Lib.hid (fun u hu => by
        have hB := Barrier_k (HR.out.1.below hu) (by have := HR.out.2.2.2.2.2; omega)
        rw [hX] at hB
        exact hB)
      clear hX hlt hk
      go_wp2_with (first
        | (go_at_call 119
           refine (HV.out _ ?_).mono ?_
           · first | exact Below.refl _ _ | exact (Below.refl _ _).drew
           rintro e' w4 ⟨rfl, A4, b4, g4⟩)
        | (go_at_call 65; refine (new_err x 0 _).mono ?_; rintro e' w5 ⟨v5, rfl, b5, v5e⟩)
        | (go_at_call 64; refine (in_err x _ _ _ v5e).mono ?_; rintro e' w6 ⟨v6, rfl, b6, v6e⟩))
      go_ret
      have A5 := A4.below b5
      have A6 := A5.below b6
      exact ⟨_, rfl, v6e, A6, HR.out.2.1.trans (b4.trans ((b5.mono A4.le).trans (b6.mono A5.le))), HR.out.2.2.1.trans (KeptG.trans g4 (fun b hb => (b6.block b (Nat.lt_of_lt_of_le (A4.lt b hb) b5.size)).trans (b5.block b (A4.lt b hb))))⟩
end Go.Proofs.YtbghglkplbnnkaaGreatDoor
