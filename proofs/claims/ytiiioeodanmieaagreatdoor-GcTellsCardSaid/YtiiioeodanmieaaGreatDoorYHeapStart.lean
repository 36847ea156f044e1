import Derived.Test.YtiiioeodanmieaaGreatDoorYHeapD
set_option linter.unusedVariables false
set_option linter.unusedSimpArgs false
namespace Go.Proofs.YtiiioeodanmieaaGreatDoor
open Go.RowKit Sec
open Go.Proofs.YtiiioeodanmieaaGreatDoor.Bk

def regsGo (h l : Int) (W : List Int) (rs : List Int) : Nat → Int × List Int × List Int
  | 0 => (0, [], W)
  | i + 1 => if (regsGo h l W rs i).1 = 0 then
      (folE h l (regsGo h l W rs i).2.2 (rs.getD i 0), (regsGo h l W rs i).2.1 ++ [folV h l (regsGo h l W rs i).2.2 (rs.getD i 0)], folW h l (regsGo h l W rs i).2.2 (rs.getD i 0))
    else regsGo h l W rs i
theorem regsGo_err {h l : Int} {W rs : List Int} {i : Nat} (e : (regsGo h l W rs i).1 ≠ 0) : ∀ j, i ≤ j → regsGo h l W rs j = regsGo h l W rs i
  | 0, hj => by
    obtain rfl : i = 0 := by omega
    rfl
  | j + 1, hj => by
    by_cases q : i = j + 1
    · rw [q]
    · have := regsGo_err e j (by omega)
      rw [regsGo, if_neg (by rw [this]; exact e), this]
theorem regsGo_len {h l : Int} {W rs : List Int} : ∀ i, (regsGo h l W rs i).1 = 0 → (regsGo h l W rs i).2.1.length = i
  | 0, _ => rfl
  | i + 1, e => by
    by_cases q : (regsGo h l W rs i).1 = 0
    · rw [regsGo, if_pos q, List.length_append, regsGo_len i q, List.length_singleton]
    · rw [regsGo, if_neg q] at e
      exact absurd e q
theorem Keeps.fol {h l : Int} {W V : List Int} (k : Keeps h l W V) (hWl : (W.length : Int) = 16 + 2 * h) (a : Int) : Keeps h l W (folW h l V a) :=
  have hV : (V.length : Int) = 16 + 2 * h := by rw [k.len]; exact hWl
  ⟨(folW_len h l V a).trans k.len, fol_ok hV k.ok a, fol_num hV k.num a, (fol_low hV a (by decide) (by decide)).trans k.sp, (fol_low hV a (by decide) (by decide)).trans k.gc, Int.le_trans k.fr (fol_fr hV a)⟩
theorem regsGo_keeps {h l : Int} {W V : List Int} (k : Keeps h l W V) (hWl : (W.length : Int) = 16 + 2 * h) (rs : List Int) : ∀ i, Keeps h l W (regsGo h l V rs i).2.2
  | 0 => k
  | i + 1 => by
    rw [regsGo]
    split
    · exact (regsGo_keeps k hWl rs i).fol hWl _
    · exact regsGo_keeps k hWl rs i
def turned (h : Int) (W : List Int) : List Int := (((W.set 0 (1 - hSp W)).set 1 (16 + (1 - hSp W) * h)).set 2 1).set 3 (16 + (1 - hSp W) * h)
theorem turned_keeps {h l : Int} {W : List Int} (hWl : (W.length : Int) = 16 + 2 * h) (hk : hOk h l W = true) (hn : NumC W) : Keeps h l (turned h W) (turned h W) ∧ (turned h W).length = W.length := by
  obtain ⟨f1, f2, f3, f4, f5⟩ := fine_yes hk
  have hq := geOk_yes f1
  have hl : 3 < W.length := by omega
  have hb : 0 ≤ (1 - hSp W) * h ∧ (1 - hSp W) * h ≤ h := by rcases f2 with e | e <;> rw [e] <;> omega
  have e0 : hSp (turned h W) = 1 - hSp W := by
    rw [hSp, turned, getD_set_ne (by decide), getD_set_ne (by decide), getD_set_ne (by decide), getD_set_eq (by omega)]
  have e1 : hFr (turned h W) = 16 + (1 - hSp W) * h := by
    rw [hFr, turned, getD_set_ne (by decide), getD_set_ne (by decide), getD_set_eq (by rw [List.length_set]; omega)]
  have e2 : hGc (turned h W) = 1 := by
    rw [hGc, turned, getD_set_ne (by decide), getD_set_eq (by rw [List.length_set, List.length_set]; omega)]
  have e3 : hSc (turned h W) = 16 + (1 - hSp W) * h := by
    rw [hSc, turned, getD_set_eq (by rw [List.length_set, List.length_set, List.length_set]; omega)]
  have hlen : (turned h W).length = W.length := by rw [turned, List.length_set, List.length_set, List.length_set, List.length_set]
  refine ⟨⟨rfl, ?_, ?_, rfl, rfl, Int.le_refl _⟩, hlen⟩
  · rw [hOk, e0, e1, e2, e3, fineB, f1, Bool.true_and, decide_eq_true (show 0 ≤ 1 - hSp W ∧ 1 - hSp W ≤ 1 ∧ (0 : Int) ≤ 1 ∧ (1 : Int) ≤ 1 by omega), Bool.true_and,
      decide_eq_true (show 16 + (1 - hSp W) * h ≤ 16 + (1 - hSp W) * h ∧ 16 + (1 - hSp W) * h ≤ 16 + (1 - hSp W) * h + h by omega), Bool.true_and,
      decide_eq_true (show (1 : Int) = 1 ∧ 16 + (1 - hSp W) * h ≤ 16 + (1 - hSp W) * h ∧ 16 + (1 - hSp W) * h ≤ 16 + (1 - hSp W) * h by omega), Bool.or_true]
  · exact (((hn.set 0 (by omega) (by omega)).set 1 (by omega) (by omega)).set 2 (by decide) (by decide)).set 3 (by omega) (by omega)
def str (h l : Int) (W rs : List Int) : Int × List Int × List Int :=
  if hOk h l W = false then (1, [], W) else if hGc W = 1 then (9, [], W)
  else if (slotsGo h l (turned h W) 7 8).1 = 0 then
    (if (regsGo h l (slotsGo h l (turned h W) 7 8).2 rs rs.length).1 = 0 then regsGo h l (slotsGo h l (turned h W) 7 8).2 rs rs.length
     else ((regsGo h l (slotsGo h l (turned h W) 7 8).2 rs rs.length).1, [], (regsGo h l (slotsGo h l (turned h W) 7 8).2 rs rs.length).2.2))
  else ((slotsGo h l (turned h W) 7 8).1, [], (slotsGo h l (turned h W) 7 8).2)
theorem HGo.lies {B g : Nat} {w w' : World} (x : HGo B g w w') {a : Option Addr} {cs : List Value} (h : LiesAt w a cs) (hg : ∀ b : Addr, a = some b → b.block ≠ g) : LiesAt w' a cs := fun j u hu => by
  obtain ⟨b, h1, h2, h3⟩ := h j u hu
  exact ⟨b, h1, Nat.lt_of_lt_of_le h2 x.b.size, by rw [World.cell?_of_block (w := w) (a := b.add j) (by rw [Bk.add_block]; exact x.k _ h2 (hg b h1))]; exact h3⟩
theorem seven_sub {i : Nat} (h : i < 8) : 7 - i < 8 - i := by omega
theorem str_walk {h l : Int} {W rs : List Int} {Z : Int × List Int × List Int} (hWl : (W.length : Int) = 16 + 2 * h) (hk : hOk h l W = true) (hn : NumC W) (hg : ¬ hGc W = 1) (hz : Z = str h l W rs) :
    ∃ (SG : Nat → Int × List Int) (RG : Nat → Int × List Int × List Int), SG 0 = (0, turned h W) ∧ (∀ i, (SG i).1 = 0 → SG (i + 1) = (celE h l (SG i).2 (8 + i), celW h l (SG i).2 (8 + i))) ∧ (∀ i, Keeps h l (turned h W) (SG i).2) ∧
      (∀ i, i < 8 → (SG (i + 1)).1 ≠ 0 → Z = ((SG (i + 1)).1, [], (SG (i + 1)).2)) ∧
      (RG 0 = (0, [], (SG 8).2)) ∧ (∀ i, (RG i).1 = 0 → RG (i + 1) = (folE h l (RG i).2.2 (rs.getD i 0), (RG i).2.1 ++ [folV h l (RG i).2.2 (rs.getD i 0)], folW h l (RG i).2.2 (rs.getD i 0))) ∧ (∀ i, Keeps h l (turned h W) (RG i).2.2) ∧
      (∀ i, (RG i).1 = 0 → (RG i).2.1.length = i) ∧ ((SG 8).1 = 0 → (∀ i, i < rs.length → (RG (i + 1)).1 ≠ 0 → Z = ((RG (i + 1)).1, [], (RG (i + 1)).2.2)) ∧ ((RG rs.length).1 = 0 → Z = RG rs.length)) := by
  obtain ⟨k0, hlen⟩ := turned_keeps hWl hk hn
  have hTl : ((turned h W).length : Int) = 16 + 2 * h := by rw [hlen]; exact hWl
  rw [str, if_neg (by rw [hk]; decide), if_neg hg] at hz
  refine ⟨slotsGo h l (turned h W) 7, regsGo h l (slotsGo h l (turned h W) 7 8).2 rs, rfl, fun i e => ?_, fun i => (slotsGo_keeps k0 hTl (by decide) i).1, fun i hi e => ?_, rfl, fun i e => by rw [regsGo, if_pos e], fun i => regsGo_keeps (slotsGo_keeps k0 hTl (by decide) 8).1 hTl rs i, fun i e => regsGo_len i e, fun e8 => ⟨fun i hi e => ?_, fun e => ?_⟩⟩
  · rw [slotsGo, if_pos e]
  · rw [slotsGo_err e 8 (by omega), if_neg e] at hz
    exact hz
  · rw [if_pos e8, regsGo_err e rs.length (by omega), if_neg e] at hz
    exact hz
  · rw [if_pos e8, if_pos e] at hz
    exact hz
section
variable {B : Nat} {w w' : World} {b g c : Nat} {h l : Int} {W : List Int}
theorem two_grown {o : Obj} {v : Value} {n : Nat} {xs : List Value} {e : TypeId} {w1 w4 : World} {U : List Int} (k : HIs B w1 b h l U g c) (go : HGo B g w w1) (own : (w1.alloc o).ownsRow w.heap.size e 1 v n xs) (hgr : (w1.alloc o).grownBy w4 v.ownBlock) (hb : b < w.heap.size) (hgl : g < w.heap.size) (hB : B ≤ w.heap.size) : HIs B w4 b h l U g c ∧ HGo B g w w4 := by
  have hs := go.b.size
  have ne : ∀ i, i < w.heap.size → some i ≠ v.ownBlock := fun i hi e => by
    have := (own.lt i e.symm).1
    omega
  have ba : Below w1.heap.size w1 (w1.alloc o) := (Below.refl _ _).alloc (Nat.le_refl _) _
  refine ⟨(k.below ba).of_blocks (fun i q => ?_), ⟨(go.b.trans (ba.mono (Nat.le_trans hB hs))).grown hgr (Nat.le_trans (Nat.le_trans hB hs) ba.size) (fun i hi => Nat.le_trans hB (own.lt i hi).1), fun i hi hn => ?_⟩⟩
  · have hi : i < w.heap.size := by rcases q with rfl | rfl <;> assumption
    exact hgr.block i (Nat.lt_of_lt_of_le hi (Nat.le_trans hs ba.size)) (ne i hi)
  · exact ((hgr.block i (Nat.lt_of_lt_of_le hi (Nat.le_trans hs ba.size)) (ne i hi)).trans (ba.block i (Nat.lt_of_lt_of_le hi hs))).trans (go.k i hi hn)
set_option maxRecDepth 100000 in
set_option maxHeartbeats 16000000 in
theorem rstart_is (k : HIs B w b h l W g c) (hWl : (W.length : Int) = 16 + 2 * h) (hr : NumC W) (a : Option Addr) (rs : List Int) (ca : Nat) (hl : LiesAt w a (vals rs)) (hag : ∀ x : Addr, a = some x → x.block ≠ g ∨ rs = []) (hrl : rs.length ≤ 1000) : Calls Tryz.prog 17 #[.pointer (some ⟨b, 0, none⟩), .slice a rs.length ca] w fun e w' => ∃ v, e = .returned (.tuple #[v, .int .i64 (str h l W rs).1]) ∧ HIs B w' b h l (str h l W rs).2.2 g c ∧ HGo B g w w' ∧ w'.ownsRow w.heap.size 3 1 v (str h l W rs).2.1.length (vals (str h l W rs).2.1) := by
  obtain ⟨i0, hi, hz0, hz1, hz2⟩ := info_parts (show (Tryz.prog.info? 3).map (fun i => (i.zero, i.size, i.bytes)) = some (some (.int .i64 0), 1, 8) by kernel_rfl)
  have HInf := Lib.hid (And.intro hi (And.intro hz0 (And.intro hz1 hz2)))
  clear hi hz0 hz1 hz2
  have HR := Lib.hid (rright_is k)
  have HK := Lib.hid k
  have HLe := Lib.hid k.le'
  cases q1 : hOk h l W with
  | false =>
    rw [show str h l W rs = (1, [], W) from if_pos q1]
    rw [q1] at HR
    clear k q1 hWl hr
    go_enter Tryz.func17, Tryz.ntmps17
    go_wp2_with (go_at_call 56; refine HR.out.mono ?_; rintro e w1 ⟨rfl, b1⟩; have H1 := Lib.hid b1; clear b1)
    all_goals go_ret2
    all_goals exact ⟨_, rfl, HK.out.below H1.out, HGo.of_below HLe.out H1.out, World.ownsRow_nil _ _ _ _⟩
  | true =>
    rw [q1] at HR
    have hge := k.ge
    have HD := Lib.hid (fun u (y : Below w.heap.size w u) => (show u.cell? ⟨b, 2, none⟩ = some (.slice (some ⟨g, 0, none⟩) W.length c) ∧ u.cell? ⟨g, 2, none⟩ = some (.int .i64 (hGc W)) from ⟨(k.below y).cs.2.2, ((k.below y).at (i := 2) (by omega)).1⟩))
    have y2 : (2 : Int) < (W.length : Int) := by omega
    by_cases hg1 : hGc W = 1
    · rw [show str h l W rs = (9, [], W) from by rw [str, if_neg (by rw [q1]; decide), if_pos hg1]]
      rw [hg1] at HD
      clear k q1 hWl hr hge hg1
      go_enter Tryz.func17, Tryz.ntmps17
      go_wp2_with (go_at_call 56; refine HR.out.mono ?_; rintro e w1 ⟨rfl, b1⟩; obtain ⟨d0, d1⟩ := HD.out _ b1; have H1 := Lib.hid b1; clear b1)
      all_goals go_ret2
      all_goals exact ⟨_, rfl, HK.out.below H1.out, HGo.of_below HLe.out H1.out, World.ownsRow_nil _ _ _ _⟩
    · obtain ⟨f1, f2, _, f4, _⟩ := fine_yes q1
      have hq := geOk_yes f1
      have f3 : (1 - hSp W) = 0 ∨ (1 - hSp W) = 1 := by omega
      have HB := Lib.hid (fun u => rbase_is h l (1 - hSp W) f1 f3 u)
      rw [ge_base f1 f3] at HB
      have hwx : IntKind.i64.wrap (1 - hSp W) = 1 - hSp W := by rw [IntKind.wrap_i64]; omega
      obtain ⟨Z, hZ⟩ : ∃ Z, Z = str h l W rs := ⟨_, rfl⟩
      rw [← hZ]
      obtain ⟨SG, RG, hS0, hSS, hSK, hSE, hR0, hRS, hRK, hRL, hRE⟩ := str_walk hWl q1 hr hg1 hZ
      have HS := Lib.hid (And.intro hS0 (And.intro hSS (And.intro hSK hSE)))
      have HRG := Lib.hid (And.intro hR0 (And.intro hRS (And.intro hRK (And.intro hRL hRE))))
      have hTl : Hid ((turned h W).length = W.length ∧ (W.length : Int) = 16 + 2 * h) := Lib.hid ⟨(turned_keeps hWl q1 hr).2, hWl⟩
      have HT : Hid (turned h W = (((W.set 0 (1 - hSp W)).set 1 (16 + (1 - hSp W) * h)).set 2 1).set 3 (16 + (1 - hSp W) * h)) := Lib.hid rfl
      have HDD := Lib.hid (fun u (y : Below w.heap.size w u) => (show u.cell? ⟨b, 0, none⟩ = some (.int .i64 h) ∧ u.cell? ⟨b, 1, none⟩ = some (.int .i64 l) ∧ u.cell? ⟨b, 2, none⟩ = some (.slice (some ⟨g, 0, none⟩) W.length c) ∧ u.cell? ⟨g, 0, none⟩ = some (.int .i64 (hSp W)) from ⟨(k.below y).cs.1, (k.below y).cs.2.1, (k.below y).cs.2.2, ((k.below y).at (i := 0) (by omega)).1⟩))
      have HF := Lib.hid (fun u (y : Below w.heap.size w u) (i : Nat) (hi : i < 4) => ((k.below y).at (i := i) (by omega)))
      have hgb := k.ne
      have HL := Lib.hid (And.intro hl hag)
      have hgi : (16 : Int) ≤ (W.length : Int) := by omega
      have y0 : (0 : Int) < (W.length : Int) := by omega
      have y0n : 0 < W.length := by omega
      have y1 : (1 : Int) < (W.length : Int) := by omega
      have y3 : (3 : Int) < (W.length : Int) := by omega
      have hgc2 : ((hGc W) == 1) = false := beq_eq_false_iff_ne.2 hg1
      clear k q1 hWl hr f1 f2 f3 f4 hq hZ hS0 hSS hSK hSE hR0 hRS hRK hRL hRE hl hag
      obtain ⟨T, hT⟩ : ∃ T, T = turned h W := ⟨_, rfl⟩
      rw [← hT] at HS HRG hTl HT
      clear hT
      generalize 16 + (1 - hSp W) * h = base at *
      generalize hSp W = x0 at *
      generalize hGc W = x2 at *
      go_enter Tryz.func17, Tryz.ntmps17
      go_wp2_with (go_at_call 56; refine HR.out.mono ?_; rintro e w1 ⟨rfl, b1⟩; obtain ⟨d0, d1⟩ := HD.out _ b1; have H1 := Lib.hid b1; clear b1)
      go_region_held3 (fun u => u.cell? ⟨b, 0, none⟩ = some (.int .i64 h) ∧ u.cell? ⟨b, 1, none⟩ = some (.int .i64 l) ∧ u.cell? ⟨b, 2, none⟩ = some (.slice (some ⟨g, 0, none⟩) W.length c) ∧ u.cell? ⟨g, 0, none⟩ = some (.int .i64 x0)) (first
          | assumption
          | exact HDD.out _ H1.out
          | exact HDD.out _ H1.out.drew
          | exact HDD.out _ H2.out) (first
        | (go_at_call 57
           refine (HB.out _).mono ?_
           rintro e' w2 ⟨rfl, b2⟩
           have H2 := Lib.hid ((by first | exact H1.out | exact H1.out.drew : Below w.heap.size w _).trans (b2.mono (by first | exact H1.out.size | exact H1.out.drew.size)))
           clear b2))
      obtain ⟨c0, c1, c2, _⟩ := HDD.out _ H2.out
      obtain ⟨e0, e0'⟩ := HF.out _ H2.out 0 (by decide)
      obtain ⟨e1, e1'⟩ := HF.out _ H2.out 1 (by decide)
      obtain ⟨e2, e2'⟩ := HF.out _ H2.out 2 (by decide)
      obtain ⟨e3, e3'⟩ := HF.out _ H2.out 3 (by decide)
      have e00 := (HDD.out _ H2.out).2.2.2
      have K2 := Lib.hid (And.intro (HK.out.below H2.out) (HGo.of_below (g := g) HLe.out H2.out))
      generalize W.getD 0 0 = g0 at *
      generalize W.getD 1 0 = g1 at *
      generalize W.getD 2 0 = g2 at *
      generalize W.getD 3 0 = g3 at *
      clear e0 d0 d1
      go_wp2_with fail
      go_region
      have K3 : Hid (HIs B ((((w2.setCell ⟨g, 0, none⟩ (.int .i64 (1 - x0))).setCell ⟨g, 1, none⟩ (.int .i64 base)).setCell ⟨g, 2, none⟩ (.int .i64 1)).setCell ⟨g, 3, none⟩ (.int .i64 base)).drew b h l T g c ∧ HGo B g w ((((w2.setCell ⟨g, 0, none⟩ (.int .i64 (1 - x0))).setCell ⟨g, 1, none⟩ (.int .i64 base)).setCell ⟨g, 2, none⟩ (.int .i64 1)).setCell ⟨g, 3, none⟩ (.int .i64 base)).drew) := Lib.hid ⟨by
          rw [HT.out]
          exact ((((K2.out.1.set 0 _).set 1 _).set 2 _).set 3 _).drew, by
          have hgB := K2.out.1.glt.1
          exact ((((K2.out.2.trans (HGo.set hgB _ _)).trans (HGo.set hgB _ _)).trans (HGo.set hgB _ _)).trans (HGo.set hgB _ _)).drew⟩
      generalize ((((w2.setCell ⟨g, 0, none⟩ (.int .i64 (1 - x0))).setCell ⟨g, 1, none⟩ (.int .i64 base)).setCell ⟨g, 2, none⟩ (.int .i64 1)).setCell ⟨g, 3, none⟩ (.int .i64 base)).drew = w3 at *
      clear c0 c1 c2 e0' e1 e1' e2 e2' e3 e3' e00 K2 HD HDD HF HB HT H1 H2
      go_wp2_with fail
      go_loopw [7] (fun x wx => ∃ i : Nat, i ≤ 8 ∧ x = .int .i64 (i : Int) ∧ Hid ((SG i).1 = 0) ∧ Hid (HIs B wx b h l (SG i).2 g c ∧ HGo B g w wx)) (fun x _ => 8 - (intOf x).toNat)
      case atStart => exact ⟨0, Nat.zero_le _, rfl, Lib.hid (by rw [HS.out.1]), Lib.hid (by rw [HS.out.1]; exact K3.out)⟩
      case round =>
        clear K3
        obtain ⟨i, hi, rfl, H0, HI⟩ := hrel
        by_cases hlt : i < 8
        · have hi1 : (i : Int) < 8 := Int.ofNat_lt.mpr hlt
          have hkl := (HS.out.2.2.1 i).len
          have HC := Lib.hid (rcell_is HI.out.1 (by rw [hkl, hTl.out.1]; exact hTl.out.2) (HS.out.2.2.1 i).num.ints (8 + i) (by rw [hkl, hTl.out.1]; omega))
          rw [show ((8 + i : Nat) : Int) = 8 + (i : Int) by omega] at HC
          have hw : wrap64 (8 + (i : Int)) = 8 + (i : Int) := w64_in (by omega) (by omega)
          have HN := Lib.hid (HS.out.2.1 i H0.out)
          have HE := Lib.hid (HS.out.2.2.2 i hlt)
          rw [HN.out] at HE
          clear hkl
          generalize celV h l (SG i).2 (8 + i) = cv at *
          generalize celE h l (SG i).2 (8 + i) = ee at *
          generalize celW h l (SG i).2 (8 + i) = U at *
          by_cases hee : ee = 0
          · subst hee
            clear HE
            go_wp2_with (go_at_call 58
                         refine HC.out.mono ?_
                         rintro e w2 ⟨rfl, k1, o1⟩
                         have H2 := Lib.hid (And.intro k1 (HI.out.2.trans o1))
                         clear k1 o1)
            exact ⟨⟨i + 1, hlt, by go_num, Lib.hid (by rw [HN.out]), Lib.hid (by rw [HN.out]; exact H2.out)⟩, by simp [intOf]; exact seven_sub hlt⟩
          · as_aux_lemma =>
            have HX := Lib.hid (HE.out hee)
            have hee2 : (ee != 0) = true := by simpa using hee
            clear HE
            go_wp2_with (go_at_call 58
                         refine HC.out.mono ?_
                         rintro e w2 ⟨rfl, k1, o1⟩
                         have H2 := Lib.hid (And.intro k1 (HI.out.2.trans o1))
                         clear k1 o1)
            all_goals go_ret2
            all_goals exact ⟨_, by rw [HX.out]; rfl, by rw [HX.out]; exact H2.out.1, H2.out.2, by rw [HX.out]; exact World.ownsRow_nil _ _ _ _⟩
        · have h8 : i = 8 := Nat.le_antisymm hi (Nat.le_of_not_lt hlt)
          have hi8 : ¬ (i : Int) < 8 := fun e => hlt (Int.ofNat_lt.mp e)
          rw [h8] at H0 HI
          have HQ := Lib.hid (HRG.out.2.2.2.2 H0.out)
          clear hlt hi h8
          go_wp2_with fail
          generalize wr = wo at *
          go_loopw [10, 11] (fun v x wx => ∃ j : Nat, j ≤ rs.length ∧ x = .int .i64 (j : Int) ∧ Hid ((RG j).1 = 0) ∧ Hid (HIs B wx b h l (RG j).2.2 g c ∧ HGo B g w wx) ∧ Hid (wx.ownsRow w.heap.size 3 1 v j (vals (RG j).2.1))) (fun _ x _ => rs.length - (intOf x).toNat)
          case atStart => exact ⟨0, Nat.zero_le _, rfl, Lib.hid (by rw [HRG.out.1]), Lib.hid (by rw [HRG.out.1]; exact HI.out), Lib.hid (by rw [HRG.out.1]; exact World.ownsRow_nil _ _ _ _)⟩
          case round =>
            clear HI
            obtain ⟨j, hj, rfl, H0, HI, HO⟩ := hrel
            by_cases hlt : j < rs.length
            · have hi1 : (j : Int) < (rs.length : Int) := Int.ofNat_lt.mpr hlt
              have hkl := (HRG.out.2.2.1 j).len
              obtain ⟨b1, rfl, _, hc⟩ := (HI.out.2.lies HL.out.1 (fun b e => (HL.out.2 b e).resolve_right (fun z => by rw [z] at hlt; exact absurd hlt (Nat.not_lt_zero _)))) j (.int .i64 (rs.getD j 0)) (by rw [vals, List.getElem?_map, List.getD_eq_getElem?_getD, List.getElem?_eq_getElem hlt]; rfl)
              have HC := Lib.hid (rfollow_is HI.out.1 (by rw [hkl, hTl.out.1]; exact hTl.out.2) (HRG.out.2.2.1 j).num.ints (rs.getD j 0))
              have HN := Lib.hid (HRG.out.2.1 j H0.out)
              have HE := Lib.hid (HQ.out.1 j hlt)
              have HRl := Lib.hid (HRG.out.2.2.2.1 j H0.out)
              rw [HN.out] at HE
              clear hkl
              generalize folV h l (RG j).2.2 (rs.getD j 0) = cv at *
              generalize folE h l (RG j).2.2 (rs.getD j 0) = ee at *
              generalize folW h l (RG j).2.2 (rs.getD j 0) = U at *
              generalize rs.getD j 0 = rv at *
              by_cases hee : ee = 0
              · subst hee
                clear HE
                have hj1 : j ≤ 1000 := Nat.le_trans hj hrl
                go_wp2_with (first
                  | (go_at_call 59
                     refine HC.out.mono ?_
                     rintro e w2 ⟨rfl, k1, o1⟩
                     have HO2 := Lib.hid (hb_same HO.out (fun q hq => o1.k q (HO.out.lt q hq).2 (fun e => Nat.lt_irrefl _ (Nat.lt_of_lt_of_le (e ▸ HK.out.glt.2) (HO.out.lt q hq).1))))
                     have H2 := Lib.hid (And.intro k1 (HI.out.2.trans o1))
                     clear k1 o1)
                  | (refine wpList_append_lies _ rfl (.tmp 97) (.tmp 99) 25 rfl w.heap.size 3 i0 _ 1 8 Tryz.underlying25 HInf.out.1 HInf.out.2.1 HInf.out.2.2.1 HInf.out.2.2.2 rfl (by omega) u10 j (vals (RG j).2.1) rfl (HO2.out.alloc _) _ 1 1 [.int .i64 cv] rfl rfl (by exact World.news_of_block (heap_alloc_last _ _)) (by intro u hu; simp at hu; rw [hu]; rfl) (by omega) (by unfold maxLen; omega) (by omega) (by simp; have := HI.out.2.b.size; have := H2.out.2.b.size; have := HLe.out; omega) _ rfl ?_
                     intro g4 cap w4 hown4 hgr4 hat4 hlt4
                     have HY := Lib.hid (And.intro hown4 hgr4)
                     clear hown4 hgr4 hat4 hlt4))
                have HG4 := two_grown H2.out.1 H2.out.2 (HO2.out.alloc _) HY.out.2 HK.out.lt HK.out.glt.2 HLe.out
                exact ⟨⟨j + 1, hlt, by go_num, Lib.hid (by rw [HN.out]), Lib.hid (by rw [HN.out]; exact HG4), Lib.hid (by rw [HN.out]; simpa [vals] using HY.out.1)⟩, by simp [intOf]; exact Nat.sub_lt_sub_left hlt (Nat.lt_succ_self j)⟩
              · as_aux_lemma =>
                have HX := Lib.hid (HE.out hee)
                have hee2 : (ee != 0) = true := by simpa using hee
                clear HE
                go_wp2_with (go_at_call 59
                             refine HC.out.mono ?_
                             rintro e w2 ⟨rfl, k1, o1⟩
                             have H2 := Lib.hid (And.intro k1 (HI.out.2.trans o1))
                             clear k1 o1)
                all_goals go_ret2
                all_goals exact ⟨_, by rw [HX.out]; rfl, by rw [HX.out]; exact H2.out.1, H2.out.2, by rw [HX.out]; exact World.ownsRow_nil _ _ _ _⟩
            · obtain rfl : j = rs.length := Nat.le_antisymm hj (Nat.le_of_not_lt hlt)
              have hnl : ¬ (rs.length : Int) < (rs.length : Int) := Int.lt_irrefl _
              have HX := Lib.hid (HQ.out.2 H0.out)
              have HRl := Lib.hid (HRG.out.2.2.2.1 _ H0.out)
              clear hlt hj
              go_wp2_with fail
              go_ret2
              exact ⟨_, by rw [HX.out, H0.out]; rfl, by rw [HX.out]; exact HI.out.1, HI.out.2, by rw [HX.out, HRl.out]; exact HO.out⟩
end
end Go.Proofs.YtiiioeodanmieaaGreatDoor
