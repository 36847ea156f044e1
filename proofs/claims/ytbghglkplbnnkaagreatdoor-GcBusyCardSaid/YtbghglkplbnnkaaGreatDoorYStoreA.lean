import Derived.Test.YtbghglkplbnnkaaGreatDoorYGeo
import Derived.Test.YtbghglkplbnnkaaGreatDoorYLoopB
import Derived.Test.YtbghglkplbnnkaaGreatDoorYPage
import Derived.Test.YtbghglkplbnnkaaGreatDoorYCrown
import Derived.Test.YtbghglkplbnnkaaGreatDoorYLoopC
set_option linter.unusedVariables false
set_option linter.unusedSimpArgs false
-- StoreData
namespace Go.Proofs.YtbghglkplbnnkaaGreatDoor
open Go.RowKit Sec
open Go.Proofs.YtbghglkplbnnkaaGreatDoor.Bk

theorem LogIs.near {D D' : Dsk} {fr n hd nx : Nat} {ep : Int} {all : List Chg} (h : LogIs D fr n hd nx ep all) (h1 : D'.on = true) (hl : fr + n ≤ D'.now.length) (h2 : ∀ k, k < n → D'.now[fr + k]? = D.now[fr + k]?) : LogIs D' fr n hd nx ep all := by
  refine ⟨h1, h.n1, hl, h.ord, h.cap, ?_, fun k b hk hb => h.old k b hk (by rw [← h2 k hk]; exact hb)⟩
  obtain ⟨E, e1, e2, e3⟩ := h.has
  exact ⟨E, e1, fun i e he => by
    have := e2 i e he
    rwa [← h2 _ (Nat.mod_lt _ (by have := h.n1; omega))] at this, e3⟩

def putC (C : List Int) (x : Chg) : List Int := if 0 ≤ x.c ∧ x.c < C.length then C.set x.c.toNat x.v else C
def applyL (C : List Int) (l : List Chg) : List Int := l.foldl putC C
theorem putC_len (C : List Int) (x : Chg) : (putC C x).length = C.length := by
  unfold putC
  split
  · rw [List.length_set]
  · rfl
theorem applyL_len : ∀ (l : List Chg) (C : List Int), (applyL C l).length = C.length
  | [], _ => rfl
  | x :: l, C => by
    show (applyL (putC C x) l).length = _
    rw [applyL_len l, putC_len]
theorem applyL_app (C : List Int) (l m : List Chg) : applyL C (l ++ m) = applyL (applyL C l) m := List.foldl_append
theorem applyL_one (C : List Int) (l : List Chg) (x : Chg) : applyL C (l ++ [x]) = putC (applyL C l) x := applyL_app C l [x]
def pgCells (C : List Int) (no : Nat) : List Int := (List.range 16).map fun j => C.getD (16 * no + j) 0
theorem pgCells_len (C : List Int) (no : Nat) : (pgCells C no).length = 16 := by simp [pgCells]
theorem pgCells_at (C : List Int) (k : Nat) : (pgCells C (k / 16))[k % 16]? = some (C.getD k 0) := by
  have h : k % 16 < 16 := Nat.mod_lt _ (by omega)
  have e : 16 * (k / 16) + k % 16 = k := Nat.div_add_mod k 16
  simp [pgCells, h, e]
def PagesAt (s : List ByteArray) (v : Nat) (C : List Int) (P : Nat) : Prop := ∀ no, no < P → ∀ k, k < 3 → s[2 + 6 * no + 3 * (v % 2) + k]? = (pgL no v (pgCells C no))[k]?
theorem PagesAt.near {s s' : List ByteArray} {v : Nat} {C : List Int} {P : Nat} (h : PagesAt s v C P) (q : ∀ no, no < P → ∀ k, k < 3 → s'[2 + 6 * no + 3 * (v % 2) + k]? = s[2 + 6 * no + 3 * (v % 2) + k]?) : PagesAt s' v C P :=
  fun no hn k hk => (q no hn k hk).trans (h no hn k hk)
end Go.Proofs.YtbghglkplbnnkaaGreatDoor
-- StoreOn
namespace Go.Proofs.YtbghglkplbnnkaaGreatDoor
open Go.RowKit Sec
open Go.Proofs.YtbghglkplbnnkaaGreatDoor.Bk

def crS (q hd : Nat) (e : Int) (H L : Nat) : Sup := ⟨q, hd, e, H, L⟩
structure Good (s : List ByteArray) (H L P q hd : Nat) (e : Int) (C : List Int) : Prop where
  len : 2 + 6 * P + L ≤ s.length
  me : s[q % 2]? = some (crB (crS q hd e H L))
  ok : supOk (crS q hd e H L) = true
  q1 : 1 ≤ q
  other : ∃ hd' e', s[(q + 1) % 2]? = some (crB (crS (q - 1) hd' e' H L)) ∧ supOk (crS (q - 1) hd' e' H L) = true
  pages : PagesAt s q C P
  cl : C.length = 16 + 2 * H
  fine : ∀ c ∈ C, 0 ≤ c ∧ c < 4294967296
  pc : P = (16 + 2 * H + 15) / 16
def OfPages (v : Nat) (C : List Int) (P : Nat) (y : Nat × ByteArray) : Prop := ∃ no k, no < P ∧ k < 3 ∧ y.1 = 2 + 6 * no + 3 * (v % 2) + k ∧ (pgL no v (pgCells C no))[k]? = some y.2
section
variable {s s' : List ByteArray} {H L P q hd : Nat} {e : Int} {C : List Int}
theorem Good.near (g : Good s H L P q hd e C) (hl : s'.length = s.length) (h0 : ∀ k, k < 2 → s'[k]? = s[k]?) (hp : ∀ no, no < P → ∀ k, k < 3 → s'[2 + 6 * no + 3 * (q % 2) + k]? = s[2 + 6 * no + 3 * (q % 2) + k]?) : Good s' H L P q hd e C := by
  obtain ⟨hd', e', o1, o2⟩ := g.other
  exact ⟨by rw [hl]; exact g.len, (h0 _ (Nat.mod_lt _ (by omega))).trans g.me, g.ok, g.q1, ⟨hd', e', (h0 _ (Nat.mod_lt _ (by omega))).trans o1, o2⟩, g.pages.near hp, g.cl, g.fine, g.pc⟩
theorem Good.part (g : Good s H L P q hd e C) {C' : List Int} (hl : s'.length = s.length) (h : ∀ k, k < s.length → s'[k]? = s[k]? ∨ ∃ y, OfPages (q + 1) C' P y ∧ y.1 = k ∧ s'[k]? = some y.2) : Good s' H L P q hd e C := by
  have hlen := g.len
  refine g.near hl (fun k hk => ?_) (fun no hn k hk => ?_)
  · rcases h k (by omega) with r | ⟨y, ⟨no, j, _, _, hy, _⟩, hk', _⟩
    · exact r
    · omega
  · rcases h (2 + 6 * no + 3 * (q % 2) + k) (by omega) with r | ⟨y, ⟨no', j, _, _, hy, _⟩, hk', _⟩
    · exact r
    · omega
theorem Good.mark (g : Good s H L P q hd e C) {C' : List Int} {nx : Nat} (hp : PagesAt s (q + 1) C' P) (hc : C'.length = 16 + 2 * H) (hf : ∀ c ∈ C', 0 ≤ c ∧ c < 4294967296) (hok : supOk (crS (q + 1) nx (e + 1) H L) = true) :
    Good (s.set ((q + 1) % 2) (crB (crS (q + 1) nx (e + 1) H L))) H L P (q + 1) nx (e + 1) C' := by
  have hlen := g.len
  have hP := g.pc
  have hm : (q + 1) % 2 < 2 := Nat.mod_lt _ (by omega)
  refine ⟨by rw [List.length_set]; exact hlen, by rw [List.getElem?_set_self (by omega)], hok, by omega, ⟨hd, e, ?_, ?_⟩, ?_, hc, hf, hP⟩
  · rw [List.getElem?_set_ne (by omega), show (q + 1 + 1) % 2 = q % 2 by omega, Nat.add_sub_cancel]
    exact g.me
  · rw [Nat.add_sub_cancel]
    exact g.ok
  · exact hp.near fun no hn k hk => by rw [List.getElem?_set_ne (by omega)]
theorem Good.newer (g : Good s H L P q hd e C) {a b : ByteArray} (ha : s[0]? = some a) (hb : s[1]? = some b) :
    crIs a = true ∧ crIs b = true ∧ newS a b = crS q hd e H L ∧ newN a b = ((q % 2 : Nat) : Int) := by
  have hq := g.q1
  have hme := g.me
  obtain ⟨hd', e', o1, o2⟩ := g.other
  obtain ⟨m1, m2⟩ := cr_put g.ok
  obtain ⟨n1, n2⟩ := cr_put o2
  have c1 : cgetS (crB (crS q hd e H L)) = crS q hd e H L := by rw [cgetS_yes m1, m2]
  have c2 : cgetS (crB (crS (q - 1) hd' e' H L)) = crS (q - 1) hd' e' H L := by rw [cgetS_yes n1, n2]
  rcases Nat.mod_two_eq_zero_or_one q with r | r
  · rw [r, ha] at hme
    rw [show (q + 1) % 2 = 1 by omega, hb] at o1
    obtain rfl := Option.some.inj hme
    obtain rfl := Option.some.inj o1
    have f : nwF (crIs (crB (crS q hd e H L))) (crIs (crB (crS (q - 1) hd' e' H L))) (cgetS (crB (crS q hd e H L))) (cgetS (crB (crS (q - 1) hd' e' H L))) = true := by
      rw [nwF, m1, n1, c1, c2]
      have : (((q - 1 : Nat) : Int) ≤ (q : Int)) := by omega
      simp [crS, this]
    exact ⟨m1, n1, by rw [newS, nwS, if_pos f, c1], by rw [newN, nwN, if_pos f, r]; rfl⟩
  · rw [r, hb] at hme
    rw [show (q + 1) % 2 = 0 by omega, ha] at o1
    obtain rfl := Option.some.inj hme
    obtain rfl := Option.some.inj o1
    have f : nwF (crIs (crB (crS (q - 1) hd' e' H L))) (crIs (crB (crS q hd e H L))) (cgetS (crB (crS (q - 1) hd' e' H L))) (cgetS (crB (crS q hd e H L))) = false := by
      rw [nwF, m1, n1, c1, c2]
      have : ¬ ((q : Int) ≤ ((q - 1 : Nat) : Int)) := by omega
      simp [crS, this]
    exact ⟨n1, m1, by rw [newS, nwS, if_neg (by rw [f]; decide), c1], by rw [newN, nwN, if_neg (by rw [f]; decide), if_pos m1, r]; rfl⟩

theorem getD_fine (hf : ∀ c ∈ C, 0 ≤ c ∧ c < 4294967296) (k : Nat) : 0 ≤ C.getD k 0 ∧ C.getD k 0 < 4294967296 := by
  rcases Nat.lt_or_ge k C.length with r | r
  · rw [List.getD_eq_getElem?_getD, List.getElem?_eq_getElem r, Option.getD_some]
    exact hf _ (List.getElem_mem r)
  · rw [List.getD_eq_getElem?_getD, List.getElem?_eq_none r, Option.getD_none]
    omega
theorem pg_fine (hf : ∀ c ∈ C, 0 ≤ c ∧ c < 4294967296) {no v : Nat} (hn : no ≤ 1000) (hv : v < 4294967296) : pgOk no v (pgCells C no) = true := by
  refine decide_eq_true ⟨by omega, by omega, ?_, pgCells_len C no, ?_⟩
  · rw [outI, decide_eq_true (by omega)]
    rfl
  · rw [List.any_eq_false]
    intro x hx
    obtain ⟨j, _, rfl⟩ := List.mem_map.1 hx
    have := getD_fine hf (16 * no + j)
    rw [outI, decide_eq_true this]
    decide
theorem Good.page (g : Good s H L P q hd e C) (hq : q < 4294967296) (hP : P ≤ 1000) {no : Nat} (hn : no < P) :
    ∃ a b c, s[2 + 6 * no + 3 * (q % 2)]? = some a ∧ s[2 + 6 * no + 3 * (q % 2) + 1]? = some b ∧ s[2 + 6 * no + 3 * (q % 2) + 2]? = some c ∧ atIs no q [a, b, c] = true ∧ atC no q [a, b, c] = pgCells C no := by
  have ok := pg_fine g.fine (no := no) (v := q) (by omega) hq
  have p0 := g.pages no hn 0 (by omega)
  have p1 := g.pages no hn 1 (by omega)
  have p2 := g.pages no hn 2 (by omega)
  obtain ⟨i1, i2, i3, i4⟩ := get_put ok
  rw [pgL_yes ok] at p0 p1 p2
  refine ⟨_, _, _, p0, p1, p2, ?_⟩
  show atIs no q (parts (pgB no q (pgCells C no))) = true ∧ atC no q (parts (pgB no q (pgCells C no))) = _
  rw [← pgL_yes ok]
  obtain ⟨y1, y2⟩ := at_yes ⟨i1, i2, i3⟩
  exact ⟨y1, by rw [y2, i4]⟩
def joinP (C : List Int) (P : Nat) : List Int := (List.range P).flatMap (pgCells C)
theorem joinP_next (C : List Int) (P : Nat) : joinP C (P + 1) = joinP C P ++ pgCells C P := by simp [joinP, List.range_succ]
theorem joinP_len (C : List Int) : ∀ P, (joinP C P).length = 16 * P
  | 0 => rfl
  | P + 1 => by rw [joinP_next, List.length_append, joinP_len C P, pgCells_len]; omega
theorem joinP_at (C : List Int) : ∀ P k, k < 16 * P → (joinP C P)[k]? = some (C.getD k 0)
  | 0, k, h => by omega
  | P + 1, k, h => by
    rw [joinP_next]
    rcases Nat.lt_or_ge k (16 * P) with r | r
    · rw [List.getElem?_append_left (by rw [joinP_len]; exact r)]
      exact joinP_at C P k r
    · rw [List.getElem?_append_right (by rw [joinP_len]; exact r), joinP_len]
      have e1 : k / 16 = P := by omega
      have e2 : k - 16 * P = k % 16 := by omega
      have := pgCells_at C k
      rw [e1] at this
      rw [e2]
      exact this
theorem joinP_take (C : List Int) (P : Nat) (h : C.length ≤ 16 * P) : (joinP C P).take C.length = C := by
  apply List.ext_getElem?
  intro k
  rcases Nat.lt_or_ge k C.length with r | r
  · rw [List.getElem?_take, if_pos r, joinP_at C P k (by omega), List.getElem?_eq_getElem r]
    simp [r]
  · rw [List.getElem?_take, if_neg (by omega), List.getElem?_eq_none r]
end
end Go.Proofs.YtbghglkplbnnkaaGreatDoor
-- StoreWr
namespace Go.Proofs.YtbghglkplbnnkaaGreatDoor
open Go.RowKit Sec
open Go.Proofs.YtbghglkplbnnkaaGreatDoor.Bk

structure Wr where
  k : Int
  b : ByteArray
def Wr.cells (x : Wr) : List Value := [.int .i64 x.k, .string x.b]
def Wr.val (x : Wr) : Value := .agg #[.int .i64 x.k, .string x.b]
theorem Wr.len (x : Wr) : x.cells.length = 2 := rfl
theorem Wr.one (x : Wr) : ∀ u ∈ x.cells, u.oneCell' = true := fun u hu => by
  simp only [Wr.cells, List.mem_cons, List.mem_nil_iff, or_false] at hu
  rcases hu with rfl | rfl <;> rfl
theorem wrInfo : (Tryz.prog.info? 149).map (fun i => (i.zero, i.size, i.bytes)) = some (some (.agg #[.int .i64 0, .string ByteArray.empty]), 2, 24) := by kernel_rfl

def layW : Dsk → List Wr → Dsk × Int
  | D, [] => (D, 0)
  | D, x :: r => if (wrD D x.k x.b).2 = 0 then layW (wrD D x.k x.b).1 r else wrD D x.k x.b
def layR (D : Dsk) (l : List Wr) : Dsk × Int := if (layW D l).2 = 0 then barD (layW D l).1 else layW D l
theorem layW_at (D : Dsk) (L : List Wr) (k : Nat) (h : k < L.length) : layW D (L.drop k) =
    if (wrD D L[k].k L[k].b).2 = 0 then layW (wrD D L[k].k L[k].b).1 (L.drop (k + 1)) else wrD D L[k].k L[k].b := by
  rw [List.drop_eq_getElem_cons h, layW]
def Wr.put (x : Wr) : Nat × ByteArray := (x.k.toNat, x.b)
def Wr.fits (n : Nat) (x : Wr) : Prop := 0 ≤ x.k ∧ x.k < n ∧ x.b.size = 32
theorem layW_all : ∀ (L : List Wr) (D : Dsk), D.on = true → (∀ x ∈ L, x.fits D.lasts.length) → ∃ D2 x, layW D L = (D2, x) ∧
    ((x = 0 ∧ D2.on = true ∧ D2.now = setAll D.now (L.map Wr.put) ∧ D2.lasts = D.lasts ∧ D2.waits = D.waits ++ L.map Wr.put ∧ D2.deeds = D.deeds + L.length ∧ (D.lit = false → D2.lit = false)) ∨ (x = 3 ∧ D.lit = true ∧ Fell D.lasts D2 (D.waits ++ L.map Wr.put) (D.deeds + L.length)))
  | [], D, hon, _ => ⟨D, 0, rfl, .inl ⟨rfl, hon, rfl, rfl, by simp, rfl, id⟩⟩
  | g :: r, D, hon, hl => by
    obtain ⟨h0, h1, h2⟩ := hl g (by simp)
    have hmay : D.mayW g.k g.b = 0 := by
      have : D.has g.k = true := by simp only [Dsk.has, decide_eq_true_eq]; omega
      rw [Dsk.mayW, hon, if_pos rfl, this, h2]
      rfl
    have hput : g.put = (g.k.toNat, g.b) := rfl
    cases hf : D.fallsNow
    · have hw : wrD D g.k g.b = (((D.push g.k.toNat g.b).down.deed), 0) := by
        rw [wrD, if_neg (by rw [hmay]; decide), hf]
        rfl
      obtain ⟨f1, f2, f3, f4, f5⟩ := down_f (D.push g.k.toNat g.b)
      have hlit : (D.push g.k.toNat g.b).down.deed.lit = D.lit := by
        show (D.push g.k.toNat g.b).down.lit = D.lit
        unfold Dsk.down
        split <;> rfl
      obtain ⟨D2, x, h1, h2⟩ := layW_all r (D.push g.k.toNat g.b).down.deed (f1.trans hon) (fun y hy => by
        show y.fits (D.push g.k.toNat g.b).down.lasts.length
        rw [f3]
        exact hl y (by simp [hy]))
      have e2 : (D.push g.k.toNat g.b).down.deed.now = D.now.set g.k.toNat g.b := f2
      have e3 : (D.push g.k.toNat g.b).down.deed.lasts = D.lasts := f3
      have e4 : (D.push g.k.toNat g.b).down.deed.waits = D.waits ++ [(g.k.toNat, g.b)] := f4
      have e5 : (D.push g.k.toNat g.b).down.deed.deeds = D.deeds + 1 := by show (D.push g.k.toNat g.b).down.deeds + 1 = _; rw [f5]; rfl
      refine ⟨D2, x, by rw [layW, hw, if_pos rfl]; exact h1, ?_⟩
      rw [e2, e3, e4, e5, hlit] at h2
      rcases h2 with ⟨x0, k1, k2, k3, k4, k5, k6⟩ | ⟨x3, k0, k⟩
      · refine .inl ⟨x0, k1, ?_, k3, ?_, ?_, k6⟩
        · rw [k2, List.map_cons, setAll, hput]
        · rw [k4, List.map_cons, hput, List.append_assoc]; rfl
        · rw [k5]; simp; omega
      · refine .inr ⟨x3, k0, ?_⟩
        rw [List.map_cons, hput, show D.waits ++ (g.k.toNat, g.b) :: r.map Wr.put = D.waits ++ [(g.k.toNat, g.b)] ++ r.map Wr.put by rw [List.append_assoc]; rfl]
        exact ⟨k.off, k.waits, k.same, k.len, k.each, by have := k.deeds; simp; omega⟩
    · have hw : wrD D g.k g.b = ((D.push g.k.toNat g.b).crash D.keep, 3) := by
        rw [wrD, if_neg (by rw [hmay]; decide), hf]
        rfl
      have hlit : D.lit = true := by
        rw [Dsk.fallsNow, Bool.and_eq_true] at hf
        exact hf.1
      refine ⟨_, 3, by rw [layW, hw, if_neg (show ¬ (3 : Int) = 0 by decide)], .inr ⟨rfl, hlit, ?_⟩⟩
      have k := fell_crash (D.push g.k.toNat g.b) D.keep (D.deeds + (g :: r).length) (by show D.deeds ≤ _; omega)
      refine ⟨k.off, k.waits, k.same, k.len, fun i hi => ?_, k.deeds⟩
      rcases k.each i hi with q | ⟨y, hy, q1, q2⟩
      · exact .inl q
      · refine .inr ⟨y, ?_, q1, q2⟩
        have hy' : y ∈ D.waits ++ [(g.k.toNat, g.b)] := hy
        rw [List.map_cons, hput]
        rcases List.mem_append.1 hy' with r | r
        · exact List.mem_append_left _ r
        · obtain rfl : y = _ := by simpa using r
          exact List.mem_append_right _ (by simp)
theorem layR_all {D : Dsk} {K : Nat} (hc : Still D K) {L : List Wr} (hl : ∀ x ∈ L, x.fits D.now.length) : ∃ D2 x, layR D L = (D2, x) ∧
    ((x = 0 ∧ Still D2 (K + L.length + 1) ∧ D2.now = setAll D.now (L.map Wr.put) ∧ (D.lit = false → D2.lit = false)) ∨ (x = 3 ∧ D.lit = true ∧ Fell D.now D2 (L.map Wr.put) (K + L.length + 1))) := by
  have hdd := hc.deeds
  obtain ⟨D2, x, h1, h2⟩ := layW_all L D hc.on (by rw [hc.same]; exact hl)
  rw [hc.waits, List.nil_append, hc.same] at h2
  rcases h2 with ⟨rfl, k1, k2, k3, k4, k5, k6⟩ | ⟨rfl, k0, k⟩
  · have hW : layR D L = barD D2 := by rw [layR, h1, if_pos rfl]
    cases hf : D2.fallsNow
    · obtain ⟨f1, f2, f3, f4, f5⟩ := down_f D2
      refine ⟨D2.down.bar, 0, by rw [hW, barD, k1, hf]; rfl, .inl ⟨rfl, ⟨f1.trans k1, rfl, ?_, ?_⟩, f2.trans k2, fun q => ?_⟩⟩
      · show D2.down.barL D2.down.waits.length = D2.down.now
        rw [barL_all, f2, f3, f4, k2, k3, k4]
      · show D2.down.deeds + 1 ≤ _
        rw [f5, k5]; omega
      · show D2.down.lit = false
        have := k6 q
        unfold Dsk.down
        rw [this]
        exact this
    · have hlit : D.lit = true := by
        rw [Dsk.fallsNow, Bool.and_eq_true] at hf
        cases q : D.lit
        · rw [k6 q] at hf; simp at hf
        · rfl
      refine ⟨D2.crash D2.keep, 3, by rw [hW, barD, k1, hf]; rfl, .inr ⟨rfl, hlit, ?_⟩⟩
      have k := fell_crash D2 D2.keep (K + L.length + 1) (by omega)
      rw [k3, k4] at k
      exact k
  · exact ⟨D2, 3, by rw [layR, h1, if_neg (show ¬ (3 : Int) = 0 by decide)], .inr ⟨rfl, k0, k.off, k.waits, k.same, k.len, k.each, by have := k.deeds; omega⟩⟩
theorem layR_calm {D : Dsk} {K : Nat} (hc : Still D K) (hlit : D.lit = false) {L : List Wr} (hl : ∀ x ∈ L, x.fits D.now.length) : ∃ D2, layR D L = (D2, 0) ∧ Still D2 (K + L.length + 1) ∧ D2.lit = false ∧ D2.now = setAll D.now (L.map Wr.put) := by
  obtain ⟨D2, x, h1, h2⟩ := layR_all hc hl
  rcases h2 with ⟨rfl, k1, k2, k3⟩ | ⟨rfl, k0, _⟩
  · exact ⟨D2, h1, k1, k3 hlit, k2⟩
  · rw [hlit] at k0; cases k0

def wrPg (v : Nat) (C : List Int) (j : Nat) : Wr := ⟨((2 + 6 * (j / 3) + 3 * (v % 2) + j % 3 : Nat) : Int), (pgL (j / 3 : Nat) v (pgCells C (j / 3))).getD (j % 3) ByteArray.empty⟩
def pagesW (v : Nat) (C : List Int) (n : Nat) : List Wr := (List.range n).map (wrPg v C)
def zerosW (a n : Nat) : List Wr := (List.range n).map fun i => ⟨((a + i : Nat) : Int), zero32⟩
def emptyW (s n : Nat) : List Wr := (List.range n).map fun j => ⟨((2 + 6 * (j / 3) + 3 * s + j % 3 : Nat) : Int), zero32⟩
theorem pagesW_len (v : Nat) (C : List Int) (n : Nat) : (pagesW v C n).length = n := by simp [pagesW]
theorem zerosW_len (a n : Nat) : (zerosW a n).length = n := by simp [zerosW]
theorem emptyW_len (a n : Nat) : (emptyW a n).length = n := by simp [emptyW]
theorem pagesW_next (v : Nat) (C : List Int) (n : Nat) : pagesW v C (n + 1) = pagesW v C n ++ [wrPg v C n] := by simp [pagesW, List.range_succ]
theorem emptyW_three (s n : Nat) : emptyW s (3 * (n + 1)) = emptyW s (3 * n) ++ zerosW (2 + 6 * n + 3 * s) 3 := by
  rw [show 3 * (n + 1) = 3 * n + 1 + 1 + 1 by omega]
  simp only [emptyW, zerosW, List.range_succ, List.map_append, List.map_cons, List.map_nil, List.append_assoc, List.cons_append, List.nil_append, List.range_zero]
  rw [show 3 * n / 3 = n by omega, show (3 * n + 1) / 3 = n by omega, show (3 * n + 1 + 1) / 3 = n by omega, show 3 * n % 3 = 0 by omega, show (3 * n + 1) % 3 = 1 by omega, show (3 * n + 1 + 1) % 3 = 2 by omega]
theorem pgL_three {C : List Int} {no v : Nat} (h : pgOk no v (pgCells C no) = true) : (pgL no v (pgCells C no)).length = 3 ∧ ∀ b ∈ pgL no v (pgCells C no), b.size = 32 := by
  rw [pgL_yes h]
  refine ⟨rfl, fun b hb => ?_⟩
  have q := parts_size _ (pgB_size no v (pgCells C no) (pgCells_len C no))
  rw [List.any_eq_false] at q
  have := q b hb
  simpa [outT] using this
section
variable {v : Nat} {C : List Int} {P : Nat}
def FineC (C : List Int) : Prop := ∀ c ∈ C, 0 ≤ c ∧ c < 4294967296
theorem wrPg_size (hf : FineC C) {j : Nat} (hj : j / 3 ≤ 1000) (hv : v < 4294967296) : (wrPg v C j).b.size = 32 := by
  obtain ⟨h1, h2⟩ := pgL_three (pg_fine hf hj hv)
  have hm : j % 3 < (pgL (j / 3 : Nat) v (pgCells C (j / 3))).length := by rw [h1]; omega
  show ((pgL (j / 3 : Nat) v (pgCells C (j / 3))).getD (j % 3) ByteArray.empty).size = 32
  rw [List.getD_eq_getElem?_getD, List.getElem?_eq_getElem hm, Option.getD_some]
  exact h2 _ (List.getElem_mem hm)
theorem pagesW_fits (hf : FineC C) {n : Nat} (hP : P ≤ 1000) (hv : v < 4294967296) (hn : 2 + 6 * P ≤ n) : ∀ x ∈ pagesW v C (3 * P), x.fits n := fun x hx => by
  obtain ⟨j, hj, rfl⟩ := List.mem_map.1 hx
  have hj := List.mem_range.1 hj
  refine ⟨Int.natCast_nonneg _, ?_, wrPg_size hf (by omega) hv⟩
  show ((2 + 6 * (j / 3) + 3 * (v % 2) + j % 3 : Nat) : Int) < _
  omega
theorem zerosW_fits {a k n : Nat} (h : a + k ≤ n) : ∀ x ∈ zerosW a k, x.fits n := fun x hx => by
  obtain ⟨j, hj, rfl⟩ := List.mem_map.1 hx
  have hj := List.mem_range.1 hj
  refine ⟨Int.natCast_nonneg _, ?_, by kernel_rfl⟩
  show ((a + j : Nat) : Int) < _
  omega
theorem emptyW_fits {s n : Nat} (hs : s < 2) (hn : 2 + 6 * P ≤ n) : ∀ x ∈ emptyW s (3 * P), x.fits n := fun x hx => by
  obtain ⟨j, hj, rfl⟩ := List.mem_map.1 hx
  have hj := List.mem_range.1 hj
  refine ⟨Int.natCast_nonneg _, ?_, by kernel_rfl⟩
  show ((2 + 6 * (j / 3) + 3 * s + j % 3 : Nat) : Int) < _
  omega
theorem pagesW_at (hf : FineC C) (hP : P ≤ 1000) (hv : v < 4294967296) {s : List ByteArray} (hn : 2 + 6 * P ≤ s.length) : PagesAt (setAll s ((pagesW v C (3 * P)).map Wr.put)) v C P := fun no hno k hk => by
  have e1 : (3 * no + k) / 3 = no := by omega
  have e2 : (3 * no + k) % 3 = k := by omega
  have hj : 3 * no + k < 3 * P := by omega
  have hg : ((pagesW v C (3 * P)).map Wr.put)[3 * no + k]? = some (wrPg v C (3 * no + k)).put := by
    simp [pagesW, hj]
  have hp : (wrPg v C (3 * no + k)).put.1 = 2 + 6 * no + 3 * (v % 2) + k := by
    show ((2 + 6 * ((3 * no + k) / 3) + 3 * (v % 2) + (3 * no + k) % 3 : Nat) : Int).toNat = _
    rw [e1, e2]; omega
  have := setAll_at _ s (3 * no + k) _ hg (by rw [hp]; omega) (fun i y hi hy => by
    simp only [pagesW, List.map_map, List.getElem?_map] at hy
    obtain ⟨j, hj', rfl⟩ := Option.map_eq_some_iff.1 hy
    obtain ⟨_, hjj⟩ := List.getElem?_eq_some_iff.1 hj'
    simp only [List.getElem_range] at hjj
    subst hjj
    rw [hp]
    show ((2 + 6 * (i / 3) + 3 * (v % 2) + i % 3 : Nat) : Int).toNat ≠ _
    omega)
  rw [hp] at this
  rw [this]
  obtain ⟨h1, h2⟩ := pgL_three (pg_fine hf (no := no) (by omega) hv)
  show some ((pgL ((3 * no + k) / 3 : Nat) v (pgCells C ((3 * no + k) / 3))).getD ((3 * no + k) % 3) ByteArray.empty) = _
  rw [e1, e2, List.getD_eq_getElem?_getD, List.getElem?_eq_getElem (by rw [h1]; exact hk), Option.getD_some]
theorem pagesW_or (hf : FineC C) (hP : P ≤ 1000) (hv : v < 4294967296) {s : List ByteArray} : ∀ k, k < s.length → (setAll s ((pagesW v C (3 * P)).map Wr.put))[k]? = s[k]? ∨ ∃ y, OfPages v C P y ∧ y.1 = k ∧ (setAll s ((pagesW v C (3 * P)).map Wr.put))[k]? = some y.2 := fun k hk => by
  rcases setAll_or _ s k hk with h | ⟨y, hy, h1, h2⟩
  · exact .inl h
  · refine .inr ⟨y, ?_, h1, h2⟩
    obtain ⟨x, hx, rfl⟩ := List.mem_map.1 hy
    obtain ⟨j, hj, rfl⟩ := List.mem_map.1 hx
    have hj := List.mem_range.1 hj
    obtain ⟨h1, h2⟩ := pgL_three (pg_fine hf (no := j / 3) (by omega) hv)
    refine ⟨j / 3, j % 3, by omega, by omega, rfl, ?_⟩
    show _ = some ((pgL (j / 3 : Nat) v (pgCells C (j / 3))).getD (j % 3) ByteArray.empty)
    rw [List.getD_eq_getElem?_getD, List.getElem?_eq_getElem (by rw [h1]; omega), Option.getD_some]
end
end Go.Proofs.YtbghglkplbnnkaaGreatDoor
-- StorePad
namespace Go.Proofs.YtbghglkplbnnkaaGreatDoor
open Go.RowKit Sec
open Go.Proofs.YtbghglkplbnnkaaGreatDoor.Bk

section
variable {C W : List Int} {P : Nat}
theorem joinP_getD (h : C.length ≤ 16 * P) (k : Nat) : (joinP C P).getD k 0 = C.getD k 0 := by
  rcases Nat.lt_or_ge k (16 * P) with r | r
  · rw [List.getD_eq_getElem?_getD, joinP_at C P k r, Option.getD_some]
  · rw [List.getD_eq_getElem?_getD, List.getD_eq_getElem?_getD, List.getElem?_eq_none (by rw [joinP_len]; exact r), List.getElem?_eq_none (by omega)]
theorem pg_join (h : C.length ≤ 16 * P) (no : Nat) : pgCells (joinP C P) no = pgCells C no := by
  simp only [pgCells, joinP_getD h]
theorem joinP_ext {X Y : List Int} (h1 : X.length = 16 * P) (h2 : Y.length = 16 * P) (h : ∀ k, k < 16 * P → X.getD k 0 = Y.getD k 0) : X = Y := by
  apply List.ext_getElem?
  intro k
  rcases Nat.lt_or_ge k (16 * P) with r | r
  · have := h k r
    rw [List.getD_eq_getElem?_getD, List.getD_eq_getElem?_getD, List.getElem?_eq_getElem (by omega), List.getElem?_eq_getElem (by omega), Option.getD_some, Option.getD_some] at this
    rw [List.getElem?_eq_getElem (by omega), List.getElem?_eq_getElem (by omega), this]
  · rw [List.getElem?_eq_none (by omega), List.getElem?_eq_none (by omega)]
theorem joinP_set (h : C.length ≤ 16 * P) {k : Nat} (hk : k < C.length) (v : Int) : joinP (C.set k v) P = (joinP C P).set k v := by
  refine joinP_ext (P := P) (joinP_len _ _) (by rw [List.length_set, joinP_len]) (fun j hj => ?_)
  rw [joinP_getD (by rw [List.length_set]; exact h), List.getD_eq_getElem?_getD, List.getD_eq_getElem?_getD, List.getElem?_set, List.getElem?_set]
  by_cases e : k = j
  · subst e
    rw [if_pos rfl, if_pos rfl, if_pos hk, if_pos (by rw [joinP_len]; exact hj)]
  · rw [if_neg e, if_neg e, ← List.getD_eq_getElem?_getD, ← List.getD_eq_getElem?_getD, joinP_getD h]
theorem joinP_fine (h : FineC C) : FineC (joinP C P) := fun c hc => by
  obtain ⟨no, _, hm⟩ := List.mem_flatMap.1 hc
  obtain ⟨j, _, rfl⟩ := List.mem_map.1 hm
  exact getD_fine h _
theorem putC_join (hc : C.length ≤ 16 * P) {x : Chg} (h0 : 0 ≤ x.c) (h1 : x.c < C.length) : putC (joinP C P) x = joinP (putC C x) P := by
  rw [putC, if_pos ⟨h0, by rw [joinP_len]; omega⟩, putC, if_pos ⟨h0, h1⟩, joinP_set hc (by omega)]
theorem applyL_join (hc : C.length ≤ 16 * P) {l : List Chg} (hl : ∀ x ∈ l, 0 ≤ x.c ∧ x.c < C.length) : applyL (joinP C P) l = joinP (applyL C l) P := by
  induction l generalizing C with
  | nil => rfl
  | cons x r ih =>
    obtain ⟨h0, h1⟩ := hl x (by simp)
    show applyL (putC (joinP C P) x) r = joinP (applyL (putC C x) r) P
    rw [putC_join hc h0 h1]
    exact ih (by rw [putC_len]; exact hc) (fun y hy => by rw [putC_len]; exact hl y (by simp [hy]))
theorem applyL_fine (hf : FineC C) {l : List Chg} (hl : ∀ x ∈ l, 0 ≤ x.v ∧ x.v < 4294967296) : FineC (applyL C l) := by
  induction l generalizing C with
  | nil => exact hf
  | cons x r ih =>
    refine ih (C := putC C x) (fun c hc => ?_) (fun y hy => hl y (by simp [hy]))
    rw [putC] at hc
    split at hc
    · rcases List.mem_or_eq_of_mem_set hc with q | rfl
      · exact hf c q
      · exact hl x (by simp)
    · exact hf c hc
theorem set_fine (hf : FineC C) (k : Nat) {v : Int} (hv : 0 ≤ v ∧ v < 4294967296) : FineC (C.set k v) := fun c hc => by
  rcases List.mem_or_eq_of_mem_set hc with q | rfl
  · exact hf c q
  · exact hv
theorem pagesW_join (h : C.length ≤ 16 * P) (v n : Nat) : pagesW v (joinP C P) n = pagesW v C n := by
  have e : wrPg v (joinP C P) = wrPg v C := funext fun j => by simp only [wrPg, pg_join h]
  rw [pagesW, pagesW, e]
end
theorem pg_cut {X : List Int} {P no : Nat} (hX : X.length = 16 * P) (hn : no < P) : (X.drop (no * 16)).take 16 = pgCells X no := by
  apply List.ext_getElem?
  intro j
  rcases Nat.lt_or_ge j 16 with r | r
  · have hk : no * 16 + j < X.length := by omega
    have q := pgCells_at X (no * 16 + j)
    rw [show (no * 16 + j) / 16 = no by omega, show (no * 16 + j) % 16 = j by omega] at q
    rw [List.getElem?_take, if_pos r, List.getElem?_drop, q, List.getD_eq_getElem?_getD, List.getElem?_eq_getElem hk, Option.getD_some]
  · rw [List.getElem?_eq_none (by rw [List.length_take]; omega), List.getElem?_eq_none (by rw [pgCells_len]; exact r)]
end Go.Proofs.YtbghglkplbnnkaaGreatDoor
