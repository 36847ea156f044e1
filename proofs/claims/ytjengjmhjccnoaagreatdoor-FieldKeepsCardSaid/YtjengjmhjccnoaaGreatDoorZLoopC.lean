/- LoopFall, LoopDiskB -/
import Derived.Test.YtjengjmhjccnoaaGreatDoorZLoopB
import Derived.Test.YtjengjmhjccnoaaGreatDoorZLoopA
import Derived.Test.YtjengjmhjccnoaaGreatDoorZSecB
set_option linter.unusedVariables false
set_option linter.unusedSimpArgs false
-- LoopFall
/- Logs whose disk is armed: plain facts: what a fall of the power leaves, and what Scan tells behind it. No call. -/
namespace Go.Proofs.YtjengjmhjccnoaaGreatDoor
open Go.RowKit Sec
open Go.Proofs.YtjengjmhjccnoaaGreatDoor.Bk

/-- A disk that has power, on which nothing waits, whatever is armed. -/
structure Still (D : Dsk) (K : Nat) : Prop where
  on : D.on = true
  waits : D.waits = []
  same : D.lasts = D.now
  deeds : D.deeds ≤ K
/-- Behind a fall: each sector is as it was, or is one of those that were written. -/
structure Fell (S : List ByteArray) (D' : Dsk) (ps : List (Nat × ByteArray)) (K : Nat) : Prop where
  off : D'.on = false
  waits : D'.waits = []
  same : D'.lasts = D'.now
  len : D'.now.length = S.length
  each : ∀ k, k < S.length → D'.now[k]? = S[k]? ∨ ∃ y ∈ ps, y.1 = k ∧ D'.now[k]? = some y.2
  deeds : D'.deeds ≤ K

theorem down_f (E : Dsk) : E.down.on = E.on ∧ E.down.now = E.now ∧ E.down.lasts = E.lasts ∧ E.down.waits = E.waits ∧ E.down.deeds = E.deeds := by
  unfold Dsk.down
  split <;> exact ⟨rfl, rfl, rfl, rfl, rfl⟩
theorem crashL_or (D : Dsk) (kl : List Int) : ∀ m k, k < D.lasts.length → (D.crashL kl m)[k]? = D.lasts[k]? ∨ ∃ y ∈ D.waits, y.1 = k ∧ (D.crashL kl m)[k]? = some y.2
  | 0, _, _ => .inl rfl
  | m + 1, k, hk => by
    have ih := crashL_or D kl m k hk
    cases hx : D.waits[m]? with
    | none =>
      have : D.crashL kl (m + 1) = D.crashL kl m := by rw [Dsk.crashL, hx]
      rw [this]; exact ih
    | some x =>
      cases ho : odd (kl.getD m 0)
      · rw [crashL_even hx ho]; exact ih
      · rw [crashL_odd hx ho]
        by_cases e : x.1 = k
        · refine .inr ⟨x, List.mem_of_getElem? hx, e, ?_⟩
          rw [← e, List.getElem?_set_self (by rw [crashL_len, e]; exact hk)]
        · rw [List.getElem?_set_ne e]; exact ih
theorem fell_crash (D : Dsk) (kl : List Int) (K : Nat) (hd : D.deeds ≤ K) : Fell D.lasts (D.crash kl) D.waits K :=
  ⟨rfl, rfl, rfl, crashL_len D kl _, fun k hk => crashL_or D kl _ k hk, hd⟩
theorem barL_all (D : Dsk) : D.barL D.waits.length = setAll D.lasts D.waits := by
  have go : ∀ m, m ≤ D.waits.length → D.barL m = setAll D.lasts (D.waits.take m) := by
    intro m
    induction m with
    | zero => intro _; rfl
    | succ m ih =>
      intro hm
      rw [barL_step (List.getElem?_eq_getElem (show m < D.waits.length by omega)), ih (by omega), List.take_succ_eq_append_getElem (by omega), setAll_app]
      rfl
  rw [go _ (Nat.le_refl _), List.take_length]

theorem wrGo_all (fr n : Nat) (n1 : 1 ≤ n) : ∀ (L : List Ent) (D : Dsk), D.on = true → fr + n ≤ D.lasts.length → (∀ g ∈ L, 0 ≤ g.l) → ∃ D2 x, wrGo fr n D L = (D2, x) ∧
    ((x = 0 ∧ D2.on = true ∧ D2.now = setAll D.now (L.map (putAt fr n)) ∧ D2.lasts = D.lasts ∧ D2.waits = D.waits ++ L.map (putAt fr n) ∧ D2.deeds = D.deeds + L.length) ∨ (x = 3 ∧ Fell D.lasts D2 (D.waits ++ L.map (putAt fr n)) (D.deeds + L.length)))
  | [], D, hon, _, _ => ⟨D, 0, rfl, .inl ⟨rfl, hon, rfl, rfl, by simp, rfl⟩⟩
  | g :: r, D, hon, hl, hg => by
    have g0 := hg g (by simp)
    obtain ⟨m, hm⟩ := Int.eq_ofNat_of_zero_le g0
    have hpos : ((fr : Int) + g.l % (n : Int)) = ((fr + m % n : Nat) : Int) := by rw [hm]; simp
    have hput : putAt fr n g = (fr + m % n, enB g) := by rw [putAt, hm]; rfl
    have hmod := Nat.mod_lt m (show 0 < n by omega)
    have hmay : D.mayW ((fr : Int) + g.l % (n : Int)) (enB g) = 0 := by
      rw [hpos]
      have : D.has ((fr + m % n : Nat) : Int) = true := by simp only [Dsk.has, decide_eq_true_eq]; omega
      rw [Dsk.mayW, hon, if_pos rfl, this, enB_size]
      rfl
    cases hf : D.fallsNow
    · have hw : wrD D ((fr : Int) + g.l % (n : Int)) (enB g) = (((D.push (fr + m % n) (enB g)).down.deed), 0) := by
        rw [wrD, if_neg (by rw [hmay]; decide), hf, hpos]
        rfl
      obtain ⟨f1, f2, f3, f4, f5⟩ := down_f (D.push (fr + m % n) (enB g))
      obtain ⟨D2, x, h1, h2⟩ := wrGo_all fr n n1 r (D.push (fr + m % n) (enB g)).down.deed (f1.trans hon) (by show fr + n ≤ (D.push (fr + m % n) (enB g)).down.lasts.length; rw [f3]; exact hl) (fun y hy => hg y (by simp [hy]))
      have e2 : (D.push (fr + m % n) (enB g)).down.deed.now = D.now.set (fr + m % n) (enB g) := f2
      have e3 : (D.push (fr + m % n) (enB g)).down.deed.lasts = D.lasts := f3
      have e4 : (D.push (fr + m % n) (enB g)).down.deed.waits = D.waits ++ [(fr + m % n, enB g)] := f4
      have e5 : (D.push (fr + m % n) (enB g)).down.deed.deeds = D.deeds + 1 := by show (D.push (fr + m % n) (enB g)).down.deeds + 1 = _; rw [f5]; rfl
      refine ⟨D2, x, by rw [wrGo, hw, if_pos rfl]; exact h1, ?_⟩
      rw [e2, e3, e4, e5] at h2
      rcases h2 with ⟨x0, k1, k2, k3, k4, k5⟩ | ⟨x3, k⟩
      · refine .inl ⟨x0, k1, ?_, k3, ?_, ?_⟩
        · rw [k2, List.map_cons, setAll, hput]
        · rw [k4, List.map_cons, hput, List.append_assoc]; rfl
        · rw [k5]; simp; omega
      · refine .inr ⟨x3, ?_⟩
        rw [List.map_cons, hput, show D.waits ++ (fr + m % n, enB g) :: r.map (putAt fr n) = D.waits ++ [(fr + m % n, enB g)] ++ r.map (putAt fr n) by rw [List.append_assoc]; rfl]
        exact ⟨k.off, k.waits, k.same, k.len, k.each, by have := k.deeds; simp; omega⟩
    · have hw : wrD D ((fr : Int) + g.l % (n : Int)) (enB g) = ((D.push (fr + m % n) (enB g)).crash D.keep, 3) := by
        rw [wrD, if_neg (by rw [hmay]; decide), hf, hpos]
        rfl
      refine ⟨_, 3, by rw [wrGo, hw, if_neg (show ¬ (3 : Int) = 0 by decide)], .inr ⟨rfl, ?_⟩⟩
      have k := fell_crash (D.push (fr + m % n) (enB g)) D.keep (D.deeds + (g :: r).length) (by show D.deeds ≤ _; omega)
      refine ⟨k.off, k.waits, k.same, k.len, fun i hi => ?_, k.deeds⟩
      rcases k.each i hi with q | ⟨y, hy, q1, q2⟩
      · exact .inl q
      · refine .inr ⟨y, ?_, q1, q2⟩
        have hy' : y ∈ D.waits ++ [(fr + m % n, enB g)] := hy
        rw [List.map_cons, hput]
        rcases List.mem_append.1 hy' with r | r
        · exact List.mem_append_left _ r
        · obtain rfl : y = _ := by simpa using r
          exact List.mem_append_right _ (by simp)
theorem LogIs.append2 {D : Dsk} {fr n hd nx : Nat} {ep : Int} {all : List Chg} {K : Nat} (h : LogIs D fr n hd nx ep all) (hc : Still D K) (c : List Chg) (hb : nx + c.length < 2 ^ 62) (hok : grOk nx ep c = true) (hroom : nx + c.length + 1 ≤ hd + n) :
    ∃ D' x, appR fr n hd nx ep D c = (D', x) ∧ ((x = 0 ∧ LogIs D' fr n hd (nx + c.length + 1) ep (all ++ c) ∧ Still D' (K + c.length + 2)) ∨ (x = 3 ∧ Fell D.now D' ((groupL nx ep c).map (putAt fr n)) (K + c.length + 2))) := by
  have hord := h.ord
  have hdd := hc.deeds
  obtain ⟨D2, x, h1, h2⟩ := wrGo_all fr n h.n1 (groupL nx ep c) D hc.on (by rw [hc.same]; exact h.len) (fun g hg => by
    obtain ⟨j, hj, rfl⟩ := List.getElem_of_mem hg
    rw [(gr_get hb (List.getElem?_eq_getElem hj)).1]; omega)
  have hA : appR fr n hd nx ep D c = wrAll fr n D (groupL nx ep c) := by rw [appR, if_neg (by rw [hok]; decide), if_neg (by omega)]
  rw [hc.waits, List.nil_append, hc.same, groupL_len] at h2
  rcases h2 with ⟨rfl, k1, k2, k3, k4, k5⟩ | ⟨rfl, k⟩
  · have hW : wrAll fr n D (groupL nx ep c) = barD D2 := by rw [wrAll, h1, if_pos rfl]
    cases hf : D2.fallsNow
    · obtain ⟨f1, f2, f3, f4, f5⟩ := down_f D2
      refine ⟨D2.down.bar, 0, by rw [hA, hW, barD, k1, hf]; rfl, .inl ⟨rfl, h.app c hok hroom hb (f1.trans k1) (f2.trans k2), f1.trans k1, rfl, ?_, ?_⟩⟩
      · show D2.down.barL D2.down.waits.length = D2.down.now
        rw [barL_all, f2, f3, f4, k2, k3, k4]
      · show D2.down.deeds + 1 ≤ _
        rw [f5, k5]; omega
    · refine ⟨D2.crash D2.keep, 3, by rw [hA, hW, barD, k1, hf]; rfl, .inr ⟨rfl, ?_⟩⟩
      have k := fell_crash D2 D2.keep (K + c.length + 2) (by omega)
      rw [k3, k4] at k
      exact k
  · exact ⟨D2, 3, by rw [hA, wrAll, h1, if_neg (show ¬ (3 : Int) = 0 by decide)], .inr ⟨rfl, k.off, k.waits, k.same, k.len, k.each, by have := k.deeds; omega⟩⟩

section
variable {D D' : Dsk} {fr n hd nx : Nat} {ep : Int} {all : List Chg}
theorem unfit_of {b : ByteArray} {lsn : Int} (h : enIs b = true → (entOf b).e < ep ∨ (entOf b).l ≠ lsn) : fitE b lsn ep = false := by
  cases hi : enIs b
  · simp [fitE, hi]
  · rcases h hi with q | q
    · have : decide ((entOf b).e = ep) = false := decide_eq_false (by omega)
      rw [fitE, this, Bool.and_false, Bool.and_false]
    · have : decide ((entOf b).l = lsn) = false := decide_eq_false q
      rw [fitE, this, Bool.false_and, Bool.and_false]
set_option maxHeartbeats 2000000 in
/-- WHAT SCAN TELLS BEHIND A FALL: what was committed, or that and the group that was being written, wholly. -/
theorem LogIs.fell (h : LogIs D fr n hd nx ep all) (c : List Chg) (hok : grOk nx ep c = true) (hroom : nx + c.length + 1 ≤ hd + n) (hb : nx + c.length < 2 ^ 62) {K : Nat} (k : Fell D.now D' ((groupL nx ep c).map (putAt fr n)) K) :
    (changesL (scanE { D' with on := true } fr n ep n (hd : Int)) = (all, nx - hd) ∨ changesL (scanE { D' with on := true } fr n ep n (hd : Int)) = (all ++ c, nx + c.length + 1 - hd)) ∧
    ∀ (nx' : Nat) (ep' : Int), ep < ep' → LogIs { D' with on := true } fr n nx' nx' ep' [] := by
  obtain ⟨E, hl, hE, hc⟩ := h.has
  have hord := h.ord
  have n1 := h.n1
  have hlen := h.len
  have hcap := h.cap
  have hG : ∀ j g, (groupL nx ep c)[j]? = some g → (putAt fr n g).1 = fr + (nx + j) % n ∧ g.l = ((nx + j : Nat) : Int) ∧ g.e = ep ∧ entOk g = true ∧ j < c.length + 1 := fun j g hg => by
    obtain ⟨h1, h2, h3⟩ := gr_get hb hg
    have := hok
    rw [grOk, List.all_eq_true] at this
    exact ⟨by rw [putAt, h1]; rfl, h1, h2, this g (List.mem_of_getElem? hg), h3⟩
  have hput : ∀ x ∈ (groupL nx ep c).map (putAt fr n), ∃ j g, (groupL nx ep c)[j]? = some g ∧ x = putAt fr n g := fun x hx => by
    obtain ⟨g, hg, rfl⟩ := List.mem_map.1 hx
    obtain ⟨j, hj, rfl⟩ := List.getElem_of_mem hg
    exact ⟨j, _, List.getElem?_eq_getElem hj, rfl⟩
  have hml : ∀ k, fr + k % n < D.now.length := fun k => by have := Nat.mod_lt k (show 0 < n by omega); omega
  -- each sector: as it was, or an entry of the group
  have hea : ∀ i, i < n → D'.now[fr + i]? = D.now[fr + i]? ∨ ∃ j g, (groupL nx ep c)[j]? = some g ∧ fr + (nx + j) % n = fr + i ∧ D'.now[fr + i]? = some (enB g) := fun i hi => by
    rcases k.each (fr + i) (by omega) with q | ⟨y, hy, q1, q2⟩
    · exact .inl q
    · obtain ⟨j, g, hg, rfl⟩ := hput y hy
      exact .inr ⟨j, g, hg, by rw [← (hG j g hg).1]; exact q1, q2⟩
  have hold : ∀ i b, i < n → D.now[fr + i]? = some b → enIs b = true → (entOf b).e < ep ∨ ((entOf b).e = ep ∧ (entOf b).l < (nx : Int)) := h.old
  have hnew : ∀ i b, i < n → D'.now[fr + i]? = some b → enIs b = true → (entOf b).e ≤ ep := fun i b hi hb' his => by
    rcases hea i hi with q | ⟨j, g, hg, _, q⟩
    · rw [q] at hb'
      rcases hold i b hi hb' his with r | ⟨r, _⟩ <;> omega
    · rw [q] at hb'
      obtain rfl : enB g = b := by simpa using hb'
      obtain ⟨_, _, h3, h4, _⟩ := hG j g hg
      rw [(en_put h4).2, h3]
      exact Int.le_refl _
  refine ⟨?_, fun nx' ep' he => ⟨rfl, n1, by show fr + n ≤ D'.now.length; rw [k.len]; exact hlen, Nat.le_refl _, by omega, ⟨[], rfl, fun i e q => by simp at q, fun rest => rfl⟩, fun i b hi hb' his => .inl (by have := hnew i b hi hb' his; omega)⟩⟩
  have hE' : ∀ i e, E[i]? = some e → ({ D' with on := true } : Dsk).now[fr + (hd + i) % n]? = some (enB e) ∧ entOk e = true ∧ e.l = ((hd + i : Nat) : Int) ∧ e.e = ep := fun i e he => by
    obtain ⟨h1, h2⟩ := hE i e he
    have hi : i < E.length := (List.getElem?_eq_some_iff.1 he).1
    refine ⟨?_, h2⟩
    show D'.now[fr + (hd + i) % n]? = some (enB e)
    rcases hea ((hd + i) % n) (Nat.mod_lt _ (by omega)) with q | ⟨j, g, hg, q, _⟩
    · rw [q]; exact h1
    · have := (hG j g hg).2.2.2.2
      have := mod_inj (a := hd + i) (b := nx + j) (n := n) (by omega) (by omega) (by omega)
      omega
  have hrun := scan_run E hE' E 0 n rfl (by omega)
  rw [Nat.add_zero, hl] at hrun
  have hgl := groupL_len (nx : Int) ep c
  generalize hGG : groupL (nx : Int) ep c = G at *
  have htail : ∀ f j, j ≤ c.length + 1 → ∃ m, j ≤ m ∧ m ≤ c.length + 1 ∧ scanE { D' with on := true } fr n ep f ((nx + j : Nat) : Int) = (G.take m).drop j := by
    intro f
    induction f with
    | zero => intro j hj; exact ⟨j, Nat.le_refl _, hj, by rw [List.drop_eq_nil_of_le (by simp; omega)]; rfl⟩
    | succ f ih =>
      intro j hj
      have hkn : (nx + j) % n < n := Nat.mod_lt _ (by omega)
      have hsec : secI { D' with on := true } fr n ((nx + j : Nat) : Int) = (D'.now[fr + (nx + j) % n]?).getD ByteArray.empty := secI_nat _ fr n (nx + j)
      have stop : fitE (secI { D' with on := true } fr n ((nx + j : Nat) : Int)) ((nx + j : Nat) : Int) ep = false → ∃ m, j ≤ m ∧ m ≤ c.length + 1 ∧ scanE { D' with on := true } fr n ep (f + 1) ((nx + j : Nat) : Int) = (G.take m).drop j := fun hno => by
        refine ⟨j, Nat.le_refl _, hj, ?_⟩
        rw [scanE, hno, List.drop_eq_nil_of_le (by simp; omega)]
        rfl
      rcases hea ((nx + j) % n) hkn with q | ⟨j', g, hg, q1, q2⟩
      · refine stop ?_
        rw [hsec, q, List.getElem?_eq_getElem (hml (nx + j)), Option.getD_some]
        refine unfit_of (fun hi => ?_)
        rcases hold _ _ hkn (List.getElem?_eq_getElem (hml (nx + j))) hi with r | ⟨_, r⟩
        · exact .inl r
        · exact .inr (by omega)
      · obtain ⟨g1, g2, g3, g4, g5⟩ := hG j' g hg
        rw [q2, Option.getD_some] at hsec
        by_cases e : j' = j
        · subst e
          obtain ⟨p1, p2⟩ := fit_put g4
          rw [g2, g3] at p1
          obtain ⟨m, m1, m2, m3⟩ := ih (j' + 1) (by omega)
          refine ⟨m, by omega, m2, ?_⟩
          rw [scanE, hsec, if_pos p1, p2, show ((nx + j' : Nat) : Int) + 1 = ((nx + (j' + 1) : Nat) : Int) by omega, m3]
          have hlt : j' < (G.take m).length := by rw [List.length_take, hgl]; omega
          rw [List.drop_eq_getElem_cons hlt]
          congr 1
          have : (G.take m)[j']? = some g := by rw [List.getElem?_take, if_pos (by omega)]; exact hg
          rw [List.getElem?_eq_getElem hlt] at this
          exact (Option.some.inj this).symm
        · refine stop ?_
          rw [hsec]
          refine unfit_of (fun _ => .inr ?_)
          rw [(en_put g4).2, g2]
          omega
  obtain ⟨m, _, hm, hs⟩ := htail (n - E.length) 0 (by omega)
  rw [Nat.add_zero, List.drop_zero] at hs
  rw [hrun, hs, changesL_R, hc]
  rcases Nat.lt_or_ge m (c.length + 1) with q | q
  · left
    rw [← hGG, chR_part _ _ _ _ (by omega), show nx - hd = E.length by omega]
  · right
    have : G.take m = groupL nx ep c ++ [] := by rw [List.append_nil, hGG, List.take_of_length_le (by omega)]
    rw [this, chR_group, chR, show nx + c.length + 1 - hd = E.length + (c.length + 1) by omega]
end
end Go.Proofs.YtjengjmhjccnoaaGreatDoor
-- LoopDiskB
/- The disk, and blocks that it hasn't got: On, Power, Crash, Arm. -/
namespace Go.Proofs.YtjengjmhjccnoaaGreatDoor
open Go.RowKit Sec

/-- Numbers that lie below block B. -/
def LowI (B : Nat) (w : World) (ka : Option Addr) (kl : List Int) : Prop := ∀ j u, kl[j]? = some u → ∃ b : Addr, ka = some b ∧ b.block < B ∧ w.cell? (b.add j) = some (.int .i64 u)
theorem LowI.off {B : Nat} {w : World} {ka : Option Addr} {kl : List Int} (h : LowI B w ka kl) (a : Addr) (h0 : 0 < kl.length) (ha : ka = some a) : a.block < B := by
  obtain ⟨b, hb, hlt, _⟩ := h 0 _ (List.getElem?_eq_getElem h0)
  rw [hb] at ha
  obtain rfl : b = a := by simpa using ha
  exact hlt
theorem LowI.below {B : Nat} {w w' : World} {ka : Option Addr} {kl : List Int} (h : LowI B w ka kl) (b : Below B w w') : LowI B w' ka kl := fun j u hu => by
  obtain ⟨a, h1, h2, h3⟩ := h j u hu
  exact ⟨a, h1, h2, (World.cell?_of_block (a := a.add j) (b.block _ (by rw [show (a.add j).block = a.block by unfold Addr.add; split <;> rfl]; exact h2))).trans h3⟩
section
variable {B : Nat} {G : Nat → Prop} {w w' : World} {p : Nat} {D : Dsk}
theorem On_k (h : AtK B G w p D) : Calls Tryz.prog 62 #[.pointer (some ⟨p, 0, none⟩)] w fun e w' => e = .returned (.bool D.on) ∧ w' = w := by
  obtain ⟨_, y, rfl, hi, _, _⟩ := h
  exact On_is y D w hi
theorem Crash_k (h : AtK B G w p D) (hon : D.on = true) (ka : Option Addr) (kl : List Int) (kc : Nat) (hk : LowI B w ka kl) (hkl : kl.length < 2 ^ 62) :
    Calls Tryz.prog 128 #[.pointer (some ⟨p, 0, none⟩), .slice ka kl.length kc] w fun e w' => e = .returned (.int .i64 (lostN kl D.waits.length : Int)) ∧ AtK B G w' p (D.crash kl) ∧ Below B w w' ∧ KeptG G w w' :=
  have hB := h.le
  h.go fun y hp hi hf => by
    subst hp
    refine Crash_on y D w ka kl kc hi ⟨fun j z hz => ?_, fun a h0 ha => ?_⟩ hkl hon
    · obtain ⟨a, h1, _, h3⟩ := hk j z hz
      exact ⟨a, h1, h3⟩
    · have hlt := hk.off a h0 ha
      have h1 := hf y.p (.inl rfl)
      have h2 := hf y.L (.inr (.inl rfl))
      have h3 := hf y.N (.inr (.inr (.inl rfl)))
      exact ⟨by omega, by omega, by omega, by omega⟩
/-- A disk that is armed, or not any more. -/
def armD (D : Dsk) (n : Int) (kl : List Int) : Dsk := if 0 ≤ n then D.arm n.toNat kl else D.disarm
end
end Go.Proofs.YtjengjmhjccnoaaGreatDoor
