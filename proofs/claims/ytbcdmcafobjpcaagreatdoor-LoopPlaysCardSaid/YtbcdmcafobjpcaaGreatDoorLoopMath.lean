/- Logs: plain facts: what a log's sectors say, what Scan tells of them, what Append makes of them. No call. -/
import Derived.Test.YtbcdmcafobjpcaaGreatDoorLoopScan
import Derived.Test.YtbcdmcafobjpcaaGreatDoorLoopApp
namespace Go.Proofs.YtbcdmcafobjpcaaGreatDoor
open Go.RowKit Sec
open Go.Proofs.YtbcdmcafobjpcaaGreatDoor.Bk

/-- Sectors are set one by one. -/
def setAll (s : List ByteArray) : List (Nat × ByteArray) → List ByteArray
  | [] => s
  | x :: r => setAll (s.set x.1 x.2) r
theorem setAll_len : ∀ (ps : List (Nat × ByteArray)) (s : List ByteArray), (setAll s ps).length = s.length
  | [], _ => rfl
  | x :: r, s => by rw [setAll, setAll_len r, List.length_set]
theorem setAll_off : ∀ (ps : List (Nat × ByteArray)) (s : List ByteArray) (k : Nat), (∀ x ∈ ps, x.1 ≠ k) → (setAll s ps)[k]? = s[k]?
  | [], _, _, _ => rfl
  | x :: r, s, k, h => by
    rw [setAll, setAll_off r _ k (fun y hy => h y (by simp [hy])), List.getElem?_set_ne (h x (by simp))]
theorem setAll_or : ∀ (ps : List (Nat × ByteArray)) (s : List ByteArray) (k : Nat), k < s.length → (setAll s ps)[k]? = s[k]? ∨ ∃ x ∈ ps, x.1 = k ∧ (setAll s ps)[k]? = some x.2
  | [], _, _, _ => .inl rfl
  | x :: r, s, k, h => by
    rw [setAll]
    rcases setAll_or r (s.set x.1 x.2) k (by rw [List.length_set]; exact h) with q | ⟨y, hy, q1, q2⟩
    · by_cases e : x.1 = k
      · refine .inr ⟨x, by simp, e, ?_⟩
        rw [q, ← e, List.getElem?_set_self (by rw [e]; exact h)]
      · exact .inl (by rw [q, List.getElem?_set_ne e])
    · exact .inr ⟨y, by simp [hy], q1, q2⟩
theorem setAll_at : ∀ (ps : List (Nat × ByteArray)) (s : List ByteArray) (j : Nat) (x : Nat × ByteArray), ps[j]? = some x → x.1 < s.length → (∀ i y, j < i → ps[i]? = some y → y.1 ≠ x.1) → (setAll s ps)[x.1]? = some x.2
  | [], _, _, _, h, _, _ => by simp at h
  | y :: r, s, 0, x, h, hl, hd => by
    obtain rfl : y = x := by simpa using h
    rw [setAll, setAll_off r _ _ (fun z hz => by
      obtain ⟨i, hi, rfl⟩ := List.getElem_of_mem hz
      exact hd (i + 1) _ (by omega) (by simp [hi])), List.getElem?_set_self hl]
  | y :: r, s, j + 1, x, h, hl, hd => by
    rw [setAll]
    exact setAll_at r _ j x (by simpa using h) (by rw [List.length_set]; exact hl) (fun i z hi hz => hd (i + 1) z (by omega) (by simpa using hz))
theorem setAll_app (s : List ByteArray) (a b : List (Nat × ByteArray)) : setAll s (a ++ b) = setAll (setAll s a) b := by
  induction a generalizing s with
  | nil => rfl
  | cons x r ih => rw [List.cons_append, setAll, setAll, ih]

/-- Two Lsns less than n apart lie in one sector only if they are the same. -/
theorem mod_inj {a b n : Nat} (h : a % n = b % n) (h1 : a ≤ b) (h2 : b < a + n) : a = b := by
  have e1 := Nat.div_add_mod a n
  have e2 := Nat.div_add_mod b n
  rcases Nat.lt_trichotomy (a / n) (b / n) with q | q | q
  · have := Nat.mul_le_mul_left n (show a / n + 1 ≤ b / n by omega)
    rw [Nat.mul_add] at this
    omega
  · rw [q] at e1; omega
  · have := Nat.mul_le_mul_left n (show b / n + 1 ≤ a / n by omega)
    rw [Nat.mul_add] at this
    omega
theorem secI_nat (D : Dsk) (fr n k : Nat) : secI D fr n k = (D.now[fr + k % n]?).getD ByteArray.empty := by
  have e : ((fr : Int) + (k : Int) % (n : Int)).toNat = fr + k % n := by
    rw [← Int.natCast_emod]; omega
  rw [secI, Dsk.at_, e, List.getD_eq_getElem?_getD]

/-- WHAT A LOG's SECTORS SAY: its entries from hd to nx, of changes that were committed; no other one of its epoch, none of a later epoch. -/
structure LogIs (D : Dsk) (fr n hd nx : Nat) (ep : Int) (all : List Chg) : Prop where
  on : D.on = true
  n1 : 1 ≤ n
  len : fr + n ≤ D.now.length
  ord : hd ≤ nx
  cap : nx ≤ hd + n
  has : ∃ E : List Ent, hd + E.length = nx ∧ (∀ i e, E[i]? = some e → D.now[fr + (hd + i) % n]? = some (enB e) ∧ entOk e = true ∧ e.l = ((hd + i : Nat) : Int) ∧ e.e = ep) ∧ ∀ rest, chR (E ++ rest) 0 0 [] [] = chR rest E.length E.length [] all
  old : ∀ k b, k < n → D.now[fr + k]? = some b → enIs b = true → (entOf b).e < ep ∨ ((entOf b).e = ep ∧ (entOf b).l < (nx : Int))
section
variable {D D' : Dsk} {fr n hd nx : Nat} {ep : Int} {all : List Chg}
theorem LogIs.of (h : LogIs D fr n hd nx ep all) (h1 : D'.on = true) (h2 : D'.now = D.now) : LogIs D' fr n hd nx ep all :=
  ⟨h1, h.n1, by rw [h2]; exact h.len, h.ord, h.cap, by rw [h2]; exact h.has, by rw [h2]; exact h.old⟩
theorem LogIs.cut (h : LogIs D fr n hd nx ep all) {ep' : Int} (he : ep < ep') : LogIs D fr n nx nx ep' [] :=
  ⟨h.on, h.n1, h.len, Nat.le_refl _, by omega, ⟨[], rfl, fun i e q => by simp at q, fun rest => rfl⟩, fun k b hk hb hi => .inl (by rcases h.old k b hk hb hi with q | ⟨q, _⟩ <;> omega)⟩
/-- Nothing fits at the next Lsn. -/
theorem LogIs.stop (h : LogIs D fr n hd nx ep all) : fitE (secI D fr n nx) nx ep = false := by
  have hk : nx % n < n := Nat.mod_lt _ (by have := h.n1; omega)
  have hlt : fr + nx % n < D.now.length := by have := h.len; omega
  rw [secI_nat, List.getElem?_eq_getElem hlt, Option.getD_some]
  cases hi : enIs D.now[fr + nx % n]
  · simp [fitE, hi]
  · rcases h.old _ _ hk (List.getElem?_eq_getElem hlt) hi with q | ⟨q1, q2⟩
    · have : decide ((entOf D.now[fr + nx % n]).e = ep) = false := decide_eq_false (by omega)
      rw [fitE, this, Bool.and_false, Bool.and_false]
    · have : decide ((entOf D.now[fr + nx % n]).l = (nx : Int)) = false := decide_eq_false (by omega)
      rw [fitE, this, Bool.false_and, Bool.and_false]
theorem fit_put {e : Ent} (h : entOk e = true) : fitE (enB e) e.l e.e = true ∧ entOf (enB e) = e := by
  obtain ⟨h1, h2⟩ := en_put h
  exact ⟨by rw [fitE, h1, h2]; simp, h2⟩
theorem scan_run (E : List Ent) (hE : ∀ i e, E[i]? = some e → D.now[fr + (hd + i) % n]? = some (enB e) ∧ entOk e = true ∧ e.l = ((hd + i : Nat) : Int) ∧ e.e = ep) : ∀ (r : List Ent) (i f : Nat), E.drop i = r → r.length ≤ f → scanE D fr n ep f ((hd + i : Nat) : Int) = r ++ scanE D fr n ep (f - r.length) ((hd + i + r.length : Nat) : Int)
  | [], i, f, _, _ => by simp
  | e :: r, i, f, hr, hf => by
    have hlt : i < E.length := by
      rcases Nat.lt_or_ge i E.length with q | q
      · exact q
      · rw [List.drop_eq_nil_of_le q] at hr; cases hr
    have hd2 := List.drop_eq_getElem_cons hlt
    rw [hr] at hd2
    obtain ⟨rfl, hr2⟩ := List.cons.inj hd2
    obtain ⟨h1, h2, h3, h4⟩ := hE i _ (List.getElem?_eq_getElem hlt)
    obtain ⟨f, rfl⟩ : ∃ f', f = f' + 1 := ⟨f - 1, by simp at hf; omega⟩
    obtain ⟨p1, p2⟩ := fit_put h2
    rw [h3, h4] at p1
    have ih := scan_run E hE r (i + 1) f hr2.symm (by simpa using hf)
    rw [scanE, secI_nat, h1, Option.getD_some, if_pos p1, p2, List.cons_append, show ((hd + i : Nat) : Int) + 1 = ((hd + (i + 1) : Nat) : Int) by omega, ih]
    simp only [List.length_cons]
    rw [show f + 1 - (r.length + 1) = f - r.length by omega, show hd + (i + 1) + r.length = hd + i + (r.length + 1) by omega]
/-- WHAT SCAN TELLS OF A LOG. -/
theorem LogIs.scan (h : LogIs D fr n hd nx ep all) : changesL (scanE D fr n ep n (hd : Int)) = (all, nx - hd) := by
  obtain ⟨E, hl, hE, hc⟩ := h.has
  have hcap := h.cap
  have := scan_run E hE E 0 n rfl (by omega)
  rw [Nat.add_zero, hl] at this
  rw [this]
  have hs : scanE D fr n ep (n - E.length) (nx : Int) = [] := by
    rcases Nat.eq_zero_or_pos (n - E.length) with q | q
    · rw [q]; rfl
    · obtain ⟨f, hf⟩ : ∃ f, n - E.length = f + 1 := ⟨n - E.length - 1, by omega⟩
      rw [hf, scanE, h.stop]
      rfl
  rw [hs, changesL_R, hc, chR, show nx - hd = E.length by omega]
/-- A new log. -/
theorem logIs_new (D : Dsk) (fr n hd : Nat) (ep : Int) (hon : D.on = true) (n1 : 1 ≤ n) (hl : fr + n ≤ D.now.length) (hz : ∀ b ∈ D.now, enIs b = false) : LogIs D fr n hd hd ep [] :=
  ⟨hon, n1, hl, Nat.le_refl _, by omega, ⟨[], rfl, fun i e q => by simp at q, fun rest => rfl⟩, fun k b _ hb hi => by rw [hz b (List.mem_of_getElem? hb)] at hi; cases hi⟩

/-- Where an entry is put. -/
def putAt (fr n : Nat) (g : Ent) : Nat × ByteArray := (fr + g.l.toNat % n, enB g)
theorem gr_get {nx : Nat} {ep : Int} {c : List Chg} (hb : nx + c.length < 2 ^ 62) {j : Nat} {g : Ent} (h : (groupL nx ep c)[j]? = some g) : g.l = ((nx + j : Nat) : Int) ∧ g.e = ep ∧ j < c.length + 1 := by
  have hj : j < (groupL nx ep c).length := (List.getElem?_eq_some_iff.1 h).1
  rw [groupL_len] at hj
  have hw : ∀ k : Nat, k ≤ c.length → wrap64 ((nx : Int) + (k : Int)) = ((nx + k : Nat) : Int) := fun k hk => by unfold wrap64; omega
  rcases Nat.lt_or_ge j c.length with q | q
  · rw [groupL, List.getElem?_append_left (by rw [gHead_len]; exact q), gHead, List.getElem?_mapIdx, List.getElem?_eq_getElem q] at h
    obtain rfl : gEnt nx ep j c[j] = g := by simpa using h
    exact ⟨hw j (by omega), rfl, hj⟩
  · obtain rfl : j = c.length := by omega
    rw [groupL, List.getElem?_append_right (by rw [gHead_len]; exact Nat.le_refl _), gHead_len, Nat.sub_self] at h
    obtain rfl : gEnd nx ep c.length = g := by simpa using h
    exact ⟨hw _ (Nat.le_refl _), rfl, hj⟩
/-- A GROUP BEHIND IT. -/
theorem LogIs.app (h : LogIs D fr n hd nx ep all) (c : List Chg) (hok : grOk nx ep c = true) (hroom : nx + c.length + 1 ≤ hd + n) (hb : nx + c.length < 2 ^ 62) (hon : D'.on = true) (hnow : D'.now = setAll D.now ((groupL nx ep c).map (putAt fr n))) :
    LogIs D' fr n hd (nx + c.length + 1) ep (all ++ c) := by
  obtain ⟨E, hl, hE, hc⟩ := h.has
  have hord := h.ord
  have n1 := h.n1
  have hlen := h.len
  have hG : ∀ j g, (groupL nx ep c)[j]? = some g → (putAt fr n g).1 = fr + (nx + j) % n ∧ g.l = ((nx + j : Nat) : Int) ∧ g.e = ep ∧ entOk g = true ∧ j < c.length + 1 := fun j g hg => by
    obtain ⟨h1, h2, h3⟩ := gr_get hb hg
    have := hok
    rw [grOk, List.all_eq_true] at this
    exact ⟨by rw [putAt, h1]; rfl, h1, h2, this g (List.mem_of_getElem? hg), h3⟩
  have hput : ∀ x ∈ (groupL nx ep c).map (putAt fr n), ∃ j g, (groupL nx ep c)[j]? = some g ∧ x = putAt fr n g := fun x hx => by
    obtain ⟨g, hg, rfl⟩ := List.mem_map.1 hx
    obtain ⟨j, hj, rfl⟩ := List.getElem_of_mem hg
    exact ⟨j, _, List.getElem?_eq_getElem hj, rfl⟩
  have hml : ∀ k, fr + k % n < D.now.length := fun k => by have := Nat.mod_lt k (show 0 < n by omega); omega
  refine ⟨hon, n1, by rw [hnow, setAll_len]; exact hlen, by omega, by omega, ⟨E ++ groupL nx ep c, by rw [List.length_append, groupL_len]; omega, fun i e he => ?_, fun rest => ?_⟩, fun k b hk hb' hi => ?_⟩
  · rcases Nat.lt_or_ge i E.length with q | q
    · rw [List.getElem?_append_left q] at he
      obtain ⟨h1, h2⟩ := hE i e he
      refine ⟨?_, h2⟩
      rw [hnow, setAll_off _ _ _ (fun x hx e2 => ?_)]
      · exact h1
      · obtain ⟨j, g, hg, rfl⟩ := hput x hx
        obtain ⟨g1, g2, g3, g4, g5⟩ := hG j g hg
        rw [g1] at e2
        have := mod_inj (a := hd + i) (b := nx + j) (n := n) (by omega) (by omega) (by omega)
        omega
    · rw [List.getElem?_append_right q] at he
      obtain ⟨g1, g2, g3, g4, g5⟩ := hG _ e he
      have e1 : hd + i = nx + (i - E.length) := by omega
      rw [e1]
      refine ⟨?_, g4, g2, g3⟩
      rw [hnow, ← g1]
      refine setAll_at _ _ (i - E.length) (putAt fr n e) (by rw [List.getElem?_map, he]; rfl) (by rw [g1]; exact hml _) (fun i' y hi' hy e2 => ?_)
      rw [List.getElem?_map] at hy
      obtain ⟨g', hg', rfl⟩ := Option.map_eq_some_iff.1 hy
      obtain ⟨k1, k2, k3, k4, k5⟩ := hG _ g' hg'
      rw [k1, g1] at e2
      have := mod_inj (a := nx + (i - E.length)) (b := nx + i') (n := n) (by omega) (by omega) (by omega)
      omega
  · rw [List.append_assoc, hc, chR_group]
    simp only [List.length_append, groupL_len]
  · rw [hnow] at hb'
    rcases setAll_or ((groupL nx ep c).map (putAt fr n)) D.now (fr + k) (by omega) with q | ⟨x, hx, q1, q2⟩
    · rw [q] at hb'
      rcases h.old k b hk hb' hi with r | ⟨r1, r2⟩
      · exact .inl r
      · exact .inr ⟨r1, by omega⟩
    · obtain ⟨j, g, hg, rfl⟩ := hput x hx
      obtain ⟨g1, g2, g3, g4, g5⟩ := hG j g hg
      rw [q2] at hb'
      obtain rfl : enB g = b := by simpa [putAt] using hb'
      rw [(en_put g4).2]
      exact .inr ⟨g3, by rw [g2]; omega⟩
end

/-- Entries onto a disk that isn't armed. -/
theorem wrGo_calm (fr n : Nat) (n1 : 1 ≤ n) : ∀ (L : List Ent) (D : Dsk), D.on = true → D.lit = false → fr + n ≤ D.lasts.length → (∀ g ∈ L, 0 ≤ g.l) → ∃ D2, wrGo fr n D L = (D2, 0) ∧ D2.on = true ∧ D2.lit = false ∧ D2.now = setAll D.now (L.map (putAt fr n)) ∧ D2.lasts = D.lasts ∧ D2.waits.length = D.waits.length + L.length ∧ D2.deeds = D.deeds + L.length
  | [], D, hon, hlit, _, _ => ⟨D, rfl, hon, hlit, rfl, rfl, rfl, rfl⟩
  | g :: r, D, hon, hlit, hl, hg => by
    have g0 := hg g (by simp)
    obtain ⟨m, hm⟩ := Int.eq_ofNat_of_zero_le g0
    have hpos : ((fr : Int) + g.l % (n : Int)) = ((fr + m % n : Nat) : Int) := by rw [hm]; simp
    have hmod := Nat.mod_lt m (show 0 < n by omega)
    have hmay : D.mayW ((fr : Int) + g.l % (n : Int)) (enB g) = 0 := by
      rw [hpos]
      have : D.has ((fr + m % n : Nat) : Int) = true := by simp only [Dsk.has, decide_eq_true_eq]; omega
      rw [Dsk.mayW, hon, if_pos rfl, this, enB_size]
      rfl
    have hf : D.fallsNow = false := by simp [Dsk.fallsNow, hlit]
    have hw : wrD D ((fr : Int) + g.l % (n : Int)) (enB g) = (((D.push (fr + m % n) (enB g)).down.deed), 0) := by
      rw [wrD, if_neg (by rw [hmay]; decide), hf, hpos]
      rfl
    have hdn : (D.push (fr + m % n) (enB g)).down = D.push (fr + m % n) (enB g) := by
      have : (D.push (fr + m % n) (enB g)).lit = false := hlit
      simp [Dsk.down, this]
    rw [hdn] at hw
    obtain ⟨D2, h1, h2, h3, h4, h5, h6, h7⟩ := wrGo_calm fr n n1 r (D.push (fr + m % n) (enB g)).deed hon hlit hl (fun x hx => hg x (by simp [hx]))
    refine ⟨D2, ?_, h2, h3, ?_, h5, ?_, ?_⟩
    · rw [wrGo, hw, if_pos rfl]
      exact h1
    · rw [h4, List.map_cons, setAll, putAt, hm]
      rfl
    · rw [h6]; simp [Dsk.deed, Dsk.push]; omega
    · rw [h7]; simp [Dsk.deed, Dsk.push]; omega
/-- A disk that has power, isn't armed, on which nothing waits. -/
structure Calm (D : Dsk) (K : Nat) : Prop where
  on : D.on = true
  lit : D.lit = false
  waits : D.waits = []
  deeds : D.deeds ≤ K
theorem LogIs.append {D : Dsk} {fr n hd nx : Nat} {ep : Int} {all : List Chg} {K : Nat} (h : LogIs D fr n hd nx ep all) (hc : Calm D K) (hl : D.now.length = D.lasts.length) (c : List Chg) (hb : nx + c.length < 2 ^ 62) (hok : grOk nx ep c = true) (hroom : nx + c.length + 1 ≤ hd + n) :
    ∃ D', appR fr n hd nx ep D c = (D', 0) ∧ LogIs D' fr n hd (nx + c.length + 1) ep (all ++ c) ∧ Calm D' (K + c.length + 2) := by
  have hord := h.ord
  obtain ⟨D2, h1, h2, h3, h4, h5, h6, h7⟩ := wrGo_calm fr n h.n1 (groupL nx ep c) D hc.on hc.lit (by rw [← hl]; exact h.len) (fun g hg => by
    obtain ⟨j, hj, rfl⟩ := List.getElem_of_mem hg
    rw [(gr_get hb (List.getElem?_eq_getElem hj)).1]; omega)
  have hf : D2.fallsNow = false := by simp [Dsk.fallsNow, h3]
  have hdn : D2.down = D2 := by simp [Dsk.down, h3]
  refine ⟨D2.bar, ?_, h.app c hok hroom hb h2 h4, h2, h3, rfl, ?_⟩
  · rw [appR, if_neg (by rw [hok]; decide), if_neg (by omega), wrAll, h1, if_pos rfl, barD, h2, hf, hdn]
    rfl
  · show D2.deeds + 1 ≤ _
    rw [h7, groupL_len]; have := hc.deeds; omega
theorem appR_no {D : Dsk} {fr n hd nx : Nat} {ep : Int} (c : List Chg) (hroom : ¬ nx + c.length + 1 ≤ hd + n) (ho : hd ≤ nx) : appR fr n hd nx ep D c = (D, 5) ∨ appR fr n hd nx ep D c = (D, 1) := by
  cases h : grOk nx ep c
  · exact .inr (by rw [appR, h, if_pos rfl])
  · exact .inl (by rw [appR, h, if_neg (by decide), if_pos (by omega)])
theorem appR_not {D : Dsk} {fr n hd nx : Nat} {ep : Int} (c : List Chg) (h : grOk nx ep c = false) : appR fr n hd nx ep D c = (D, 1) := by rw [appR, h, if_pos rfl]
end Go.Proofs.YtbcdmcafobjpcaaGreatDoor
