import Derived.Test.YtbghglkplbnnkaaGreatDoorYMathA
import Derived.Test.YtbghglkplbnnkaaGreatDoorYSpaceA
import Derived.Test.YtbghglkplbnnkaaGreatDoorYObj
set_option linter.unusedVariables false
set_option linter.unusedSimpArgs false
-- AllocPlain
namespace Go.Proofs.YtbghglkplbnnkaaGreatDoor
open Go.RowKit Sec
open Go.Proofs.YtbghglkplbnnkaaGreatDoor.Bk

theorem list_of_getD {V W : List Int} (hl : V.length = W.length) (h : ∀ i, V.getD i 0 = W.getD i 0) : V = W := by
  refine List.ext_getElem hl fun i h1 h2 => ?_
  have := h i
  rw [List.getD_eq_getElem?_getD, List.getD_eq_getElem?_getD, List.getElem?_eq_getElem h1, List.getElem?_eq_getElem h2] at this
  exact this
section
variable {h l : Int} {W : List Int} {s x : Int} {a n : Nat}
theorem Mk.lay (k : Mk h l W s x a n) : ctlW (zfill (W.set a (hdI s x)) (a + 1) (n - 1)) (hSp W) ((a : Int) + (n : Int)) (hGc W) (hSc W) = newW h l W s x := by
  have h1 := k.a16
  have h2 := k.len
  have h3 := k.n1
  refine list_of_getD (by rw [ctlW_len, zfill_len, List.length_set, new_len]) fun i => ?_
  rw [k.at, ctlW, getD_set, getD_set, getD_set, getD_set]
  simp only [List.length_set, zfill_len]
  rw [zfill_at, getD_set]
  by_cases c3 : 3 = i
  · subst c3
    rw [if_pos (⟨rfl, by omega⟩ : 3 = 3 ∧ 3 < W.length), if_neg (show ¬ (3 = 1) by decide), if_neg (show ¬ (3 = a) by omega), if_neg (show ¬ (a ≤ 3 ∧ 3 < a + n) by omega)]
    rfl
  rw [if_neg (show ¬ (3 = i ∧ i < W.length) from fun z => c3 z.1)]
  by_cases c2 : 2 = i
  · subst c2
    rw [if_pos (⟨rfl, by omega⟩ : 2 = 2 ∧ 2 < W.length), if_neg (show ¬ (2 = 1) by decide), if_neg (show ¬ (2 = a) by omega), if_neg (show ¬ (a ≤ 2 ∧ 2 < a + n) by omega)]
    rfl
  rw [if_neg (show ¬ (2 = i ∧ i < W.length) from fun z => c2 z.1)]
  by_cases c1 : 1 = i
  · subst c1
    rw [if_pos (⟨rfl, by omega⟩ : 1 = 1 ∧ 1 < W.length), if_pos (show 1 = 1 from rfl)]
  rw [if_neg (show ¬ (1 = i ∧ i < W.length) from fun z => c1 z.1), if_neg (show ¬ (i = 1) from fun z => c1 z.symm)]
  by_cases c0 : 0 = i
  · subst c0
    rw [if_pos (⟨rfl, by omega⟩ : 0 = 0 ∧ 0 < W.length), if_neg (show ¬ (0 = a) by omega), if_neg (show ¬ (a ≤ 0 ∧ 0 < a + n) by omega)]
    rfl
  rw [if_neg (show ¬ (0 = i ∧ i < W.length) from fun z => c0 z.1)]
  by_cases ca : a = i
  · subst ca
    rw [if_neg (show ¬ (a + 1 ≤ a ∧ a < a + 1 + (n - 1)) by omega), if_pos (⟨rfl, by omega⟩ : a = a ∧ a < W.length), if_pos (show a = a from rfl)]
  rw [if_neg (show ¬ (a = i ∧ i < W.length) from fun z => ca z.1), if_neg (show ¬ (i = a) from fun z => ca z.symm)]
  by_cases q : a ≤ i ∧ i < a + n
  · rw [if_pos q, if_pos (show a + 1 ≤ i ∧ i < a + 1 + (n - 1) by omega)]
  · rw [if_neg q, if_neg (show ¬ (a + 1 ≤ i ∧ i < a + 1 + (n - 1)) by omega)]
theorem wk_at {H : Nat} {V : List Int} (hV : V.length = 16 + 2 * H) {c : Int} (h0 : 0 ≤ c) : wkC V (16 + 2 * H) c = V.getD c.toNat 0 := by
  rw [wkC]
  split
  · rfl
  · rw [List.getD_eq_getElem?_getD, List.getElem?_eq_none (by omega)]
    rfl
theorem newE_cases (h l : Int) (W : List Int) (s x : Int) : (newE h l W s x = 1 ∧ (hOk h l W && shOk s x) = false) ∨ (newE h l W s x = 6 ∧ hOk h l W = true ∧ shOk s x = true ∧ 16 + hSp W * h + h - hFr W < 1 + s + x) ∨ (newE h l W s x = 0 ∧ hOk h l W = true ∧ shOk s x = true ∧ ¬ (16 + hSp W * h + h - hFr W < 1 + s + x)) := by
  unfold newE
  by_cases ok : (hOk h l W && shOk s x) = true
  · obtain ⟨q1, q2⟩ := (Bool.and_eq_true _ _).mp ok |> fun p => p
    rw [if_pos ok]
    by_cases room : 16 + hSp W * h + h - hFr W < 1 + s + x
    · rw [if_pos room]
      exact .inr (.inl ⟨rfl, q1, q2, room⟩)
    · rw [if_neg room]
      exact .inr (.inr ⟨rfl, q1, q2, room⟩)
  · rw [if_neg ok]
    exact .inl ⟨rfl, by simpa using ok⟩
end
section
variable {H L : Nat}
theorem fresh_ctl (H : Nat) : hSp (freshC H) = 0 ∧ hFr (freshC H) = 16 ∧ hGc (freshC H) = 0 ∧ hSc (freshC H) = 0 := by
  have e : ∀ i, (freshC H).getD i 0 = if i = 1 then 16 else 0 := fun i => by
    rw [freshC, getD_set, List.length_replicate]
    by_cases q : i = 1
    · rw [if_pos ⟨q.symm, by omega⟩, if_pos q]
    · rw [if_neg (fun z => q z.1.symm), if_neg q, List.getD_eq_getElem?_getD, List.getElem?_replicate]
      split <;> rfl
  exact ⟨e 0, e 1, e 2, e 3⟩
theorem fine_begin (hg : geOk H L = true) {W : List Int} (h0 : hSp W = 0) (h1 : hFr W = 16) (h2 : hGc W = 0) (h3 : hSc W = 0) : hOk H L W = true := by
  rw [hOk, h0, h1, h2, h3, fine_mid hg (by omega), decide_eq_true (by omega), Bool.true_and, decide_eq_true (by omega), Bool.true_or]
theorem fresh_ok (hg : geOk H L = true) : hOk H L (freshC H) = true := by
  obtain ⟨e0, e1, e2, e3⟩ := fresh_ctl H
  exact fine_begin hg e0 e1 e2 e3
theorem fresh_objs (hg : geOk H L = true) : objs H L (freshC H) = ([], true) := by
  obtain ⟨e0, e1, e2, e3⟩ := fresh_ctl H
  refine objs_none H L _ (fresh_ok hg) ?_
  rw [e0, e1]
  omega
end
end Go.Proofs.YtbghglkplbnnkaaGreatDoor
-- AllocIs
namespace Go.Proofs.YtbghglkplbnnkaaGreatDoor
open Go.RowKit Sec
open Go.Proofs.YtbghglkplbnnkaaGreatDoor.Bk

section
variable {w : World} {x : Option Addr}
end
theorem zfill_next (W : List Int) (a k : Nat) (hk : 1 ≤ k) : zfill W (a + 1) (k + 1 - 1) = (zfill W (a + 1) (k - 1)).set (a + k) 0 := by
  obtain ⟨m, rfl⟩ : ∃ m, k = m + 1 := ⟨k - 1, by omega⟩
  rw [show a + (m + 1) = a + 1 + m by omega]
  rfl
theorem setW_in {V : List Int} {N : Nat} {c v : Int} {i : Nat} (hc : c = (i : Int)) (hi : i < N) (h0 : 0 ≤ v) (h1 : v < 4294967296) : setW V N c v = V.set i v := by
  subst hc
  rw [setW, if_pos (show setB N (i : Int) v = true from decide_eq_true (by omega)), Int.toNat_natCast]
section
variable {B : Nat} {G : Nat → Prop} {w : World} {s H L : Nat} {W : List Int}
set_option maxRecDepth 100000 in
set_option maxHeartbeats 4000000 in
theorem alay_st (h : St B G w s H L W) (a n : Nat) (hd : Int) (hn : 1 ≤ n) (ha : a + n ≤ 16 + 2 * H) (h0 : 0 ≤ hd) (h1 : hd < 4294967296) :
    Calls Tryz.prog 53 #[.pointer (some ⟨s, 0, none⟩), .int .i64 (a : Int), .int .i64 hd, .int .i64 (n : Int)] w fun e w' => e = .returned (.tuple #[]) ∧ St B G w' s H L (zfill (W.set a hd) (a + 1) (n - 1)) ∧ Below B w w' ∧ KeptG G w w' := by
  have hge := h.ge
  have HH := Lib.hid (fun u V (x : St B G u s H L V) => st_set x (a : Int) hd)
  have HZ := Lib.hid (fun u V (x : St B G u s H L V) (k : Nat) => st_set x ((a : Int) + (k : Int)) 0)
  have HW1 : Hid (setW W (16 + 2 * H) (a : Int) hd = W.set a hd) := Lib.hid (setW_in rfl (by omega) h0 h1)
  have HW2 : Hid (∀ V k, k < n → setW V (16 + 2 * H) ((a : Int) + (k : Int)) 0 = V.set (a + k) 0) := Lib.hid (fun V k hk => setW_in (by omega) (by omega) (by decide) (by decide))
  have HS := Lib.hid h
  have ha1 : (a : Int) + (n : Int) ≤ 816 := by omega
  have M0 := True.intro
  clear h hge ha h0 h1
  go_enter Tryz.func53, Tryz.ntmps53
  go_wp2_with (go_at_call 82; clear M0; refine (HH.out _ _ HS.out).mono ?_; rintro e w1 ⟨rfl, h1, b1, k1⟩; rw [HW1.out] at h1; have H1 := Lib.hid (And.intro h1 (And.intro b1 k1)); clear h1 b1 k1)
  go_loopw [8] (fun i wr => ∃ k : Nat, 1 ≤ k ∧ k ≤ n ∧ i = .int .i64 (k : Int) ∧ Hid (St B G wr s H L (zfill (W.set a hd) (a + 1) (k - 1)) ∧ Below B w wr ∧ KeptG G w wr)) (fun i _ => n - (intOf i).toNat)
  case atStart => exact ⟨1, Nat.le_refl _, hn, rfl, H1⟩
  case round =>
    clear HH HW1 HS H1
    obtain ⟨k, hk0, hk, rfl, HR⟩ := hrel
    by_cases hlt : k < n
    · have HV := Lib.hid (zfill_next (W.set a hd) a k hk0)
      have HW3 := Lib.hid (HW2.out (zfill (W.set a hd) (a + 1) (k - 1)) k hlt)
      have hi1 : (k : Int) < (n : Int) := by omega
      have y2 : (0 : Int) ≤ (a : Int) + (k : Int) := by omega
      have y3 : (a : Int) + (k : Int) ≤ 816 := by omega
      go_wp2_with (go_at_call 82; refine (HZ.out _ _ HR.out.1 k).mono ?_; rintro e w2 ⟨rfl, h2, b2, k2⟩; rw [HW3.out] at h2; have H2 := Lib.hid (And.intro h2 (And.intro (HR.out.2.1.trans b2) (HR.out.2.2.trans k2))); clear h2 b2 k2)
      refine ⟨⟨k + 1, by omega, by omega, by go_num, Lib.hid ?_⟩, by simp [intOf]; omega⟩
      rw [HV.out]
      exact H2.out
    · obtain rfl : k = n := by omega
      have hnl : ¬ (k : Int) < (k : Int) := by omega
      go_wp2_with fail
      exact bodyPost_end (results_none rfl _ _ _) rfl ⟨rfl, HR.out⟩
structure NwS (B : Nat) (G : Nat → Prop) (w : World) (s H L : Nat) (sp fr gc sc : Int) (W : List Int) (u : World) : Prop where
  r : Row4 u w.heap.size (.int .i64 sp) (.int .i64 fr) (.int .i64 gc) (.int .i64 sc)
  s : St B (fun k => G k ∨ k = w.heap.size) u s H L W
  b : Below B w u
  k : KeptG G w u
section
variable {u u' : World} {sp fr gc sc : Int} {V : List Int}
theorem NwS.start (h : St B G w s H L W) (sp fr gc sc : Int) (t : TypeId) : NwS B G w s H L sp fr gc sc W (w.alloc (.cells #[.int .i64 sp, .int .i64 fr, .int .i64 gc, .int .i64 sc] t)) := by
  have m := Row4.made w (.int .i64 sp) (.int .i64 fr) (.int .i64 gc) (.int .i64 sc) t
  have b : Below w.heap.size w (w.alloc (.cells #[.int .i64 sp, .int .i64 fr, .int .i64 gc, .int .i64 sc] t)) := (Below.refl _ _).alloc (Nat.le_refl _) _
  exact ⟨m, (h.more b).mono (fun k q => by rcases q with q | rfl; exact .inl q; exact .inr ⟨Nat.le_refl _, m.lt⟩), b.mono h.le, h.keptG b⟩
theorem NwS.below (x : NwS B G w s H L sp fr gc sc W u) (y : Below u.heap.size u u') : NwS B G w s H L sp fr gc sc W u' :=
  ⟨x.r.below y, x.s.below y, x.b.trans (y.mono x.s.le), x.k.trans (fun k g => y.block k (x.s.lt k (.inl g)))⟩
theorem Row4.same {u u' : World} {g : Nat} {v0 v1 v2 v3 : Value} (h : Row4 u g v0 v1 v2 v3) (e : u'.heap[g]? = u.heap[g]?) (hs : u.heap.size ≤ u'.heap.size) : Row4 u' g v0 v1 v2 v3 :=
  have c : ∀ o, u'.cell? ⟨g, o, none⟩ = u.cell? ⟨g, o, none⟩ := fun o => World.cell?_of_block (a := ⟨g, o, none⟩) e
  have f : ∀ o, u'.frozen? ⟨g, o, none⟩ = u.frozen? ⟨g, o, none⟩ := fun o => World.frozen?_of_block (a := ⟨g, o, none⟩) e
  ⟨Nat.lt_of_lt_of_le h.lt hs, (c 0).trans h.c0, (c 1).trans h.c1, (c 2).trans h.c2, (c 3).trans h.c3, (f 0).trans h.f0, (f 1).trans h.f1, (f 2).trans h.f2, (f 3).trans h.f3⟩
theorem NwS.step (x : NwS B G w s H L sp fr gc sc W u) (h1 : St B (fun k => G k ∨ k = w.heap.size) u' s H L V) (h2 : Below B u u') (h3 : KeptG (fun k => G k ∨ k = w.heap.size) u u') : NwS B G w s H L sp fr gc sc V u' :=
  ⟨x.r.same (h3 _ (.inr rfl)) h2.size, h1, x.b.trans h2, x.k.trans (h3.mono fun b q => .inl q)⟩
theorem Row4.set1 {u : World} {g : Nat} {z0 z1 z2 z3 : Value} (h : Row4 u g z0 z1 z2 z3) (v : Value) : Row4 (u.setCell ⟨g, 1, none⟩ v) g z0 v z2 z3 := by
  obtain ⟨l0, c0, c1, c2, c3, f0, f1, f2, f3⟩ := h
  refine ⟨?_, ?_, ?_, ?_, ?_, ?_, ?_, ?_, ?_⟩ <;> (first | exact (by simpa using l0) | (simp only [World.frozen?_setCell]; assumption) | simp [go_sem, set_same, c0, c1, c2, c3])
theorem NwS.putFr (x : NwS B G w s H L sp fr gc sc W u) (hB : B ≤ w.heap.size) (hG : ¬ G w.heap.size) (v : Int) : NwS B G w s H L sp v gc sc W (u.setCell ⟨w.heap.size, 1, none⟩ (.int .i64 v)) := by
  have b : Below B u (u.setCell ⟨w.heap.size, 1, none⟩ (.int .i64 v)) := (Below.refl B u).setCell (p := ⟨w.heap.size, 1, none⟩) hB _
  exact ⟨x.r.set1 _, x.s.own b (fun k hn _ => heap_setCell_other _ _ _ _ (fun e => hn (.inr e))), x.b.trans b, x.k.trans (fun k g => heap_setCell_other _ _ _ _ (fun e => hG (by subst e; exact g)))⟩
end
theorem NwS.keep {u u' : World} {sp fr gc sc : Int} (x : (u.cell? ⟨w.heap.size, 0, none⟩ = some (.int .i64 sp) ∧ u.cell? ⟨w.heap.size, 1, none⟩ = some (.int .i64 fr) ∧ u.cell? ⟨w.heap.size, 2, none⟩ = some (.int .i64 gc) ∧ u.cell? ⟨w.heap.size, 3, none⟩ = some (.int .i64 sc)) ∧ NwS B G w s H L sp fr gc sc W u) (y : Below u.heap.size u u') :
    (u'.cell? ⟨w.heap.size, 0, none⟩ = some (.int .i64 sp) ∧ u'.cell? ⟨w.heap.size, 1, none⟩ = some (.int .i64 fr) ∧ u'.cell? ⟨w.heap.size, 2, none⟩ = some (.int .i64 gc) ∧ u'.cell? ⟨w.heap.size, 3, none⟩ = some (.int .i64 sc)) ∧ NwS B G w s H L sp fr gc sc W u' :=
  have z := x.2.below y
  ⟨⟨z.r.c0, z.r.c1, z.r.c2, z.r.c3⟩, z⟩
theorem NwS.made (h : St B G w s H L W) (sp fr gc sc : Int) : ((w.alloc (.cells #[.int .i64 sp, .int .i64 fr, .int .i64 gc, .int .i64 sc] 56)).cell? ⟨w.heap.size, 0, none⟩ = some (.int .i64 sp) ∧ (w.alloc (.cells #[.int .i64 sp, .int .i64 fr, .int .i64 gc, .int .i64 sc] 56)).cell? ⟨w.heap.size, 1, none⟩ = some (.int .i64 fr) ∧ (w.alloc (.cells #[.int .i64 sp, .int .i64 fr, .int .i64 gc, .int .i64 sc] 56)).cell? ⟨w.heap.size, 2, none⟩ = some (.int .i64 gc) ∧ (w.alloc (.cells #[.int .i64 sp, .int .i64 fr, .int .i64 gc, .int .i64 sc] 56)).cell? ⟨w.heap.size, 3, none⟩ = some (.int .i64 sc)) ∧ NwS B G w s H L sp fr gc sc W (w.alloc (.cells #[.int .i64 sp, .int .i64 fr, .int .i64 gc, .int .i64 sc] 56)) :=
  have z := NwS.start h sp fr gc sc 56
  ⟨⟨z.r.c0, z.r.c1, z.r.c2, z.r.c3⟩, z⟩
theorem NwS.end {u : World} {sp fr gc sc : Int} {V : List Int} {w0 : World} (x : NwS B G w s H L sp fr gc sc V u) (h0 : St B G w0 s H L W) (b : Below w0.heap.size w0 w) : St B G u s H L V ∧ Below B w0 u ∧ KeptG G w0 u :=
  ⟨x.s.mono (fun _ q => .inl q), (b.mono h0.le).trans x.b, (h0.keptG b).trans x.k⟩
set_option maxRecDepth 100000 in
set_option maxHeartbeats 8000000 in
theorem anew_st (h : St B G w s H L W) (sl wo : Int) : Calls Tryz.prog 24 #[.pointer (some ⟨s, 0, none⟩), .int .i64 sl, .int .i64 wo] w fun e w' => e = .returned (.tuple #[.int .i64 (newA H L W sl wo), .int .i64 (newE H L W sl wo)]) ∧ St B G w' s H L (newW H L W sl wo) ∧ Below B w w' ∧ KeptG G w w' := by
  have HHd := Lib.hid (fun u => oheader_is sl wo u)
  have HSz := Lib.hid (fun u => osize_is sl wo u)
  have HGet := Lib.hid (spget_st h)
  have HQ := Lib.hid (fun B G u (x : St B G u s H L W) => st_geo x)
  have HR := Lib.hid (fun u => spright_is H L (hSp W) (hFr W) (hGc W) (hSc W) u)
  rw [show fineB H L (hSp W) (hFr W) (hGc W) (hSc W) = hOk H L W from rfl] at HR
  have HLf := Lib.hid (fun B G u (x : St B G u s H L W) => spleft_st x)
  have HH := Lib.hid h
  have hWl := h.len
  have hge := h.ge
  rcases newE_cases H L W sl wo with ⟨e, ok⟩ | ⟨e, q1, q2, room⟩ | ⟨e, q1, q2, room⟩
  · rw [newA, newW, e, if_neg (by decide), if_neg (by decide)]
    clear e h hWl hge HLf
    generalize hSp W = x0 at *
    generalize hFr W = x1 at *
    generalize hGc W = x2 at *
    generalize hSc W = x3 at *
    generalize hOk H L W = p at *
    generalize shOk sl wo = q at *
    generalize hdI sl wo = hd at *
    generalize szI sl wo = sz at *
    have hpq : p = true → q = false := by
      rintro rfl
      simpa using ok
    clear ok
    cases p with
    | true =>
      obtain rfl := hpq rfl
      clear hpq
      go_enter Tryz.func24, Tryz.ntmps24
      go_wp2_with (first
        | (go_at_call 28; refine HGet.out.mono ?_; rintro e w1 ⟨rfl, b1⟩; have H1 := Lib.hid b1; have HN := Lib.hid (NwS.made (HH.out.below b1) x0 x1 x2 x3); clear b1)
        | (go_at_call 51; refine (HHd.out _).mono ?_; rintro e w' ⟨rfl, hw⟩; obtain rfl := hw.symm)
        | (go_at_call 52; refine (HSz.out _).mono ?_; rintro e w' ⟨rfl, hw⟩; obtain rfl := hw.symm))
      go_region_held3 (fun u => (u.cell? ⟨w1.heap.size, 0, none⟩ = some (.int .i64 x0) ∧ u.cell? ⟨w1.heap.size, 1, none⟩ = some (.int .i64 x1) ∧ u.cell? ⟨w1.heap.size, 2, none⟩ = some (.int .i64 x2) ∧ u.cell? ⟨w1.heap.size, 3, none⟩ = some (.int .i64 x3)) ∧ NwS B G w1 s H L x0 x1 x2 x3 W u) (first
          | assumption
          | exact HN.out
          | exact NwS.keep HN.out (Below.refl _ _).drew
          | exact NwS.keep (by assumption) b4
          | exact NwS.keep (by assumption) b5) (first
        | (go_at_call 37; refine (HQ.out _ _ _ (by first | exact HN.out.2.s | exact (HN.out.2.below (Below.refl _ _).drew).s)).mono ?_; rintro e w4 ⟨rfl, b4⟩)
        | (go_at_call 43; refine (HR.out _).mono ?_; rintro e w5 ⟨rfl, b5⟩))
      rename_i hH
      have HP := Lib.hid hH.2
      clear hH HN HQ HR HHd HSz HGet
      go_wp2_with fail
      go_ret2
      exact ⟨rfl, HP.out.end HH.out H1.out⟩
    | false =>
      clear hpq
      go_enter Tryz.func24, Tryz.ntmps24
      go_wp2_with (first
        | (go_at_call 28; refine HGet.out.mono ?_; rintro e w1 ⟨rfl, b1⟩; have H1 := Lib.hid b1; have HN := Lib.hid (NwS.made (HH.out.below b1) x0 x1 x2 x3); clear b1)
        | (go_at_call 51; refine (HHd.out _).mono ?_; rintro e w' ⟨rfl, hw⟩; obtain rfl := hw.symm)
        | (go_at_call 52; refine (HSz.out _).mono ?_; rintro e w' ⟨rfl, hw⟩; obtain rfl := hw.symm))
      go_region_held3 (fun u => (u.cell? ⟨w1.heap.size, 0, none⟩ = some (.int .i64 x0) ∧ u.cell? ⟨w1.heap.size, 1, none⟩ = some (.int .i64 x1) ∧ u.cell? ⟨w1.heap.size, 2, none⟩ = some (.int .i64 x2) ∧ u.cell? ⟨w1.heap.size, 3, none⟩ = some (.int .i64 x3)) ∧ NwS B G w1 s H L x0 x1 x2 x3 W u) (first
          | assumption
          | exact HN.out
          | exact NwS.keep HN.out (Below.refl _ _).drew
          | exact NwS.keep (by assumption) b4
          | exact NwS.keep (by assumption) b5) (first
        | (go_at_call 37; refine (HQ.out _ _ _ (by first | exact HN.out.2.s | exact (HN.out.2.below (Below.refl _ _).drew).s)).mono ?_; rintro e w4 ⟨rfl, b4⟩)
        | (go_at_call 43; refine (HR.out _).mono ?_; rintro e w5 ⟨rfl, b5⟩))
      rename_i hH
      have HP := Lib.hid hH.2
      clear hH HN HQ HR HHd HSz HGet
      go_wp2_with fail
      go_ret2
      exact ⟨rfl, HP.out.end HH.out H1.out⟩
  · rw [newA, newW, e, if_neg (by decide), if_neg (by decide)]
    rw [q1] at HR
    rw [q2] at HHd
    simp only [q1, if_true] at HLf
    rw [szI, if_pos q2] at HSz
    clear e h hWl hge q1 q2
    generalize 16 + hSp W * (H : Int) + (H : Int) - hFr W = lf at *
    generalize hSp W = x0 at *
    generalize hFr W = x1 at *
    generalize hGc W = x2 at *
    generalize hSc W = x3 at *
    generalize hdI sl wo = hd at *
    generalize 1 + sl + wo = sz at *
    go_enter Tryz.func24, Tryz.ntmps24
    go_wp2_with (first
      | (go_at_call 28; refine HGet.out.mono ?_; rintro e w1 ⟨rfl, b1⟩; have H1 := Lib.hid b1; have HN := Lib.hid (NwS.made (HH.out.below b1) x0 x1 x2 x3); clear b1)
      | (go_at_call 51; refine (HHd.out _).mono ?_; rintro e w' ⟨rfl, hw⟩; obtain rfl := hw.symm)
      | (go_at_call 52; refine (HSz.out _).mono ?_; rintro e w' ⟨rfl, hw⟩; obtain rfl := hw.symm))
    go_region_held3 (fun u => (u.cell? ⟨w1.heap.size, 0, none⟩ = some (.int .i64 x0) ∧ u.cell? ⟨w1.heap.size, 1, none⟩ = some (.int .i64 x1) ∧ u.cell? ⟨w1.heap.size, 2, none⟩ = some (.int .i64 x2) ∧ u.cell? ⟨w1.heap.size, 3, none⟩ = some (.int .i64 x3)) ∧ NwS B G w1 s H L x0 x1 x2 x3 W u) (first
        | assumption
        | exact HN.out
        | exact NwS.keep HN.out (Below.refl _ _).drew
        | exact NwS.keep (by assumption) b4
        | exact NwS.keep (by assumption) b5) (first
      | (go_at_call 37; refine (HQ.out _ _ _ (by first | exact HN.out.2.s | exact (HN.out.2.below (Below.refl _ _).drew).s)).mono ?_; rintro e w4 ⟨rfl, b4⟩)
      | (go_at_call 43; refine (HR.out _).mono ?_; rintro e w5 ⟨rfl, b5⟩))
    rename_i hH
    have HP := Lib.hid hH.2
    clear hH HN HQ HR HHd HSz HGet
    go_wp2_with (go_at_call 23; refine (HLf.out _ _ _ HP.out.s).mono ?_; rintro e w6 ⟨rfl, b6⟩; replace HP := Lib.hid (HP.out.below b6); clear b6)
    go_ret2
    exact ⟨rfl, HP.out.end HH.out H1.out⟩
  · obtain ⟨a, n, m⟩ := new_yes (h := (H : Int)) (l := (L : Int)) (W := W) (by omega) e
    rw [m.ad, e]
    rw [q1] at HR
    rw [q2] at HHd
    simp only [q1, if_true] at HLf
    rw [szI, if_pos q2, m.sz] at HSz
    rw [m.sz, m.fr] at room
    have hn := hdI_num q2
    have m1 := m.n1
    have m2 := m.len
    have HLy := Lib.hid (fun B G u (x : St B G u s H L W) => alay_st x a n (hdI sl wo) m.n1 (by omega) hn.1 hn.2)
    have hfine : fineB H L (hSp W) ((a : Int) + (n : Int)) (hGc W) (hSc W) = true := by
      obtain ⟨c0, c1, c2, c3⟩ := m.ctl
      have := m.ok'
      rwa [hOk, c0, c1, c2, c3] at this
    have HSt := Lib.hid (fun B G u V (x : St B G u s H L V) => spset_yes x (hSp W) ((a : Int) + (n : Int)) (hGc W) (hSc W) hfine)
    have HV := Lib.hid m.lay
    rw [m.fr] at HGet HR HLf
    have ha1 : (a : Int) + (n : Int) ≤ 816 := by omega
    have ha0 : 0 ≤ (a : Int) + (n : Int) := by omega
    have hfr := m.fr
    have HBl : Hid (B ≤ w.heap.size ∧ ∀ b, G b → b < w.heap.size) := Lib.hid ⟨h.le, h.lt⟩
    clear e h hWl hge q1 q2 hn m1 m2 hfine m
    generalize newW H L W sl wo = V2 at *
    generalize 16 + hSp W * (H : Int) + (H : Int) - (a : Int) = lf at *
    generalize hSp W = x0 at *
    generalize hFr W = x1f at *
    clear hfr
    generalize hGc W = x2 at *
    generalize hSc W = x3 at *
    generalize hdI sl wo = hd at *
    go_enter Tryz.func24, Tryz.ntmps24
    go_wp2_with (first
      | (go_at_call 28; refine HGet.out.mono ?_; rintro e w1 ⟨rfl, b1⟩; have H1 := Lib.hid b1; have HN := Lib.hid (NwS.made (HH.out.below b1) x0 (a : Int) x2 x3); clear b1)
      | (go_at_call 51; refine (HHd.out _).mono ?_; rintro e w' ⟨rfl, hw⟩; obtain rfl := hw.symm)
      | (go_at_call 52; refine (HSz.out _).mono ?_; rintro e w' ⟨rfl, hw⟩; obtain rfl := hw.symm))
    go_region_held3 (fun u => (u.cell? ⟨w1.heap.size, 0, none⟩ = some (.int .i64 x0) ∧ u.cell? ⟨w1.heap.size, 1, none⟩ = some (.int .i64 (a : Int)) ∧ u.cell? ⟨w1.heap.size, 2, none⟩ = some (.int .i64 x2) ∧ u.cell? ⟨w1.heap.size, 3, none⟩ = some (.int .i64 x3)) ∧ NwS B G w1 s H L x0 (a : Int) x2 x3 W u) (first
        | assumption
        | exact HN.out
        | exact NwS.keep HN.out (Below.refl _ _).drew
        | exact NwS.keep (by assumption) b4
        | exact NwS.keep (by assumption) b5) (first
      | (go_at_call 37; refine (HQ.out _ _ _ (by first | exact HN.out.2.s | exact (HN.out.2.below (Below.refl _ _).drew).s)).mono ?_; rintro e w4 ⟨rfl, b4⟩)
      | (go_at_call 43; refine (HR.out _).mono ?_; rintro e w5 ⟨rfl, b5⟩))
    rename_i hH
    have HP := Lib.hid hH.2
    clear hH HN HQ HR HHd HSz HGet
    have HI := Lib.hid (And.intro (Nat.le_trans HBl.out.1 H1.out.size) (fun q => Nat.lt_irrefl _ (Nat.lt_of_lt_of_le (HBl.out.2 _ q) H1.out.size)))
    have c1 := HP.out.r.c1
    go_wp2_with (first
      | (go_at_call 23; refine (HLf.out _ _ _ HP.out.s).mono ?_; rintro e w6 ⟨rfl, b6⟩; replace HP := Lib.hid (HP.out.below b6); clear b6 c1; have c1 := HP.out.r.c1)
      | (go_at_call 53; refine (HLy.out _ _ _ HP.out.s).mono ?_; rintro e w7 ⟨rfl, h7, b7, k7⟩; replace HP := Lib.hid (HP.out.step h7 b7 k7); clear h7 b7 k7 c1; have c1 := HP.out.r.c1; have f1 := HP.out.r.f1; replace HP := Lib.hid (And.intro HP.out (HP.out.putFr HI.out.1 HI.out.2 ((a : Int) + (n : Int)))); have d0 := HP.out.2.r.c0; have d1 := HP.out.2.r.c1; have d2 := HP.out.2.r.c2; have d3 := HP.out.2.r.c3)
      | (go_at_call 54; refine (HSt.out _ _ _ _ HP.out.2.s).mono ?_; rintro e w8 ⟨rfl, h8, b8, k8⟩; rw [HV.out] at h8; have HE := Lib.hid (HP.out.2.step h8 b8 k8); clear h8 b8 k8))
    go_ret2
    exact ⟨rfl, HE.out.end HH.out H1.out⟩
end
end Go.Proofs.YtbghglkplbnnkaaGreatDoor
-- AllocInv
namespace Go.Proofs.YtbghglkplbnnkaaGreatDoor
open Go.RowKit Sec
open Go.Proofs.YtbghglkplbnnkaaGreatDoor.Bk

section
variable {h l : Int} {W : List Int} {s x : Int}
end
section
variable {H L z : Nat} {W : List Int} {k : Nat} {s x : Int}
end
section
variable {H L : Nat} {W l : List Int} {s x : Int}
end
section
variable {H L : Nat} {v s x : Int}
end
end Go.Proofs.YtbghglkplbnnkaaGreatDoor
