/- Plain facts for FollowShares: objects that are followed one by one, out of the first half into the second. -/
import Derived.Test.YtooligoacgemlaaGreatDoorZFollowMath
import Derived.Test.YtooligoacgemlaaGreatDoorZAllocA
import Derived.Test.YtooligoacgemlaaGreatDoorZAllocB
set_option linter.unusedVariables false
set_option linter.unusedSimpArgs false
namespace Go.Proofs.YtooligoacgemlaaGreatDoor
open Go.RowKit Sec
open Go.Proofs.YtooligoacgemlaaGreatDoor.Bk

/-- An object's size, as its header says. -/
def osz (V : List Int) (o : Int) : Int := 1 + prS (V.getD o.toNat 0) + prW (V.getD o.toNat 0)
theorem osz_pos (V : List Int) (o : Int) : 1 ≤ osz V o ∧ osz V o ≤ 46 := by
  have hp := shOk_yes (pr_range (V.getD o.toNat 0))
  rw [osz]
  omega
/-- The sizes of the objects that f names, together. -/
def used (V : List Int) (f : Int → Bool) : List Int → Int
  | [] => 0
  | o :: T => (if f o = true then osz V o else 0) + used V f T
theorem used_ge (V : List Int) (f : Int → Bool) : ∀ T, 0 ≤ used V f T
  | [] => Int.le_refl _
  | o :: T => by
    have := used_ge V f T
    have := osz_pos V o
    rw [used]
    split <;> omega
theorem used_le (V : List Int) (f : Int → Bool) : ∀ T, used V f T ≤ used V (fun _ => true) T
  | [] => Int.le_refl _
  | o :: T => by
    have := used_le V f T
    have := osz_pos V o
    rw [used, used, if_pos rfl]
    split <;> omega
theorem used_same (V : List Int) {f g : Int → Bool} : ∀ T, (∀ o ∈ T, f o = g o) → used V f T = used V g T
  | [], _ => rfl
  | o :: T, h => by
    rw [used, used, h o (by simp), used_same V T (fun x hx => h x (by simp [hx]))]
/-- One more. -/
theorem used_more (V : List Int) {f g : Int → Bool} {o : Int} (h0 : f o = false) (h1 : g o = true) : ∀ T, T.Nodup → o ∈ T → (∀ x ∈ T, x ≠ o → g x = f x) → used V g T = used V f T + osz V o
  | [], _, hm, _ => absurd hm List.not_mem_nil
  | x :: T, hn, hm, hs => by
    obtain ⟨hx, hn2⟩ := List.nodup_cons.1 hn
    rcases List.mem_cons.1 hm with rfl | hm
    · rw [used, used, h0, h1, if_pos rfl, if_neg (by decide), used_same V T (fun y hy => hs y (by simp [hy]) (fun e => hx (e ▸ hy)))]
      omega
    · have hne : x ≠ o := fun e => hx (e ▸ hm)
      rw [used, used, hs x (by simp) hne, used_more V h0 h1 T hn2 hm (fun y hy => hs y (by simp [hy]))]
      omega
/-- All objects' sizes are what is in use; each lies within. -/
theorem objGo_used {W : List Int} {fr : Int} : ∀ (n : Nat) (a : Int), a ≤ fr → fr - a < (n : Int) → (objGo W fr n a).2 = true → used W (fun _ => true) (objGo W fr n a).1 = fr - a ∧ ∀ o ∈ (objGo W fr n a).1, a ≤ o ∧ o + osz W o ≤ fr
  | 0, a, h1, h2, _ => by omega
  | n + 1, a, h1, h2, h3 => by
    by_cases q : fr ≤ a
    · rw [objGo_end q]
      refine ⟨?_, fun o ho => absurd ho List.not_mem_nil⟩
      show (0 : Int) = fr - a
      omega
    · by_cases r : hdOk (W.getD a.toNat 0) = false ∨ fr < a + 1 + prS (W.getD a.toNat 0) + prW (W.getD a.toNat 0)
      · rw [objGo_no n q r] at h3
        exact absurd h3 (by decide)
      · have hr : ¬ fr < a + 1 + prS (W.getD a.toNat 0) + prW (W.getD a.toNat 0) := fun e => r (.inr e)
        have hp := shOk_yes (pr_range (W.getD a.toNat 0))
        rw [objGo_yes n q r] at h3 ⊢
        obtain ⟨i1, i2⟩ := objGo_used (W := W) (fr := fr) n (a + 1 + prS (W.getD a.toNat 0) + prW (W.getD a.toNat 0)) (by omega) (by omega) h3
        have ho : osz W a = 1 + prS (W.getD a.toNat 0) + prW (W.getD a.toNat 0) := rfl
        refine ⟨?_, fun o hm => ?_⟩
        · rw [used, if_pos rfl, i1, ho]
          omega
        · rcases List.mem_cons.1 hm with rfl | hm
          · rw [ho]
            omega
          · have := i2 o hm
            omega
/-- The cells as they were made (V0, the objects T), and what was moved since: o lies at mv o (0: it was not moved). -/
structure Shr (H L : Nat) (V0 T V : List Int) (mv : Int → Int) : Prop where
  len : V.length = 16 + 2 * H
  sp : hSp V = 1
  gc : hGc V = 1
  ok : hOk H L V = true
  num : NumC V
  un : ∀ o ∈ T, mv o = 0 → V.getD o.toNat 0 = V0.getD o.toNat 0
  mo : ∀ o ∈ T, mv o ≠ 0 → V.getD o.toNat 0 = 33554432 + mv o ∧ 16 + (H : Int) ≤ mv o ∧ mv o < 16 + (H : Int) + H
  ob : (objs H L V).2 = true ∧ ∀ o ∈ T, mv o ≠ 0 → mv o ∈ (objs H L V).1
  us : hFr V = 16 + (H : Int) + used V0 (fun o => decide (mv o ≠ 0)) T
/-- What is known of the objects as they were made. -/
structure ShT (H L : Nat) (V0 T : List Int) : Prop where
  all : used V0 (fun _ => true) T ≤ (H : Int)
  each : ∀ o ∈ T, 16 ≤ o ∧ o + osz V0 o ≤ 16 + (H : Int) ∧ hdOk (V0.getD o.toNat 0) = true
  nodup : T.Nodup
section
variable {H L : Nat} {V0 T V : List Int} {mv : Int → Int}
theorem Ordered.sht (x : Ordered H L V0 T) : ShT H L V0 T := by
  obtain ⟨f1, f2, f3⟩ := x.fr
  have e := x.ob
  rw [objs, if_pos x.ok, x.sp] at e
  have e1 : (objGo V0 (hFr V0) 1000 (16 + 0 * (H : Int))).1 = T := by rw [e]
  have e2 : (objGo V0 (hFr V0) 1000 (16 + 0 * (H : Int))).2 = true := by rw [e]
  obtain ⟨u1, u2⟩ := objGo_used (W := V0) (fr := hFr V0) 1000 (16 + 0 * (H : Int)) (by omega) (by omega) e2
  have u3 := objGo_hd (W := V0) (fr := hFr V0) 1000 (16 + 0 * (H : Int)) (by omega)
  rw [e1] at u1 u2 u3
  refine ⟨by omega, fun o ho => ?_, ?_⟩
  · have := u2 o ho
    exact ⟨by omega, by omega, (u3 o ho).2⟩
  · exact (x.sorted).imp (fun h => by omega)
/-- Turned about: the second half is in use, a collection has begun. -/
theorem Ordered.shr (x : Ordered H L V0 T) (hn : NumC V0) : Shr H L V0 T (ctlW V0 1 (16 + (H : Int)) 1 (16 + (H : Int))) (fun _ => 0) := by
  have hl := x.len
  obtain ⟨f1, _⟩ := fine_yes x.ok
  have hq := geOk_yes f1
  obtain ⟨c0, c1, c2, c3⟩ := ctl_at (W := V0) (sp := 1) (fr := 16 + (H : Int)) (gc := 1) (sc := 16 + (H : Int)) (by omega)
  have ok : hOk H L (ctlW V0 1 (16 + (H : Int)) 1 (16 + (H : Int))) = true := by
    rw [hOk, c0, c1, c2, c3, fine_mid f1 (by omega), decide_eq_true (by omega), Bool.true_and, decide_eq_true (show (1 : Int) = 1 ∧ 16 + 1 * (H : Int) ≤ 16 + (H : Int) ∧ 16 + (H : Int) ≤ 16 + (H : Int) by omega), Bool.or_true]
  refine ⟨by rw [ctlW_len]; exact hl, c0, c2, ok, ?_, fun o ho _ => ?_, fun o ho h => absurd rfl h, ⟨?_, fun o ho h => absurd rfl h⟩, ?_⟩
  · exact (((hn.set 0 (by decide) (by decide)).set 1 (by omega) (by omega)).set 2 (by decide) (by decide)).set 3 (by omega) (by omega)
  · have := (x.sht.each o ho).1
    rw [ctlW, getD_set_ne (by omega), getD_set_ne (by omega), getD_set_ne (by omega), getD_set_ne (by omega)]
  · rw [objs_none H L _ ok (by rw [c0, c1]; omega)]
  · rw [c1]
    have : used V0 (fun o => decide ((0 : Int) ≠ 0)) T = 0 := by
      clear x
      induction T with
      | nil => rfl
      | cons o T ih =>
        rw [used, ih, if_neg (by decide)]
        rfl
    rw [this]
    omega
/-- What was moved is found where it lies, and nothing turns. -/
theorem Shr.again (x : Shr H L V0 T V mv) (t : ShT H L V0 T) {o : Int} (ho : o ∈ T) (hm : mv o ≠ 0) : folE H L V o = 0 ∧ folV H L V o = mv o ∧ folW H L V o = V := by
  obtain ⟨m1, m2, m3⟩ := x.mo o ho hm
  obtain ⟨t1, t2, _⟩ := t.each o ho
  have hz := osz_pos V0 o
  obtain ⟨f1, _⟩ := fine_yes x.ok
  have hq := geOk_yes f1
  have hfw : fwOk (33554432 + mv o) = true := decide_eq_true (by omega)
  have hfa : fwA (33554432 + mv o) = mv o := by rw [fwA, if_pos hfw]; omega
  have hin : inB H (hSp V) (mv o) = true := by rw [x.sp]; exact decide_eq_true (by omega)
  have hout : inB H (hSp V) o = false := by rw [x.sp]; exact decide_eq_false (by omega)
  have hoth : inB H (1 - hSp V) o = true := by rw [x.sp]; exact decide_eq_true (by omega)
  have hlk : lk H L V o = (mv o, true) := by
    rw [lk, if_neg (by rw [x.ok]; decide), if_neg (by rw [hout]; simp; omega), if_neg (by rw [hoth, x.gc]; decide), m1, if_pos hfw, hfa, if_pos hin]
  have hM : ¬ folM H L V o = true := fun q => by
    obtain ⟨_, _, _, _, x5⟩ := folM_yes q
    rw [hlk] at x5
    have : mv o = o := x5
    omega
  have hE : folE H L V o = 0 := by rw [folE, if_neg (by rw [x.ok]; decide), if_neg (by rw [hlk]; simp), if_neg (fun q => hM q.1)]
  exact ⟨hE, by rw [folV, if_pos hE, if_neg hM, hlk], if_neg (fun q => hM q.2)⟩
/-- What was not moved is moved behind all others. -/
theorem Shr.first (x : Shr H L V0 T V mv) (t : ShT H L V0 T) {o : Int} (ho : o ∈ T) (hm : mv o = 0) :
    folE H L V o = 0 ∧ folV H L V o = hFr V ∧ Shr H L V0 T (folW H L V o) (fun y => if y = o then hFr V else mv y) ∧ hFr V ∈ (objs H L (folW H L V o)).1 ∧
    (folW H L V o).getD (hFr V).toNat 0 = V0.getD o.toNat 0 ∧ hFr (folW H L V o) = hFr V + osz V0 o := by
  have hWl : (V.length : Int) = 16 + 2 * (H : Int) := by have := x.len; omega
  have hu := x.un o ho hm
  obtain ⟨t1, t2, t3⟩ := t.each o ho
  have hz := osz_pos V0 o
  obtain ⟨f1, _, _, f4, _⟩ := fine_yes x.ok
  have hq := geOk_yes f1
  have hh := hdOk_yes t3
  have hfw : fwOk (V0.getD o.toNat 0) = false := decide_eq_false (by omega)
  have hout : inB H (hSp V) o = false := by rw [x.sp]; exact decide_eq_false (by omega)
  have hoth : inB H (1 - hSp V) o = true := by rw [x.sp]; exact decide_eq_true (by omega)
  have hosz : osz V0 o = 1 + prS (V0.getD o.toNat 0) + prW (V0.getD o.toNat 0) := rfl
  have hlk : lk H L V o = (o, true) := by
    rw [lk, if_neg (by rw [x.ok]; decide), if_neg (by rw [hout]; simp; omega), if_neg (by rw [hoth, x.gc]; decide), hu, if_neg (by rw [hfw]; decide), if_pos ⟨t3, by rw [x.sp]; omega⟩]
  have hM : folM H L V o = true := by
    rw [folM, x.ok, hlk, hout, decide_eq_true (show o ≠ 0 by omega)]
    simp
  have hZ : folZ V o = osz V0 o := by rw [folZ, hu, hosz]
  have hus := x.us
  have hroom := used_more V0 (f := fun y => decide (mv y ≠ 0)) (g := fun y => decide ((if y = o then 1 else mv y) ≠ 0)) (o := o) (decide_eq_false (fun z => z hm)) (decide_eq_true (by rw [if_pos rfl]; decide)) T t.nodup ho (fun y _ hy => by simp only [if_neg hy])
  have hle := used_le V0 (fun y => decide ((if y = o then 1 else mv y) ≠ 0)) T
  have hall := t.all
  have hE : folE H L V o = 0 := by
    rw [folE, if_neg (by rw [x.ok]; decide), if_neg (by rw [hlk]; simp), if_neg (fun q => by
      have := q.2
      rw [hZ, x.sp, hus] at this
      omega)]
  obtain ⟨n, f, z, m⟩ := fol_mov hWl hE hM
  have ea := m.ea
  have hfr := m.fr
  have hsz := m.sz
  rw [hZ] at hsz
  have hf16 := m.f16
  have hn : o.toNat = n := by omega
  have hfl := m.fl
  have hbase : 16 + (H : Int) ≤ (f : Int) := by rw [hus] at hfr; have := used_ge V0 (fun o => decide (mv o ≠ 0)) T; omega
  have hfe := m.fe
  rw [x.sp] at hfe
  have s0 : hSp (folW H L V o) = hSp V := fol_low hWl _ (by decide) (by decide)
  have s2 : hGc (folW H L V o) = hGc V := fol_low hWl _ (by decide) (by decide)
  have s1 : hFr (folW H L V o) = hFr V + osz V0 o := by
    rw [hFr, m.at, if_neg (by have := m.n16; omega), if_pos rfl, hfr]
    omega
  have hk' := fol_ok hWl x.ok o
  have hnew : (folW H L V o).getD f 0 = V0.getD o.toNat 0 := by
    rw [m.at, if_neg (by have := m.n16; omega), if_neg (by omega), if_pos ⟨Nat.le_refl _, by have := m.z1; omega⟩, Nat.sub_self, Nat.add_zero, ← hn, hu]
  have hoth2 : ∀ y ∈ T, y ≠ o → (folW H L V o).getD y.toNat 0 = V.getD y.toNat 0 := fun y hy hne => by
    obtain ⟨y1, y2, _⟩ := t.each y hy
    have := osz_pos V0 y
    rw [m.at, if_neg (by omega), if_neg (by omega), if_neg (by omega)]
  have e1 : objs H L V = objGo V (f : Int) 1000 (16 + 1 * (H : Int)) := by rw [objs, if_pos x.ok, x.sp, hfr]
  have e2 : objs H L (folW H L V o) = objGo (folW H L V o) ((f : Int) + (z : Int)) 1000 (16 + 1 * (H : Int)) := by
    rw [objs, if_pos hk', s0, x.sp, s1, hfr]
    congr 1
    omega
  have hob := x.ob
  rw [e1] at hob
  have hmore := objGo_more (W := V) (V := folW H L V o) (a := f) (n := z) m.z1 (by rw [hnew]; exact t3) (by rw [hnew]; omega) 1000 (16 + 1 * (H : Int)) (by omega) (by omega) (by omega) (fun i hi hif => by
    rw [m.at, if_neg (by omega), if_neg (by omega), if_neg (by omega)]) hob.1
  refine ⟨hE, by rw [m.ev, hfr], ⟨?_, s0.trans x.sp, s2.trans x.gc, hk', fol_num hWl x.num o, fun y hy hy0 => ?_, fun y hy hy0 => ?_, ⟨?_, fun y hy hy0 => ?_⟩, ?_⟩, ?_, ?_, s1⟩
  · rw [m.ew, List.length_set, List.length_set, cpfill_len]
    exact x.len
  · by_cases e : y = o
    · simp only [if_pos e] at hy0
      omega
    · simp only [if_neg e] at hy0
      rw [hoth2 y hy e]
      exact x.un y hy hy0
  · by_cases e : y = o
    · simp only [if_pos e]
      rw [e, hn, m.at, if_pos rfl]
      have := m.z1
      omega
    · simp only [if_neg e] at hy0 ⊢
      rw [hoth2 y hy e]
      exact x.mo y hy hy0
  · rw [e2, hmore]
  · rw [e2, hmore]
    by_cases e : y = o
    · simp only [if_pos e]
      rw [hfr]
      simp
    · simp only [if_neg e] at hy0 ⊢
      have := hob.2 y hy hy0
      exact List.mem_append.2 (.inl this)
  · have : used V0 (fun y => decide ((if y = o then hFr V else mv y) ≠ 0)) T = used V0 (fun y => decide ((if y = o then 1 else mv y) ≠ 0)) T := used_same V0 T (fun y _ => by
      by_cases e : y = o
      · simp only [if_pos e]
        rw [decide_eq_true (show hFr V ≠ 0 by omega)]
        rfl
      · simp only [if_neg e])
    rw [this, s1]
    omega
  · rw [e2, hmore, hfr]
    simp
  · rw [hfr, Int.toNat_natCast]
    exact hnew
end
end Go.Proofs.YtooligoacgemlaaGreatDoor
