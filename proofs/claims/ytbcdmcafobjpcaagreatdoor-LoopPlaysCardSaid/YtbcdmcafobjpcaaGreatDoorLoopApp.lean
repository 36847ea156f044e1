/- Package loop: add, Append. -/
import Derived.Test.YtbcdmcafobjpcaaGreatDoorLoopWrite
namespace Go.Proofs.YtbcdmcafobjpcaaGreatDoor
open Go.RowKit Sec
open Go.Proofs.YtbcdmcafobjpcaaGreatDoor.Bk

/-- What Append does: the disk behind it, and the number that it tells. -/
def appR (fr n hd nx ep : Int) (D : Dsk) (c : List Chg) : Dsk × Int :=
  if grOk nx ep c = false then (D, 1) else if n - (nx - hd) < (c.length : Int) + 1 then (D, 5) else wrAll fr n D (groupL nx ep c)
def appN (nx x : Int) (c : List Chg) : Int := if x = 0 then nx + ((c.length : Int) + 1) else nx

set_option maxRecDepth 100000 in
set_option maxHeartbeats 2000000 in
theorem add_is {B : Nat} {G : Nat → Prop} {w : World} {q p : Nat} {D : Dsk} {fr n hd nx ep : Int} (h : LogAt B G w q p D fr n hd nx ep) (N : Nums fr n hd nx ep)
    (a : Option Addr) (l : List Chg) (cap : Nat) (hL : LiesAt w a (flat Chg.cells l)) (hl : l.length ≤ 1000)
    (hwc : D.waits.length + l.length + 2 < 2 ^ 40) (hdd : D.deeds + l.length + 3 < 2 ^ 60) (D' : Dsk) (x : Int) (hx : appR fr n hd nx ep D l = (D', x)) :
    Calls Tryz.prog 27 #[.pointer (some ⟨q, 0, none⟩), .slice a l.length cap] w fun e w' => ∃ v, e = .returned v ∧ ErrIs w' x v ∧ LogAt B G w' q p D' fr n hd (appN nx x l) ep ∧ Below B w w' ∧ KeptG G w w' := by
  have HN := Lib.hid N
  have HA := Lib.hid h
  have HX := Lib.hid hx
  have s4 := h.c.c4
  have s5 := h.c.c5
  have hq := h.c.lt
  have hxx := N.xx
  have hx0 : 0 ≤ nx := Int.le_trans N.h0 N.hx
  have HG : Hid (∀ u, Below w.heap.size w u → Calls Tryz.prog 58 #[.int .i64 nx, .int .i64 ep, .slice a l.length cap] u fun e w' => ∃ (a' : Option Addr) (c' : Nat), e = .returned (.tuple #[.slice a' (grL nx ep l).length c', .bool (grOk nx ep l)]) ∧ (w'.cell? ⟨q, 4, none⟩ = some (.int .i64 nx) ∧ w'.cell? ⟨q, 5, none⟩ = some (.int .i64 ep)) ∧ Below w.heap.size w w' ∧ LiesAt w' a' (flat Ent.cells (grL nx ep l)) ∧ ∀ b : Addr, a' = some b → w.heap.size ≤ b.block ∧ b.block < w'.heap.size) := Lib.hid (fun u hu => (group_is nx ep a l cap u (hL.below hu) hl).mono fun e w' ⟨v, he, hb, ho⟩ => by
    obtain ⟨a', c', rfl, hla, hform⟩ := own_formK ho
    have hc := hu.trans (hb.mono hu.size)
    refine ⟨a', c', he, ⟨(hc.cell hq).trans s4, (hc.cell hq).trans s5⟩, hc, hla, fun b hb' => ?_⟩
    rcases hform with r | ⟨g, r, h1, h2⟩
    · rw [r] at hb'; cases hb'
    · rw [r] at hb'
      obtain rfl : (⟨g, 0, none⟩ : Addr) = b := by simpa using hb'
      have := hu.size
      exact ⟨by show w.heap.size ≤ g; omega, h2⟩)
  have HE := Lib.hid (show (grOk nx ep l = true → grL nx ep l = groupL nx ep l ∧ (groupL nx ep l).length = l.length + 1 ∧ (∀ e ∈ groupL nx ep l, entOk e = true)) from fun hg => ⟨if_pos hg, groupL_len _ _ _, fun e he => by
    have := hg
    rw [grOk, List.all_eq_true] at this
    exact this e he⟩)
  have HR : Hid (appR fr n hd nx ep D l = if grOk nx ep l = false then (D, 1) else if n - (nx - hd) < (l.length : Int) + 1 then (D, 5) else wrAll fr n D (groupL nx ep l)) := Lib.hid rfl
  clear N h hL hx
  generalize grOk nx ep l = ok at *
  generalize grL nx ep l = L at *
  go_enter Tryz.func27, Tryz.ntmps27
  go_wp2
  go_region_held3 (fun u => u.cell? ⟨q, 4, none⟩ = some (.int .i64 nx) ∧ u.cell? ⟨q, 5, none⟩ = some (.int .i64 ep)) (first
      | assumption
      | exact ⟨s4, s5⟩
      | exact k1) (first
    | (go_at_call 58
       refine (HG.out _ ?_).mono ?_
       · first | exact Below.refl _ _ | exact (Below.refl _ _).drew
       rintro e' w1 ⟨a1, c1, rfl, k1, b1, l1, f1⟩))
  all_goals
    obtain ⟨d4, d5⟩ := k1
    have HB := Lib.hid (And.intro b1 (And.intro l1 f1))
    have A1 := Lib.hid (HA.out.more b1)
    clear b1 l1 f1 s4 s5 hq HG
    cases ok
    · have hq : D = D' ∧ 1 = x := by
        have := HX.out
        rw [HR.out, if_pos rfl] at this
        exact ⟨congrArg Prod.fst this, congrArg Prod.snd this⟩
      obtain ⟨rfl, rfl⟩ := hq
      go_wp2_with (first
        | (go_at_call 60; refine (new_err _ _ _).mono ?_; rintro e' w2 ⟨v2, rfl, b2, v2e⟩)
        | (go_at_call 59; refine (in_err _ _ _ _ v2e).mono ?_; rintro e' w3 ⟨v3, rfl, b3, v3e⟩))
      go_ret
      have bb := HB.out.1.trans ((b2.mono HB.out.1.size).trans (b3.mono (Nat.le_trans HB.out.1.size b2.size)))
      exact ⟨_, rfl, v3e, HA.out.below bb, bb.mono HA.out.le, HA.out.keptG bb⟩
    · obtain ⟨e1, e2, e3⟩ := HE.out rfl
      subst e1
      have HE3 := Lib.hid e3
      clear HE
      have hlen : ((groupL nx ep l).length : Int) = (l.length : Int) + 1 := by omega
      by_cases hroom : n - (nx - hd) < (l.length : Int) + 1
      · have hq : D = D' ∧ 5 = x := by
          have := HX.out
          rw [HR.out, if_neg (by decide), if_pos hroom] at this
          exact ⟨congrArg Prod.fst this, congrArg Prod.snd this⟩
        obtain ⟨rfl, rfl⟩ := hq
        have hr2 : n - (nx - hd) < ((groupL nx ep l).length : Int) := by omega
        clear e2 e3
        go_wp2_with (first
          | (go_at_call 21; refine (Room_is (A1.out.c) HN.out).mono ?_; rintro e' w2 ⟨rfl, b2⟩; have d4 := (b2.cell (cell_lt d4)).trans d4)
          | (go_at_call 60; refine (new_err _ _ _).mono ?_; rintro e' w3 ⟨v3, rfl, b3, v3e⟩)
          | (go_at_call 59; refine (in_err _ _ _ _ v3e).mono ?_; rintro e' w4 ⟨v4, rfl, b4, v4e⟩))
        go_ret
        have bb := HB.out.1.trans ((b2.trans ((b3.mono b2.size).trans (b4.mono (Nat.le_trans b2.size b3.size)))).mono HB.out.1.size)
        exact ⟨_, rfl, v4e, HA.out.below bb, bb.mono HA.out.le, HA.out.keptG bb⟩
      · have hX : wrAll fr n D (groupL nx ep l) = (D', x) := by
          have := HX.out
          rwa [HR.out, if_neg (by decide), if_neg hroom] at this
        have hr2 : ¬ n - (nx - hd) < ((groupL nx ep l).length : Int) := by omega
        have HWR : Hid (∀ u, Below w1.heap.size w1 u → Calls Tryz.prog 61 #[.pointer (some ⟨q, 0, none⟩), .slice a1 (groupL nx ep l).length c1] u fun e w' => ∃ v, e = .returned v ∧ ErrIs w' x v ∧ LogAt B G w' q p D' fr n hd nx ep ∧ Below B u w' ∧ KeptG G u w') := Lib.hid (fun u hu => by
          refine (write_is (A1.out.below hu) HN.out a1 (groupL nx ep l) c1 (HB.out.2.1.below hu) (fun b hb => .inr (HB.out.2.2 b hb)) (by omega) HE3.out (by omega) (by omega) D' x hX).mono fun e w' ⟨v, he, hv, h1, h2, h3⟩ => ?_
          exact ⟨v, he, hv, h1.mono (fun b r => .inl r), h2, h3.mono (fun b r => .inl r)⟩)
        clear e2 e3 hX hroom
        generalize groupL nx ep l = L at *
        go_wp2_with (go_at_call 21; refine (Room_is (A1.out.c) HN.out).mono ?_; rintro e' w2 ⟨rfl, b2⟩)
        go_at_call 61
        refine (HWR.out _ b2).mono ?_
        rintro e' w3 ⟨v3, rfl, v3e, A3, b3, g3⟩
        have Z := Lib.hid (And.intro v3e (And.intro A3 (And.intro (HB.out.1.mono HA.out.le |>.trans ((b2.mono (Nat.le_trans HA.out.le HB.out.1.size)).trans b3)) ((HA.out.keptG (HB.out.1.trans (b2.mono HB.out.1.size))).trans g3))))
        have HL := Lib.hid hlen
        clear v3e A3 b2 b3 g3 hr2 hlen HWR A1 d5
        by_cases hx0 : x = 0
        · subst hx0
          have hv : v3 = .nilIface := Z.out.1.nil
          subst hv
          have d4 := Z.out.2.1.c.c4
          have f4 := Z.out.2.1.c.f 4
          have hln : (L.length : Int) ≤ 1001 := by have := HL.out; omega
          have HT := Lib.hid (show nx + (L.length : Int) = appN nx 0 l by rw [HL.out]; rfl)
          go_wp2
          go_ret
          rw [HT.out]
          have A3 := Z.out.2.1
          exact ⟨_, rfl, errNil _, ⟨A3.d.set (a := ⟨q, 4, none⟩) (.inr rfl) A3.ge _, A3.c.next _, A3.ge, A3.ng⟩, Z.out.2.2.1.setCell (p := ⟨q, 4, none⟩) A3.ge _, Z.out.2.2.2.trans (set_kept (a := ⟨q, 4, none⟩) _ A3.ng)⟩
        · obtain ⟨tv, vv, rfl⟩ := Z.out.1.iface hx0
          have HT := Lib.hid (show nx = appN nx x l from (if_neg hx0).symm)
          go_wp2_with (go_at_call 59; refine (in_err x _ _ _ Z.out.1).mono ?_; rintro e' w6 ⟨v6, rfl, b6, v6e⟩)
          go_ret
          rw [← HT.out]
          exact ⟨_, rfl, v6e, Z.out.2.1.below b6, Z.out.2.2.1.trans (b6.mono Z.out.2.1.le), Z.out.2.2.2.trans (Z.out.2.1.keptG b6)⟩

set_option maxHeartbeats 1000000 in
theorem append_is {B : Nat} {G : Nat → Prop} {w : World} {q p : Nat} {D : Dsk} {fr n hd nx ep : Int} (h : LogAt B G w q p D fr n hd nx ep) (N : Nums fr n hd nx ep)
    (a : Option Addr) (l : List Chg) (cap : Nat) (hL : LiesAt w a (flat Chg.cells l)) (hl : l.length ≤ 1000)
    (hwc : D.waits.length + l.length + 2 < 2 ^ 40) (hdd : D.deeds + l.length + 3 < 2 ^ 60) (D' : Dsk) (x : Int) (hx : appR fr n hd nx ep D l = (D', x)) :
    Calls Tryz.prog 8 #[.pointer (some ⟨q, 0, none⟩), .slice a l.length cap] w fun e w' => e = .returned (.int .i64 x) ∧ LogAt B G w' q p D' fr n hd (appN nx x l) ep ∧ Below B w w' ∧ KeptG G w w' := by
  have HD := Lib.hid (add_is h N a l cap hL hl hwc hdd D' x hx)
  have HC := Lib.hid h.c
  clear h N hL hl hwc hdd hx
  go_enter Tryz.func8, Tryz.ntmps8
  go_wp2_with (first
    | (go_at_call 25; refine (none_no HC.out).mono ?_; rintro e' w1 ⟨rfl, rfl⟩)
    | (go_at_call 27; refine HD.out.mono ?_; rintro e' w2 ⟨v2, rfl, v2e, A2, b2, g2⟩)
    | (go_at_call 26; refine (errno_err x _ _ v2e A2.ty).mono ?_; rintro e' w3 ⟨rfl, b3⟩))
  go_ret
  exact ⟨rfl, A2.below b3, b2.trans (b3.mono A2.le), g2.trans (A2.keptG b3)⟩
theorem append_nil (v : Value) (w : World) : Calls Tryz.prog 8 #[.pointer none, v] w fun e w' => e = .returned (.int .i64 1) ∧ w' = w := by
  go_enter Tryz.func8, Tryz.ntmps8
  go_wp2_with (go_at_call 25; refine (none_yes _).mono ?_; rintro e' w1 ⟨rfl, rfl⟩)
  go_ret
  exact ⟨rfl, rfl⟩
end Go.Proofs.YtbcdmcafobjpcaaGreatDoor
