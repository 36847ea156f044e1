/- append(append(nil, keep...), -7)[:len(keep)]: laws for it; what it leaves. -/
import Derived.Test.YtobgcengijnffaaSecKeep
import Derived.Deep.RegionLaw
import Derived.Deep.AppendLies
namespace Go.Proofs.Ytobgcengijnffaa
open Go.RowKit

/-- append(nil, x...), at a step of a region that draws its order. -/
theorem step_append_copy {P : Program} {ops : Array Oper} {o : Oper} {ac : Act} {w : World} {K : Act → World → Prop} {Q : Exit → Act → World → Prop} {E : Prop} (hgd : o.guard = none) (x : Operand) (t : TypeId)
    (ho : o.op = .call { callee := .builtin .append, args := #[.const (.slice none 0 0), x], argTypes := #[t, t] })
    (e : TypeId) (i : TypeInfo) (zv : Value) (k bytes : Nat) (ht : P.underlying t = some (.slice e)) (hi : P.info? e = some i) (hz : i.zero = some zv) (hsize : i.size = k) (hby : i.bytes = bytes) (hzs : zv.cells.size = k) (hk : 0 < k) (hb40 : bytes ≤ 40)
    (a : Option Addr) (m c : Nat) (cs : List Value) (hx : ac.eval x = .slice a m c) (hown : ∀ j u, cs[j]? = some u → ∃ b : Addr, a = some b ∧ w.cell? (b.add j) = some u) (hl : cs.length = m * k) (h1 : ∀ u ∈ cs, u.oneCell' = true) (hm : m < 2 ^ 40)
    (h : ∀ v w', Below w.heap.size w w' → w'.ownsRow w.heap.size e k v m cs → K (ac.put o.dst v) w') :
    if Region.wanted o (yielded ops ac.tmps) = true then Oper.wp P o ac w K Q else E := by
  rcases Nat.eq_zero_or_pos m with h0 | h0
  · subst h0
    have hcs : cs = [] := List.eq_nil_of_length_eq_zero (by simpa using hl)
    subst hcs
    have hw : Region.wanted o (yielded ops ac.tmps) = true := by simp [Region.wanted, hgd]
    rw [if_pos hw]
    unfold Oper.wp execOp
    have hr := run_append_nil_zero (P := P) w t o.type e i ht hi a c
    simp only [ho, resolve, invoke, builtin, Sem.run_bind, Sem.run_pure, Result.andThen_ok, List.map_toArray, List.map_cons, List.map_nil, hx, show ac.eval (.const (.slice none 0 0)) = .slice none 0 0 from rfl, hr]
    exact h _ _ (Below.refl _ _) (World.ownsRow_nil _ _ _ _)
  · have h0c : 0 < cs.length := by rw [hl]; exact Nat.mul_pos h0 hk
    obtain ⟨b, rfl, _⟩ := hown 0 _ (List.getElem?_eq_getElem h0c)
    refine step_append_lies w hgd (.const (.slice none 0 0)) x t ho w.heap.size e i zv k bytes ht hi hz hsize hby hzs hk (.slice none 0 0) 0 [] rfl (World.ownsRow_nil _ _ _ _) b m c cs hx hl (fun j u hu => by
      obtain ⟨b', hb, hc⟩ := hown j u hu
      obtain rfl : b = b' := by simpa using hb
      exact hc) h1 h0 (by unfold maxLen; omega) (by
        have : (0 + m) * bytes ≤ 2 ^ 40 * 40 := Nat.mul_le_mul (by omega) hb40
        omega) (Nat.le_refl _) _ rfl ?_
    intro g cap w' ho' hg' _ _
    simp only [Nat.zero_add, List.nil_append] at ho' ⊢
    exact h _ w' ((Below.refl _ _).grown hg' (Nat.le_refl _) (fun k hk => by cases hk)) ho'

theorem Low.up {B : Nat} {w u : World} {a : Option Addr} {kl : List Int} (h : Low B w a kl) (b : Below B w u) : ∀ j v, (kl.map (Value.int .i64))[j]? = some v → ∃ c : Addr, a = some c ∧ u.cell? (c.add j) = some v := fun j v hv => by
  rw [List.getElem?_map] at hv
  obtain ⟨z, hz, rfl⟩ := Option.map_eq_some_iff.1 hv
  obtain ⟨c, h1, _, h3⟩ := h.below b j z hz
  exact ⟨c, h1, h3⟩
theorem ints_one {kl : List Int} : ∀ u ∈ kl.map (Value.int .i64), u.oneCell' = true := fun u hu => by
  obtain ⟨x, _, rfl⟩ := List.mem_map.1 hu
  rfl
/-- What the statement leaves: a slice of its own with the keeps. -/
def ArmCut (W0 : World) (kl : List Int) (s : Value) (wx : World) : Prop :=
  ∃ gm cm, s = .slice (some ⟨gm, 0, none⟩) kl.length cm ∧ W0.heap.size ≤ gm ∧ gm < wx.heap.size ∧ wx.rangeAt gm 0 (kl.map (Value.int .i64)) ∧ wx.there gm 0 kl.length ∧ Below W0.heap.size W0 wx
theorem buildOne (n : Int) (w : World) :
    (Instr.buildSlice 29 1 #[(0, .int .i64 n)]).run Try.prog w = .ok (.slice (some ⟨w.heap.size, 0, none⟩) 1 1) (w.alloc (.cells #[.int .i64 n] 3)) := by
  go_simp
theorem owns_cap {w : World} {base : Nat} {e : TypeId} {k g m c : Nat} {cs : List Value} (h : w.ownsRow base e k (.slice (some ⟨g, 0, none⟩) m c) m cs) : m ≤ c := by
  rcases h.2 with ⟨q, _⟩ | ⟨g', cap', cur, hv, _, _, hc, _⟩
  · cases q
  · simp only [Value.slice.injEq] at hv
    rw [hv.2.2]; exact hc
/-- Behind the first append: what is known of the world. -/
structure Arm1 (W0 : World) (e : TypeId) (kl : List Int) (v1 : Value) (w1 : World) : Prop where
  bel : Below W0.heap.size W0 w1
  own : w1.ownsRow 0 e 1 v1 kl.length (kl.map (Value.int .i64))
  ge : ∀ g, v1.ownBlock = some g → W0.heap.size ≤ g
theorem Arm1.of {W0 u w1 : World} {e : TypeId} {kl : List Int} {v1 : Value} (b0 : Below W0.heap.size W0 u) (b1 : Below u.heap.size u w1) (own : w1.ownsRow u.heap.size e 1 v1 kl.length (kl.map (Value.int .i64))) : Arm1 W0 e kl v1 w1 :=
  ⟨b0.trans (b1.mono b0.size), owns_zero own, fun g hg => Nat.le_trans b0.size (own.lt g hg).1⟩
theorem Arm1.alloc {W0 w1 : World} {e : TypeId} {kl : List Int} {v1 : Value} (h : Arm1 W0 e kl v1 w1) (o : Obj) : Arm1 W0 e kl v1 (w1.alloc o) :=
  ⟨h.bel.alloc h.bel.size _, h.own.alloc o, h.ge⟩
theorem Arm1.cut {W0 w1 w4 : World} {e : TypeId} {kl : List Int} {v1 : Value} {g cap : Nat} (h : Arm1 W0 e kl v1 w1) (hown : w4.ownsRow 0 e 1 (.slice (some ⟨g, 0, none⟩) (kl.length + 1) cap) (kl.length + 1) (kl.map (Value.int .i64) ++ [.int .i64 (-7)])) (hgr : w1.grownBy w4 v1.ownBlock)
    (hat : v1.ownBlock = some g ∨ g = w1.heap.size) (hlt : g < w4.heap.size) : Below W0.heap.size W0 w4 ∧ W0.heap.size ≤ g ∧ g < w4.heap.size ∧ w4.rangeAt g 0 (kl.map (Value.int .i64)) ∧ w4.there g 0 kl.length ∧ kl.length + 1 ≤ cap := by
  have hr := owns_range hown
  refine ⟨h.bel.grown hgr h.bel.size (fun k hk => h.ge k hk), ?_, hlt, fun j v hv => hr.1 j v ?_, fun j hj => hr.2 j (by omega), owns_cap hown⟩
  · rcases hat with q | q
    · exact h.ge g q
    · have := h.bel.size; omega
  · have := (List.getElem?_eq_some_iff.1 hv).1
    rw [List.getElem?_append_left this]; exact hv
/-- Both disks, and a row of ints that neither has. -/
structure MRow (B : Nat) (G : Nat → Prop) (w0 : World) (p q : Nat) (D : Dsk) (R : Rsk) (gm n : Nat) (u : World) : Prop where
  duo : DuoK B G u p q D R
  cel : ∀ j, j < n → ∃ x : Int, u.cell? ⟨gm, j, none⟩ = some (.int .i64 x)
  frz : ∀ j, j < n → u.frozen? ⟨gm, j, none⟩ = false
  bel : Below B w0 u
theorem DuoK.set {B : Nat} {G : Nat → Prop} {u : World} {p q : Nat} {D : Dsk} {R : Rsk} (h : DuoK B G u p q D R) (gm j : Nat) (hg : G gm) (v : Value) : DuoK B G (u.setCell ⟨gm, j, none⟩ v) p q D R := by
  obtain ⟨y, z, e1, e2, i1, i2, b1, b2, hd, hgs⟩ := h
  have hne : ∀ b, b ≠ gm → (u.setCell ⟨gm, j, none⟩ v).heap[b]? = u.heap[b]? := fun b hb => heap_setCell_ne _ _ _ _ hb
  refine ⟨y, z, e1, e2, i1.of_blocks (by rw [size_setCell']; exact Nat.le_refl _) (fun b q => hne b (fun e => (hgs gm hg).2.1 (e ▸ q))), i2.of_blocks (by rw [size_setCell']; exact Nat.le_refl _) (fun b q => hne b (fun e => (hgs gm hg).2.2 (e ▸ q))), b1, b2, hd, fun b g => ?_⟩
  rw [size_setCell']
  exact hgs b g
theorem MRow.set {B : Nat} {G : Nat → Prop} {w0 u : World} {p q : Nat} {D : Dsk} {R : Rsk} {gm n : Nat} (h : MRow B G w0 p q D R gm n u) (hg : G gm) (hB : B ≤ gm) (j : Nat) (x : Int) : MRow B G w0 p q D R gm n (u.setCell ⟨gm, j, none⟩ (.int .i64 x)) := by
  refine ⟨h.duo.set gm j hg _, fun i hi => ?_, fun i hi => by rw [World.frozen?_setCell]; exact h.frz i hi, h.bel.trans ((Only.refl (fun b => B ≤ b) u |>.setCell (p := ⟨gm, j, none⟩) (.inl hB) _).below (fun _ q => q) h.duo.le)⟩
  obtain ⟨z, hz⟩ := h.cel i hi
  by_cases e : i = j
  · subst e
    exact ⟨x, World.cell?_setCell_same _ _ _ hz⟩
  · exact ⟨z, by rw [World.cell?_setCell_other _ _ _ _ (fun q => by injection q; omega)]; exact hz⟩
end Go.Proofs.Ytobgcengijnffaa
