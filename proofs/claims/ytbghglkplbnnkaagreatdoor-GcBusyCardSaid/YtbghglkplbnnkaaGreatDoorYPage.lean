import Derived.Test.YtbghglkplbnnkaaGreatDoorYBook
import Derived.Test.YtbghglkplbnnkaaGreatDoorYSeal
set_option linter.unusedVariables false
set_option linter.unusedSimpArgs false
-- PageIs
namespace Go.Proofs.YtbghglkplbnnkaaGreatDoor
open Go.RowKit
open Go.Proofs.YtbghglkplbnnkaaGreatDoor.Bk

def outI (v : Int) : Bool := !decide (0 ≤ v ∧ v < 4294967296)
def outT (b : ByteArray) : Bool := decide (b.size ≠ 32)
theorem ret_bool {a b : Bool} (h : a = b) : Ending.returned (.bool a) = .returned (.bool b) := by rw [h]
theorem outI_lo (v : Int) (h : v < 0) : true = outI v := by rw [outI, decide_eq_false (fun q => by omega)]; rfl
theorem outI_hi (v : Int) (h : ¬ v < 0) : decide (4294967296 ≤ v) = outI v := by
  unfold outI
  by_cases h2 : v < 4294967296
  · rw [decide_eq_false (by omega), decide_eq_true (by omega)]; rfl
  · rw [decide_eq_true (by omega), decide_eq_false (fun q => h2 q.2)]; rfl
theorem isOut_is (v : Int) (w : World) : Calls Tryz.prog 144 #[.int .i64 v] w fun e w' => e = .returned (.bool (outI v)) ∧ w' = w := by
  by_cases h : v < 0
  · have H := Lib.hid (outI_lo v h)
    go_enter Tryz.func144, Tryz.ntmps144
    go_wp2
    all_goals
      go_ret
      exact ⟨ret_bool H.out, rfl⟩
  · have H := Lib.hid (outI_hi v h)
    go_enter Tryz.func144, Tryz.ntmps144
    go_wp2
    all_goals
      go_ret
      exact ⟨ret_bool H.out, rfl⟩
theorem outT_is (b : ByteArray) : ((b.size : Int) != 32) = outT b := by
  unfold outT
  by_cases h : b.size = 32
  · simp [h]
  · simp [h]; omega
theorem isCut_is (b : ByteArray) (w : World) : Calls Tryz.prog 180 #[.string b] w fun e w' => e = .returned (.bool (outT b)) ∧ w' = w := by
  have H := Lib.hid (outT_is b)
  go_enter Tryz.func180, Tryz.ntmps180
  go_wp2
  go_ret
  exact ⟨ret_bool H.out, rfl⟩
theorem any_next {α : Type} {l : List α} {p : α → Bool} {k : Nat} (h : (l.take k).any p = false) (hk : k < l.length) (e : p l[k] = false) : (l.take (k + 1)).any p = false := by
  rw [List.take_succ_eq_append_getElem hk, List.any_append, h]
  simp [e]
theorem any_hit {α : Type} {l : List α} {p : α → Bool} {k : Nat} (hk : k < l.length) (e : p l[k] = true) : l.any p = true := List.any_eq_true.2 ⟨_, List.getElem_mem hk, e⟩
set_option maxRecDepth 100000 in
theorem indexFI (a : Option Addr) (l : List Int) (c : Nat) (w : World) (h : LiesAt w a (vals l)) (hl : l.length ≤ maxLen) (t : Bool) (ht : l.any outI = t) :
    Calls Tryz.prog 162 #[.slice a l.length c, .func (.func 144) #[] #[]] w fun e w' => (∃ i : Int, e = .returned (.int .i64 i) ∧ Hid (decide (0 ≤ i) = t)) ∧ w' = w := by
  unfold maxLen at hl
  have H := Lib.hid h
  have HT := Lib.hid ht
  clear h ht
  go_enter Tryz.func162, Tryz.ntmps162
  go_wp2
  go_loopw [5, 8] (fun _ i wr => ∃ k : Nat, k ≤ l.length ∧ i = .int .i64 (k : Int) ∧ wr = w ∧ Hid ((l.take k).any outI = false)) (fun _ i _ => l.length - (intOf i).toNat)
  case atStart => exact ⟨0, Nat.zero_le _, rfl, rfl, Lib.hid rfl⟩
  case round =>
    obtain ⟨k, hk, rfl, rfl, hp⟩ := hrel
    by_cases hlt : k < l.length
    · obtain ⟨b1, rfl, _, e1⟩ := H.out.at_ (k := k) (v := Value.int .i64 l[k]) (by simp [vals, hlt])
      have hi1 : (k : Int) < (l.length : Int) := by omega
      by_cases hxy : outI l[k] = true
      · have HN := Lib.hid (any_hit hlt hxy)
        generalize l[k] = x at *
        have HX := Lib.hid (fun w => isOut_is x w)
        rw [hxy] at HX
        clear hxy
        go_wp2_with (go_at_call 144; refine (HX.out _).mono ?_; rintro e w1 ⟨rfl, rfl⟩)
        go_ret
        refine ⟨⟨k, rfl, Lib.hid ?_⟩, rfl⟩
        rw [← HT.out, HN.out]
        exact decide_eq_true (by omega)
      · have hxy : outI l[k] = false := by simpa using hxy
        have HN := Lib.hid (any_next hp.out hlt hxy)
        generalize l[k] = x at *
        have HX := Lib.hid (fun w => isOut_is x w)
        rw [hxy] at HX
        clear hxy
        go_wp2_with (go_at_call 144; refine (HX.out _).mono ?_; rintro e w1 ⟨rfl, rfl⟩)
        exact ⟨⟨k + 1, by omega, by go_num, trivial, HN⟩, by simp [intOf]; omega⟩
    · obtain rfl : k = l.length := by omega
      have hn : ¬ (l.length : Int) < (l.length : Int) := by omega
      have HN := Lib.hid (show l.any outI = false by have := hp.out; rwa [List.take_of_length_le (Nat.le_refl _)] at this)
      clear hlt hk
      go_wp2
      go_ret
      refine ⟨⟨-1, rfl, Lib.hid ?_⟩, rfl⟩
      rw [← HT.out, HN.out]
      exact decide_eq_false (by omega)
theorem containsFI (a : Option Addr) (l : List Int) (c : Nat) (w : World) (h : LiesAt w a (vals l)) (hl : l.length ≤ maxLen) :
    Calls Tryz.prog 145 #[.slice a l.length c, .func (.func 144) #[] #[]] w fun e w' => e = .returned (.bool (l.any outI)) ∧ w' = w := by
  go_enter Tryz.func145, Tryz.ntmps145
  go_wp2_with (go_at_call 162; refine (indexFI a l c _ h hl _ rfl).mono ?_; rintro e w1 ⟨⟨i, rfl, hi⟩, rfl⟩)
  go_ret
  exact ⟨ret_bool hi.out, rfl⟩
set_option maxRecDepth 100000 in
theorem indexFT (a : Option Addr) (l : List ByteArray) (c : Nat) (w : World) (h : LiesAt w a (txts l)) (hl : l.length ≤ maxLen) (t : Bool) (ht : l.any outT = t) :
    Calls Tryz.prog 192 #[.slice a l.length c, .func (.func 180) #[] #[]] w fun e w' => (∃ i : Int, e = .returned (.int .i64 i) ∧ Hid (decide (0 ≤ i) = t)) ∧ w' = w := by
  unfold maxLen at hl
  have H := Lib.hid h
  have HT := Lib.hid ht
  clear h ht
  go_enter Tryz.func192, Tryz.ntmps192
  go_wp2
  go_loopw [5, 8] (fun _ i wr => ∃ k : Nat, k ≤ l.length ∧ i = .int .i64 (k : Int) ∧ wr = w ∧ Hid ((l.take k).any outT = false)) (fun _ i _ => l.length - (intOf i).toNat)
  case atStart => exact ⟨0, Nat.zero_le _, rfl, rfl, Lib.hid rfl⟩
  case round =>
    obtain ⟨k, hk, rfl, rfl, hp⟩ := hrel
    by_cases hlt : k < l.length
    · obtain ⟨b1, rfl, _, e1⟩ := H.out.at_ (k := k) (v := Value.string l[k]) (by simp [txts, hlt])
      have hi1 : (k : Int) < (l.length : Int) := by omega
      by_cases hxy : outT l[k] = true
      · have HN := Lib.hid (any_hit hlt hxy)
        generalize l[k] = x at *
        have HX := Lib.hid (fun w => isCut_is x w)
        rw [hxy] at HX
        clear hxy
        go_wp2_with (go_at_call 180; refine (HX.out _).mono ?_; rintro e w1 ⟨rfl, rfl⟩)
        go_ret
        refine ⟨⟨k, rfl, Lib.hid ?_⟩, rfl⟩
        rw [← HT.out, HN.out]
        exact decide_eq_true (by omega)
      · have hxy : outT l[k] = false := by simpa using hxy
        have HN := Lib.hid (any_next hp.out hlt hxy)
        generalize l[k] = x at *
        have HX := Lib.hid (fun w => isCut_is x w)
        rw [hxy] at HX
        clear hxy
        go_wp2_with (go_at_call 180; refine (HX.out _).mono ?_; rintro e w1 ⟨rfl, rfl⟩)
        exact ⟨⟨k + 1, by omega, by go_num, trivial, HN⟩, by simp [intOf]; omega⟩
    · obtain rfl : k = l.length := by omega
      have hn : ¬ (l.length : Int) < (l.length : Int) := by omega
      have HN := Lib.hid (show l.any outT = false by have := hp.out; rwa [List.take_of_length_le (Nat.le_refl _)] at this)
      clear hlt hk
      go_wp2
      go_ret
      refine ⟨⟨-1, rfl, Lib.hid ?_⟩, rfl⟩
      rw [← HT.out, HN.out]
      exact decide_eq_false (by omega)
theorem containsFT (a : Option Addr) (l : List ByteArray) (c : Nat) (w : World) (h : LiesAt w a (txts l)) (hl : l.length ≤ maxLen) :
    Calls Tryz.prog 179 #[.slice a l.length c, .func (.func 180) #[] #[]] w fun e w' => e = .returned (.bool (l.any outT)) ∧ w' = w := by
  go_enter Tryz.func179, Tryz.ntmps179
  go_wp2_with (go_at_call 192; refine (indexFT a l c _ h hl _ rfl).mono ?_; rintro e w1 ⟨⟨i, rfl, hi⟩, rfl⟩)
  go_ret
  exact ⟨ret_bool hi.out, rfl⟩
end Go.Proofs.YtbghglkplbnnkaaGreatDoor
-- PageBytes
namespace Go.Proofs.YtbghglkplbnnkaaGreatDoor
open Go.RowKit
open Go.Proofs.YtbghglkplbnnkaaGreatDoor.Bk

def catB : List Int → ByteArray
  | [] => ByteArray.empty
  | v :: l => putS v 4 ++ catB l
theorem putS_le (v : Int) : (putS v 4).size ≤ 4 := by
  unfold putS
  split
  · rw [putB_size]; decide
  · exact Nat.zero_le _
theorem catB_le : ∀ l : List Int, (catB l).size ≤ 4 * l.length
  | [] => Nat.zero_le _
  | v :: l => by
    have h1 := putS_le v
    have h2 := catB_le l
    rw [catB, ByteArray.size_append, List.length_cons]
    omega
theorem catB_snoc (l : List Int) (v : Int) : catB (l ++ [v]) = catB l ++ putS v 4 := by
  induction l with
  | nil => exact ba_ext (by simp [catB])
  | cons x l ih => rw [List.cons_append, catB, ih, catB, ByteArray.append_assoc]
theorem WriteString_is (B b : Nat) (bs : List Value) (s : ByteArray) (w : World) (h : Lib.IsBuilder 253 5 B b bs w) (hlen : bs.length + s.size ≤ 140737488355328) (hBw : B ≤ w.heap.size) :
    Calls Tryz.prog 165 #[.pointer (some ⟨b, 0, none⟩), .string s] w fun e w' => e = .returned (.tuple #[.int .i64 s.size, .nilIface]) ∧ (Lib.BuilderAt 253 5 B b (.pointer (some ⟨b, 0, none⟩)) (bs ++ Lib.strCells s) w' ∧ Below B w w') :=
  Any.Builder_WriteString { Tryz.lays156 with } Tryz.Builder_Extra_156 B b bs s w h hlen hBw

def IsW (B b : Nat) (l : List Int) (w : World) : Prop := Lib.IsBuilder 253 5 B b (Lib.byteCells (catB l).data.toList) w
theorem wr_num (B b : Nat) (l : List Int) (v : Int) (w : World) (h : IsW B b l w) (hl : l.length ≤ 1000000) (hBw : B ≤ w.heap.size) :
    Calls Tryz.prog 165 #[.pointer (some ⟨b, 0, none⟩), .string (putS v 4)] w fun e w' => e = .returned (.tuple #[.int .i64 (putS v 4).size, .nilIface]) ∧ IsW B b (l ++ [v]) w' ∧ Below B w w' := by
  have h1 := putS_le v
  have h2 := catB_le l
  refine (WriteString_is B b _ (putS v 4) w h (by rw [Lib.byteCells_length, ba_len]; omega) hBw).mono ?_
  rintro e w' ⟨rfl, hb, hB⟩
  refine ⟨rfl, Or.inr ?_, hB⟩
  rwa [catB_snoc, ba_append, Lib.byteCells_append, ← Lib.strCells_eq (putS v 4)]

theorem owns_below {w w' : World} {base : Nat} {e : TypeId} {k : Nat} {v : Value} {m : Nat} {cs : List Value} (h : w.ownsRow base e k v m cs) (hb : Below w.heap.size w w') : w'.ownsRow base e k v m cs := by
  have hlt := h.lt
  refine ⟨h.1, ?_⟩
  rcases h.2 with q | ⟨g, cap, cur, hv, hg, hh, r⟩
  · exact .inl q
  · exact .inr ⟨g, cap, cur, hv, hg, by rw [hb.block g (hlt g (by rw [hv]; rfl)).2]; exact hh, r⟩
theorem BuilderAt_below {T e : TypeId} {B b : Nat} {p : Value} {bs : List Value} {w w' : World} (h : Lib.BuilderAt T e B b p bs w) (hb : Below w.heap.size w w') : Lib.BuilderAt T e B b p bs w' := by
  have hlt := h.lt
  obtain ⟨hB, v, hbk, hown, hne⟩ := h
  exact ⟨hB, v, by rw [hb.block b hlt]; exact hbk, owns_below hown hb, hne⟩
theorem IsW.below {B b : Nat} {l : List Int} {w w' : World} (h : IsW B b l w) (hb : Below w.heap.size w w') : IsW B b l w' := by
  rcases h with h | h
  · exact .inl (BuilderAt_below h hb)
  · exact .inr (BuilderAt_below h hb)
theorem val_at {l : List Int} {k : Nat} (h : k < l.length) : (vals l)[k]? = some (.int .i64 l[k]) := by simp [vals, h]
theorem take_len {α : Type} (l : List α) : l.take l.length = l := List.take_of_length_le (Nat.le_refl _)
theorem take_cons2 (no v : Int) (cs : List Int) (k : Nat) (h : k < cs.length) : (no :: v :: cs.take k) ++ [cs[k]] = no :: v :: cs.take (k + 1) := by
  rw [List.take_succ_eq_append_getElem h]; rfl

set_option maxRecDepth 100000 in
set_option maxHeartbeats 1000000 in
theorem bytesOf_is (no v : Int) (a : Option Addr) (cs : List Int) (c : Nat) (w : World) (h : LiesAt w a (vals cs)) (hl : cs.length ≤ 1000) :
    Calls Tryz.prog 148 #[.int .i64 no, .int .i64 v, .slice a cs.length c] w fun e w' => e = .returned (.string (catB (no :: v :: cs))) ∧ Below w.heap.size w w' := by
  have H := Lib.hid h
  clear h
  have HP := Lib.hid (fun (x : Int) w => Put_is x 4 w)
  have HW := Lib.hid (fun (l : List Int) (x : Int) (u : World) => wr_num w.heap.size w.heap.size l x u)
  have HI : Hid (IsW w.heap.size w.heap.size [] (w.alloc (.cells #[.pointer none, .slice none 0 0] 253)) ∧ Below w.heap.size w (w.alloc (.cells #[.pointer none, .slice none 0 0] 253))) := Lib.hid ⟨Lib.fresh_isBuilder _ _ _, (Below.refl _ _).alloc (Nat.le_refl _) _⟩
  go_enter Tryz.func148, Tryz.ntmps148
  go_wp2_with (first
    | (go_at_call 149; refine (HP.out _ _).mono ?_; rintro e w1 ⟨rfl, b1⟩; replace HI := Lib.hid (And.intro (HI.out.1.below b1) (below_next HI.out.2 b1)); clear b1)
    | (go_at_call 165; refine (HW.out _ _ _ HI.out.1 (by simp) HI.out.2.size).mono ?_; rintro e w2 ⟨rfl, i2, b2⟩; replace HI := Lib.hid (And.intro i2 (HI.out.2.trans b2)); clear i2 b2))
  go_loopw [9, 18] (fun _ i wr => ∃ k : Nat, k ≤ cs.length ∧ i = .int .i64 (k : Int) ∧ Hid (IsW w.heap.size w.heap.size (no :: v :: cs.take k) wr ∧ Below w.heap.size w wr)) (fun _ i _ => cs.length - (intOf i).toNat)
  case atStart => exact ⟨0, Nat.zero_le _, rfl, HI⟩
  case round =>
    obtain ⟨k, hk, rfl, HI⟩ := hrel
    by_cases hlt : k < cs.length
    · have HT := Lib.hid (take_cons2 no v cs k hlt)
      obtain ⟨b1, rfl, _, e1⟩ := (H.out.below HI.out.2).at_ (k := k) (val_at hlt)
      have hi1 : (k : Int) < (cs.length : Int) := by omega
      have HK := Lib.hid hk
      generalize cs[k] = x at *
      go_wp2_with (first
        | (go_at_call 149; refine (HP.out _ _).mono ?_; rintro e w1 ⟨rfl, b1⟩; replace HI := Lib.hid (And.intro (HI.out.1.below b1) (below_next HI.out.2 b1)); clear b1)
        | (go_at_call 165; refine (HW.out _ _ _ HI.out.1 (by simp; omega) HI.out.2.size).mono ?_; rintro e w2 ⟨rfl, i2, b2⟩; replace HI := Lib.hid (And.intro i2 (HI.out.2.trans b2)); clear i2 b2))
      rw [HT.out] at HI
      exact ⟨⟨k + 1, by omega, by go_num, HI⟩, by simp [intOf]; omega⟩
    · obtain rfl : k = cs.length := by omega
      have hn : ¬ (cs.length : Int) < (cs.length : Int) := by omega
      rw [take_len] at HI
      clear hlt hk
      go_wp2_with (go_at_call 166; refine (Tryz.Builder_String_any _ _ _ _ HI.out.1 HI.out.2.size).mono ?_; rintro e w2 ⟨rfl, b2⟩; replace HI := Lib.hid (HI.out.2.trans b2); clear b2)
      go_ret
      exact ⟨rfl, HI.out⟩
end Go.Proofs.YtbghglkplbnnkaaGreatDoor
-- PageCut
namespace Go.Proofs.YtbghglkplbnnkaaGreatDoor
open Go.RowKit
open Go.Proofs.YtbghglkplbnnkaaGreatDoor.Bk

def rowK (vs : List Value) (z : Value) (k : Nat) : Array Value := ((List.range vs.length).map fun j => if j < k then vs.getD j z else z).toArray
theorem rowK_zero (vs : List Value) (z : Value) (n : Nat) (h : vs.length = n) : Array.replicate n z = rowK vs z 0 := by
  subst h; apply Array.ext <;> simp [rowK]
theorem rowK_at (vs : List Value) (z : Value) (k : Nat) (h : k < vs.length) : (rowK vs z k)[k]? = some z := by simp [rowK, h]
theorem rowK_next (vs : List Value) (z : Value) (k : Nat) (h : k < vs.length) : rowK vs z (k + 1) = (rowK vs z k).set! k (vs.getD k z) := by
  apply Array.ext
  · simp [rowK]
  · intro i h1 h2
    by_cases hi : i = k
    · subst hi
      simp [rowK]
    · simp [rowK, Ne.symm hi, show (i < k + 1) = (i < k) from propext ⟨fun q => by omega, fun q => by omega⟩]
theorem rowK_end (vs : List Value) (z : Value) (k : Nat) (h : vs.length = k) : rowK vs z k = vs.toArray := by
  subst h
  apply Array.ext
  · simp [rowK]
  · intro i h1 h2
    have : i < vs.length := by simpa [rowK] using h1
    simp [rowK, this]
theorem owns_laid (w : World) (base : Nat) (e : TypeId) (vs : List Value) (n : Nat) (hn : vs.length = n) (hb : base ≤ w.heap.size) (hm : n ≤ maxLen) : (w.alloc (.cells vs.toArray e)).ownsRow base e 1 (.slice (some ⟨w.heap.size, 0, none⟩) n n) n vs :=
  ⟨by omega, .inr ⟨w.heap.size, n, vs.toArray, rfl, hb, heap_alloc_new w _, Nat.le_refl _, hm, by simp [hn], by simp [← hn]⟩⟩

def part (s : ByteArray) (k : Nat) : ByteArray := s.extract (k * 32) ((k + 1) * 32)
def parts (s : ByteArray) : List ByteArray := [part s 0, part s 1, part s 2]
theorem parts_at (s : ByteArray) (k : Nat) (h : k < 3) : (txts (parts s)).getD k (.string .empty) = .string (part s k) := by
  have : k = 0 ∨ k = 1 ∨ k = 2 := by omega
  rcases this with rfl | rfl | rfl <;> rfl

theorem pg_strInfo : (Tryz.prog.info? 9).map (fun i => (i.zero, i.size, i.bytes)) = some (some (.string .empty), 1, 16) := by kernel_rfl
theorem mkTexts (u : World) (n : Nat) (hn : n ≤ 1000) : (Instr.makeSlice 181 (.int .i64 (n : Int)) (.int .i64 (n : Int))).run Tryz.prog u =
      .ok (.slice (some ⟨u.heap.size, 0, none⟩) n n) (u.alloc (.cells (Array.replicate n (.string .empty)) 9)) := by
  obtain ⟨i1, hi, hz0, hz1, hz2⟩ := sl_info pg_strInfo
  have h := run_make (P := Tryz.prog) u 181 9 i1 _ Tryz.underlying181 hi hz0 .i64 .i64 n n (by omega) (Int.le_refl _) (by rw [hz2]; omega) (by omega)
  simpa [hz1, Value.cells, show madeCells #[Value.string .empty] n = Array.replicate n (.string .empty) from by apply Array.ext <;> simp [madeCells, Nat.mod_one]] using h

set_option maxRecDepth 100000 in
set_option maxHeartbeats 400000 in
theorem cut_is (s : ByteArray) (hs : s.size = 96) (w : World) :
    Calls Tryz.prog 146 #[.string s] w fun e w' => ∃ v, e = .returned v ∧ Below w.heap.size w w' ∧ w'.ownsRow w.heap.size 9 1 v 3 (txts (parts s)) := by
  have hmk : (Instr.makeSlice 181 (.int .i64 3) (.int .i64 3)).run Tryz.prog w = .ok (.slice (some ⟨w.heap.size, 0, none⟩) 3 3) (w.alloc (.cells (Array.replicate 3 (.string .empty)) 9)) := mkTexts w 3 (by omega)
  rw [rowK_zero (txts (parts s)) _ 3 rfl] at hmk
  have HE := Lib.hid (owns_laid w w.heap.size 9 (txts (parts s)) 3 rfl (Nat.le_refl _) (by unfold maxLen; omega))
  rw [← rowK_end (txts (parts s)) (.string .empty) 3 rfl] at HE
  go_enter Tryz.func146, Tryz.ntmps146
  go_wp2
  go_loopw [4, 8] (fun _ i wr => ∃ k : Nat, k ≤ 3 ∧ i = .int .i64 (k : Int) ∧ wr = w.alloc (.cells (rowK (txts (parts s)) (.string .empty) k) 9)) (fun _ i _ => 3 - (intOf i).toNat)
  case atStart => exact ⟨0, Nat.zero_le _, rfl, rfl⟩
  case round =>
    obtain ⟨k, hk, rfl, rfl⟩ := hrel
    by_cases hlt : k < 3
    · have hck := rowK_at (txts (parts s)) (.string .empty) k hlt
      have HV := Lib.hid (rowK_next (txts (parts s)) (.string .empty) k hlt)
      rw [parts_at s k hlt] at HV
      clear hmk
      have : k = 0 ∨ k = 1 ∨ k = 2 := by omega
      rcases this with rfl | rfl | rfl
      all_goals
        go_wp2
        first
          | exact ⟨⟨1, by omega, rfl, by rw [HV.out, Array.set!_eq_setIfInBounds]; rfl⟩, by simp [intOf]⟩
          | exact ⟨⟨2, by omega, rfl, by rw [HV.out, Array.set!_eq_setIfInBounds]; rfl⟩, by simp [intOf]⟩
          | exact ⟨⟨3, by omega, rfl, by rw [HV.out, Array.set!_eq_setIfInBounds]; rfl⟩, by simp [intOf]⟩
    · obtain rfl : k = 3 := by omega
      clear hlt hk hmk
      go_wp2
      go_ret
      exact ⟨_, rfl, (Below.refl _ _).alloc (Nat.le_refl _) _, HE.out⟩
end Go.Proofs.YtbghglkplbnnkaaGreatDoor
-- PagePut
namespace Go.Proofs.YtbghglkplbnnkaaGreatDoor
open Go.RowKit
open Go.Proofs.YtbghglkplbnnkaaGreatDoor.Bk

def pgOk (no v : Int) (cs : List Int) : Bool := decide (0 ≤ no ∧ no ≤ 1000 ∧ outI v = false ∧ cs.length = 16 ∧ cs.any outI = false)
def pgB (no v : Int) (cs : List Int) : ByteArray := sealB (catB (no :: v :: cs)) 96
def pgL (no v : Int) (cs : List Int) : List ByteArray := if pgOk no v cs = true then parts (pgB no v cs) else []
theorem pg_cat (no v : Int) (cs : List Int) (h : cs.length = 16) : (catB (no :: v :: cs)).size ≤ 72 := by
  have := catB_le (no :: v :: cs)
  simp only [List.length_cons, h] at this
  exact this
theorem pgB_size (no v : Int) (cs : List Int) (h : cs.length = 16) : (pgB no v cs).size = 96 := sealB_size _ _ (by omega) (by have := pg_cat no v cs h; omega)
theorem pg_sealS (no v : Int) (cs : List Int) (h : cs.length = 16) : sealS (catB (no :: v :: cs)) 96 = pgB no v cs := if_pos ⟨by omega, by omega, by have := pg_cat no v cs h; omega⟩
theorem pgL_no {no v : Int} {cs : List Int} (h : pgOk no v cs = false) : pgL no v cs = [] := if_neg (by rw [h]; decide)
theorem pgL_yes {no v : Int} {cs : List Int} (h : pgOk no v cs = true) : pgL no v cs = parts (pgB no v cs) := if_pos h

theorem owns_mono {w : World} {b b' : Nat} {e : TypeId} {k : Nat} {v : Value} {m : Nat} {cs : List Value} (hb : b ≤ b') (h : w.ownsRow b' e k v m cs) : w.ownsRow b e k v m cs := by
  refine ⟨h.1, ?_⟩
  rcases h.2 with q | ⟨g, cap, cur, hv, hg, r⟩
  · exact .inl q
  · exact .inr ⟨g, cap, cur, hv, Nat.le_trans hb hg, r⟩
theorem pg_not {no v : Int} {cs : List Int} (h : pgOk no v cs = false) : no < 0 ∨ (0 ≤ no ∧ 1000 < no) ∨ ((0 ≤ no ∧ no ≤ 1000) ∧ outI v = true) ∨ ((0 ≤ no ∧ no ≤ 1000) ∧ outI v = false ∧ cs.length ≠ 16) ∨ ((0 ≤ no ∧ no ≤ 1000) ∧ outI v = false ∧ cs.length = 16 ∧ cs.any outI = true) := by
  have h := of_decide_eq_false h
  cases hv : outI v <;> cases hc : cs.any outI <;> simp [hv, hc] at h ⊢ <;> omega

set_option maxRecDepth 100000 in
set_option maxHeartbeats 1000000 in
theorem pput_is (no v : Int) (a : Option Addr) (cs : List Int) (c : Nat) (w : World) (h : LiesAt w a (vals cs)) (hl : cs.length ≤ maxLen) :
    Calls Tryz.prog 121 #[.int .i64 no, .int .i64 v, .slice a cs.length c] w fun e w' => ∃ x, e = .returned (.tuple #[x, .bool (pgOk no v cs)]) ∧ Below w.heap.size w w' ∧ w'.ownsRow w.heap.size 9 1 x (pgL no v cs).length (txts (pgL no v cs)) := by
  have HO := Lib.hid (fun u => isOut_is v u)
  have H := Lib.hid (And.intro h hl)
  have HC := Lib.hid (fun u (q : LiesAt u a (vals cs)) => containsFI a cs c u q hl)
  by_cases hok : pgOk no v cs = true
  · have hq := of_decide_eq_true hok
    obtain ⟨h0, h1, h2, h3, h4⟩ := hq
    rw [pgL_yes hok, hok]
    rw [h2] at HO
    rw [h4] at HC
    have HS := Lib.hid (fun u => Seal_is (catB (no :: v :: cs)) 96 (by have := pg_cat no v cs h3; unfold maxLen; omega) u)
    rw [pg_sealS no v cs h3] at HS
    have HCU := Lib.hid (fun u => cut_is (pgB no v cs) (pgB_size no v cs h3) u)
    have HBY := Lib.hid (fun u (q : LiesAt u a (vals cs)) => bytesOf_is no v a cs c u q (by omega))
    have hl3 : (cs.length : Int) = 16 := by omega
    clear hok h2 h4 h3 h hl
    generalize pgB no v cs = s at *
    have hB : Hid (Below w.heap.size w w) := Lib.hid (Below.refl _ _)
    go_enter Tryz.func121, Tryz.ntmps121
    go_wp2_with (first
      | (go_at_call 144; refine (HO.out _).mono ?_; rintro e w1 ⟨rfl, rfl⟩)
      | (go_at_call 145; refine (HC.out _ (H.out.1.below hB.out)).mono ?_; rintro e w1 ⟨rfl, rfl⟩)
      | (go_at_call 148; refine (HBY.out _ (H.out.1.below hB.out)).mono ?_; rintro e w1 ⟨rfl, b1⟩; replace hB := Lib.hid (below_next hB.out b1); clear b1)
      | (go_at_call 147; refine (HS.out _).mono ?_; rintro e w1 ⟨rfl, b1⟩; replace hB := Lib.hid (below_next hB.out b1); clear b1)
      | (go_at_call 146; refine (HCU.out _).mono ?_; rintro e w1 ⟨x, rfl, b1, o1⟩; replace HCU := Lib.hid (And.intro hB.out.size o1); replace hB := Lib.hid (below_next hB.out b1); clear b1 o1))
    go_ret2
    exact ⟨_, rfl, hB.out, owns_mono HCU.out.1 HCU.out.2⟩
  · have hok : pgOk no v cs = false := by simpa using hok
    rw [pgL_no hok, hok]
    have hB : Hid (Below w.heap.size w w) := Lib.hid (Below.refl _ _)
    rcases pg_not hok with h0 | ⟨h0, h1⟩ | ⟨⟨h0, h1⟩, h2⟩ | ⟨⟨h0, h1⟩, h2, h3⟩ | ⟨⟨h0, h1⟩, h2, h3, h4⟩
    · clear hok h hl
      go_enter Tryz.func121, Tryz.ntmps121
      go_wp2
      all_goals
        go_ret2
        exact ⟨_, rfl, hB.out, World.ownsRow_nil _ _ _ _⟩
    · clear hok h hl
      go_enter Tryz.func121, Tryz.ntmps121
      go_wp2
      all_goals
        go_ret2
        exact ⟨_, rfl, hB.out, World.ownsRow_nil _ _ _ _⟩
    · rw [h2] at HO
      clear hok h hl h2
      go_enter Tryz.func121, Tryz.ntmps121
      go_wp2_with (go_at_call 144; refine (HO.out _).mono ?_; rintro e w1 ⟨rfl, rfl⟩)
      all_goals
        go_ret2
        exact ⟨_, rfl, hB.out, World.ownsRow_nil _ _ _ _⟩
    · rw [h2] at HO
      have hl3 : ((cs.length : Int) == 16) = false := by simp; omega
      have hl4 : ((cs.length : Int) != 16) = true := by simp; omega
      clear hok h hl h2 h3
      go_enter Tryz.func121, Tryz.ntmps121
      go_wp2_with (go_at_call 144; refine (HO.out _).mono ?_; rintro e w1 ⟨rfl, rfl⟩)
      all_goals
        go_ret2
        exact ⟨_, rfl, hB.out, World.ownsRow_nil _ _ _ _⟩
    · rw [h2] at HO
      rw [h4] at HC
      have hl3 : (cs.length : Int) = 16 := by omega
      clear hok h hl h2 h3 h4
      go_enter Tryz.func121, Tryz.ntmps121
      go_wp2_with (first
        | (go_at_call 144; refine (HO.out _).mono ?_; rintro e w1 ⟨rfl, rfl⟩)
        | (go_at_call 145; refine (HC.out _ (H.out.1.below hB.out)).mono ?_; rintro e w1 ⟨rfl, rfl⟩))
      all_goals
        go_ret2
        exact ⟨_, rfl, hB.out, World.ownsRow_nil _ _ _ _⟩
end Go.Proofs.YtbghglkplbnnkaaGreatDoor
-- PageNum
namespace Go.Proofs.YtbghglkplbnnkaaGreatDoor
open Go.RowKit
open Go.Proofs.YtbghglkplbnnkaaGreatDoor.Bk

def numAt (s : ByteArray) (k : Nat) : Int := getI (s.extract (k * 4) ((k + 1) * 4))
def nums (s : ByteArray) : List Int := (List.range 16).map fun i => numAt s (i + 2)
theorem nums_len (s : ByteArray) : (nums s).length = 16 := by simp [nums]
theorem nums_at (s : ByteArray) (k : Nat) (h : k < 16) : (vals (nums s)).getD k (.int .i64 0) = .int .i64 (numAt s (k + 2)) := by
  simp [vals, nums, h]
theorem slice_str (s : ByteArray) (lo hi : Int) (i j : Nat) (h0 : lo = i) (h1 : hi = j) (h2 : i ≤ j) (h3 : j ≤ s.size) (u : World) :
    (Instr.slice 9 (.string s) (some (.int .i64 lo)) (some (.int .i64 hi)) none).run Tryz.prog u = .ok (.string (s.extract i j)) u := by
  subst h0 h1
  have hu : Tryz.prog.underlying 9 = some .string := Tryz.underlying9
  simp [Instr.slice, run_underlying hu, h2, h3, go_sem]

set_option maxRecDepth 100000 in
theorem numberAt_is (s : ByteArray) (hs : s.size ≤ 1000) (k : Nat) (hk : (k + 1) * 4 ≤ s.size) (w : World) :
    Calls Tryz.prog 193 #[.string s, .int .i64 (k : Int)] w fun e w' => e = .returned (.int .i64 (numAt s k)) ∧ w' = w := by
  have hsl := slice_str s ((k : Int) * 4) (((k : Int) + 1) * 4) (k * 4) ((k + 1) * 4) (by omega) (by omega) (by omega) hk w
  have HG := Lib.hid (fun u => Get_is (s.extract (k * 4) ((k + 1) * 4)) (by rw [ByteArray.size_extract]; unfold maxLen; omega) u)
  have HN := Lib.hid (show getI (s.extract (k * 4) ((k + 1) * 4)) = numAt s k from rfl)
  rw [HN.out] at HG
  have h1 : (k : Int) ≤ 1000 := by omega
  clear hk
  generalize numAt s k = x at *
  generalize s.extract (k * 4) ((k + 1) * 4) = t at *
  go_enter Tryz.func193, Tryz.ntmps193
  go_wp2_with (go_at_call 167; refine (HG.out _).mono ?_; rintro e w1 ⟨rfl, rfl⟩)
  go_ret
  exact ⟨rfl, rfl⟩
theorem pg_intInfo : (Tryz.prog.info? 3).map (fun i => (i.zero, i.size, i.bytes)) = some (some (.int .i64 0), 1, 8) := by kernel_rfl
theorem mkInts (u : World) (n : Nat) (hn : n ≤ 1000) : (Instr.makeSlice 24 (.int .i64 (n : Int)) (.int .i64 (n : Int))).run Tryz.prog u =
      .ok (.slice (some ⟨u.heap.size, 0, none⟩) n n) (u.alloc (.cells (Array.replicate n (.int .i64 0)) 3)) := by
  obtain ⟨i1, hi, hz0, hz1, hz2⟩ := sl_info pg_intInfo
  have h := run_make (P := Tryz.prog) u 24 3 i1 _ Tryz.underlying24 hi hz0 .i64 .i64 n n (by omega) (Int.le_refl _) (by rw [hz2]; omega) (by omega)
  simpa [hz1, Value.cells, show madeCells #[Value.int .i64 0] n = Array.replicate n (.int .i64 0) from by apply Array.ext <;> simp [madeCells, Nat.mod_one]] using h
theorem mkInts16 (u : World) : (Instr.makeSlice 24 (.int .i64 16) (.int .i64 16)).run Tryz.prog u =
      .ok (.slice (some ⟨u.heap.size, 0, none⟩) 16 16) (u.alloc (.cells (Array.replicate 16 (.int .i64 0)) 3)) := mkInts u 16 (by omega)

set_option maxRecDepth 100000 in
set_option maxHeartbeats 400000 in
theorem numbersOf_is (s : ByteArray) (hs : s.size = 96) (w : World) :
    Calls Tryz.prog 181 #[.string s] w fun e w' => ∃ v, e = .returned (.tuple #[.int .i64 (numAt s 0), .int .i64 (numAt s 1), v]) ∧ Below w.heap.size w w' ∧ w'.ownsRow w.heap.size 3 1 v 16 (vals (nums s)) := by
  have hmk := mkInts16 w
  have hvl : (vals (nums s)).length = 16 := by rw [vals_len, nums_len]
  rw [rowK_zero (vals (nums s)) _ 16 hvl] at hmk
  have HE := Lib.hid (owns_laid w w.heap.size 3 (vals (nums s)) 16 hvl (Nat.le_refl _) (by unfold maxLen; omega))
  rw [← rowK_end (vals (nums s)) (.int .i64 0) 16 hvl] at HE
  have HN := Lib.hid (fun (k : Nat) (h : k < 18) u => numberAt_is s (by omega) k (by omega) u)
  have H0 : Hid (∀ u, Calls Tryz.prog 193 #[.string s, .int .i64 0] u fun e w' => e = .returned (.int .i64 (numAt s 0)) ∧ w' = u) := Lib.hid (fun u => HN.out 0 (by omega) u)
  have H1 : Hid (∀ u, Calls Tryz.prog 193 #[.string s, .int .i64 1] u fun e w' => e = .returned (.int .i64 (numAt s 1)) ∧ w' = u) := Lib.hid (fun u => HN.out 1 (by omega) u)
  generalize numAt s 0 = x0 at *
  generalize numAt s 1 = y0 at *
  go_enter Tryz.func181, Tryz.ntmps181
  go_wp2
  go_loopw [6, 10] (fun _ i wr => ∃ k : Nat, k ≤ 16 ∧ i = .int .i64 (k : Int) ∧ wr = w.alloc (.cells (rowK (vals (nums s)) (.int .i64 0) k) 3)) (fun _ i _ => 16 - (intOf i).toNat)
  case atStart => exact ⟨0, Nat.zero_le _, rfl, rfl⟩
  case round =>
    obtain ⟨k, hk, rfl, rfl⟩ := hrel
    by_cases hlt : k < 16
    · have hck := rowK_at (vals (nums s)) (.int .i64 0) k (by omega)
      have HV := Lib.hid (rowK_next (vals (nums s)) (.int .i64 0) k (by omega))
      rw [nums_at s k hlt] at HV
      have hi1 : (k : Int) < 16 := by omega
      have HX := Lib.hid (fun u => HN.out (2 + k) (by omega) u)
      rw [Nat.add_comm 2 k] at HX
      generalize hx : numAt s (k + 2) = x at *
      have e2 : ((k + 2 : Nat) : Int) = 2 + (k : Int) := by omega
      rw [e2] at HX
      clear hmk hvl e2 hx
      go_wp2_with (go_at_call 193; refine (HX.out _).mono ?_; rintro e w1 ⟨rfl, rfl⟩)
      exact ⟨⟨k + 1, by omega, by go_num, by rw [HV.out, Array.set!_eq_setIfInBounds]⟩, by simp [intOf]; omega⟩
    · obtain rfl : k = 16 := by omega
      clear hlt hk hmk
      go_wp2_with (go_at_call 193; (first | (with_reducible refine (H0.out _).mono ?_) | (with_reducible refine (H1.out _).mono ?_)); rintro e w1 ⟨rfl, rfl⟩)
      go_ret3
      exact ⟨_, rfl, (Below.refl _ _).alloc (Nat.le_refl _) _, HE.out⟩
end Go.Proofs.YtbghglkplbnnkaaGreatDoor
-- PageMath
namespace Go.Proofs.YtbghglkplbnnkaaGreatDoor
open Go.RowKit
open Go.Proofs.YtbghglkplbnnkaaGreatDoor.Bk

theorem ext_list (b : ByteArray) (i j : Nat) : (b.extract i j).data.toList = (b.data.toList.drop i).take (j - i) := by
  simp [ByteArray.data_extract, Array.toList_extract, List.extract_eq_take_drop]
def joinB (l : List ByteArray) : ByteArray := l.foldr (· ++ ·) ByteArray.empty
theorem joinB_list (l : List ByteArray) : (joinB l).data.toList = (l.map (·.data.toList)).flatten := by
  induction l with
  | nil => rfl
  | cons x l ih => rw [show joinB (x :: l) = x ++ joinB l from rfl, ba_append, ih]; rfl
theorem joinB_size (l : List ByteArray) (h : l.any outT = false) : (joinB l).size = 32 * l.length := by
  induction l with
  | nil => rfl
  | cons x l ih =>
    rw [List.any_cons, Bool.or_eq_false_iff] at h
    have hx : x.size = 32 := Decidable.not_not.1 (of_decide_eq_false h.1)
    rw [show joinB (x :: l) = x ++ joinB l from rfl, ByteArray.size_append, ih h.2, hx, List.length_cons]
    omega
theorem three {α : Type} {l : List α} (h : l.length = 3) : ∃ x y z, l = [x, y, z] := by
  match l, h with
  | [x, y, z], _ => exact ⟨x, y, z, rfl⟩
theorem part_list (s : ByteArray) (k : Nat) : (part s k).data.toList = (s.data.toList.drop (k * 32)).take 32 := by
  rw [part, ext_list, show (k + 1) * 32 - k * 32 = 32 by omega]
theorem parts_join (l : List ByteArray) (h3 : l.length = 3) (h : l.any outT = false) : parts (joinB l) = l := by
  obtain ⟨x, y, z, rfl⟩ := three h3
  simp only [List.any_cons, List.any_nil, Bool.or_eq_false_iff] at h
  have hx : x.data.toList.length = 32 := by rw [ba_len]; exact Decidable.not_not.1 (of_decide_eq_false h.1)
  have hy : y.data.toList.length = 32 := by rw [ba_len]; exact Decidable.not_not.1 (of_decide_eq_false h.2.1)
  have hz : z.data.toList.length = 32 := by rw [ba_len]; exact Decidable.not_not.1 (of_decide_eq_false h.2.2.1)
  have e : (joinB [x, y, z]).data.toList = x.data.toList ++ (y.data.toList ++ z.data.toList) := by rw [joinB_list]; simp
  have p0 : part (joinB [x, y, z]) 0 = x := ba_ext (by rw [part_list, e, Nat.zero_mul, List.drop_zero, ← hx, List.take_left'] ; rfl)
  have p1 : part (joinB [x, y, z]) 1 = y := ba_ext (by rw [part_list, e, List.drop_left' (by omega), ← hy, List.take_left']; rfl)
  have p2 : part (joinB [x, y, z]) 2 = z := ba_ext (by
    rw [part_list, e, show 2 * 32 = x.data.toList.length + y.data.toList.length by omega, ← List.append_assoc, List.drop_left' (by rw [List.length_append]), List.take_of_length_le (by omega)])
  rw [parts, p0, p1, p2]
theorem parts_size (s : ByteArray) (hs : s.size = 96) : (parts s).any outT = false := by
  have h : ∀ k, k < 3 → outT (part s k) = false := fun k hk => decide_eq_false (Decidable.not_not.2 (by rw [part, ByteArray.size_extract]; omega))
  simp [parts, h 0 (by omega), h 1 (by omega), h 2 (by omega)]
theorem join_parts (s : ByteArray) (hs : s.size = 96) : joinB (parts s) = s := by
  apply ba_ext
  have hl : s.data.toList.length = 96 := by rw [ba_len]; exact hs
  rw [joinB_list]
  simp only [parts, List.map_cons, List.map_nil, part_list, List.flatten_cons, List.flatten_nil, List.append_nil, Nat.zero_mul, List.drop_zero, Nat.one_mul]
  rw [List.take_of_length_le (l := List.drop (2 * 32) s.data.toList) (by rw [List.length_drop]; omega),
    show List.drop (2 * 32) s.data.toList = List.drop 32 (List.drop 32 s.data.toList) by rw [List.drop_drop], List.take_append_drop, List.take_append_drop]
theorem outI_no {v : Int} (h : outI v = false) : 0 ≤ v ∧ v < 4294967296 := by
  unfold outI at h
  exact of_decide_eq_true (by simpa using h)
theorem putS_of {v : Int} (h : outI v = false) : putS v 4 = putB v 4 := putS_4 v (outI_no h).1 (outI_no h).2
theorem putS_sz {v : Int} (h : outI v = false) : (putS v 4).data.toList.length = 4 := by rw [ba_len, putS_of h, putB_size]
theorem cat_at : ∀ (l : List Int), l.any outI = false → ∀ (k : Nat) (hk : k < l.length) (t : ByteArray), numAt (catB l ++ t) k = l[k]
  | [], _, k, hk, _ => absurd hk (Nat.not_lt_zero _)
  | v :: l, h, 0, _, t => by
    rw [List.any_cons, Bool.or_eq_false_iff] at h
    have hl := putS_sz h.1
    have e : (catB (v :: l) ++ t).extract (0 * 4) ((0 + 1) * 4) = putS v 4 := ba_ext (by
      rw [ext_list, ba_append, catB, ba_append, List.append_assoc, Nat.zero_mul, List.drop_zero, show (0 + 1) * 4 - 0 = 4 from rfl, ← hl, List.take_left']; rfl)
    rw [numAt, e, putS_of h.1]
    exact getI_put v 4 (outI_no h.1).1 (outI_no h.1).2 (by omega) (by omega)
  | v :: l, h, k + 1, hk, t => by
    rw [List.any_cons, Bool.or_eq_false_iff] at h
    have hl := putS_sz h.1
    have e : (catB (v :: l) ++ t).extract ((k + 1) * 4) ((k + 1 + 1) * 4) = (catB l ++ t).extract (k * 4) ((k + 1) * 4) := ba_ext (by
      rw [ext_list, ext_list, ba_append, catB, ba_append, List.append_assoc, ba_append, show (k + 1) * 4 = (putS v 4).data.toList.length + k * 4 by omega, List.drop_append, List.drop_of_length_le (by omega), Nat.add_sub_cancel_left, List.nil_append]
      congr 1
      omega)
    rw [numAt, e]
    exact cat_at l h.2 k (by simpa using hk) t
theorem pg_any {no v : Int} {cs : List Int} (h : pgOk no v cs = true) : (no :: v :: cs).any outI = false ∧ cs.length = 16 := by
  obtain ⟨h0, h1, h2, h3, h4⟩ := of_decide_eq_true h
  refine ⟨?_, h3⟩
  have : outI no = false := by unfold outI; rw [decide_eq_true (by omega)]; rfl
  simp [this, h2, h4]
theorem pg_split (no v : Int) (cs : List Int) : ∃ t, pgB no v cs = catB (no :: v :: cs) ++ t := ⟨zeros (96 - 4 - (catB (no :: v :: cs)).size) ++ putS (sumI (sealBody (catB (no :: v :: cs)) 96).data.toList) 4, by
  rw [pgB, sealB, ← ByteArray.append_assoc]; rfl⟩
theorem pg_num {no v : Int} {cs : List Int} (h : pgOk no v cs = true) : numAt (pgB no v cs) 0 = no ∧ numAt (pgB no v cs) 1 = v ∧ nums (pgB no v cs) = cs := by
  obtain ⟨ha, h16⟩ := pg_any h
  obtain ⟨t, ht⟩ := pg_split no v cs
  rw [ht]
  refine ⟨cat_at _ ha 0 (by simp) t, cat_at _ ha 1 (by simp) t, ?_⟩
  apply List.ext_getElem
  · rw [nums_len, h16]
  · intro i h1 h2
    have := cat_at _ ha (i + 2) (by simp; omega) t
    simpa [nums] using this
def pgIs (l : List ByteArray) : Bool := decide (l.length = 3 ∧ l.any outT = false ∧ pgOk (numAt (joinB l) 0) (numAt (joinB l) 1) (nums (joinB l)) = true ∧ pgB (numAt (joinB l) 0) (numAt (joinB l) 1) (nums (joinB l)) = joinB l)
def getN (l : List ByteArray) : Int := if pgIs l = true then numAt (joinB l) 0 else 0
def getV (l : List ByteArray) : Int := if pgIs l = true then numAt (joinB l) 1 else 0
def getC (l : List ByteArray) : List Int := if pgIs l = true then nums (joinB l) else []
theorem get_no {l : List ByteArray} (h : pgIs l = false) : getN l = 0 ∧ getV l = 0 ∧ getC l = [] := by
  have : ¬ pgIs l = true := by rw [h]; decide
  exact ⟨if_neg this, if_neg this, if_neg this⟩
theorem get_yes {l : List ByteArray} (h : pgIs l = true) : getN l = numAt (joinB l) 0 ∧ getV l = numAt (joinB l) 1 ∧ getC l = nums (joinB l) := ⟨if_pos h, if_pos h, if_pos h⟩
theorem get_put {no v : Int} {cs : List Int} (h : pgOk no v cs = true) : pgIs (pgL no v cs) = true ∧ getN (pgL no v cs) = no ∧ getV (pgL no v cs) = v ∧ getC (pgL no v cs) = cs := by
  have h16 := (pg_any h).2
  have hs := pgB_size no v cs h16
  obtain ⟨a1, a2, a3⟩ := pg_num h
  have e : joinB (pgL no v cs) = pgB no v cs := by rw [pgL_yes h, join_parts _ hs]
  have hi : pgIs (pgL no v cs) = true := by
    refine decide_eq_true ?_
    rw [e, a1, a2, a3]
    exact ⟨by rw [pgL_yes h]; rfl, by rw [pgL_yes h]; exact parts_size _ hs, h, rfl⟩
  obtain ⟨g1, g2, g3⟩ := get_yes hi
  rw [e] at g1 g2 g3
  exact ⟨hi, g1.trans a1, g2.trans a2, g3.trans a3⟩
end Go.Proofs.YtbghglkplbnnkaaGreatDoor
-- PageGet
namespace Go.Proofs.YtbghglkplbnnkaaGreatDoor
open Go.RowKit
open Go.Proofs.YtbghglkplbnnkaaGreatDoor.Bk

theorem join_bytes (l : List ByteArray) : (⟨(Lib.join (l.map (·.data.toList)) (ByteArray.mk #[]).data.toList).toArray⟩ : ByteArray) = joinB l := ba_ext (by
  rw [joinB_list]
  cases l with
  | nil => rfl
  | cons x l =>
    rw [List.map_cons, Lib.join_cons]
    simp [Lib.joinTail]
    rfl)
def RowAt (w : World) (g o : Nat) (l : List ByteArray) : Prop := LiesAt w (some ⟨g, o, none⟩) (txts l)
theorem RowAt.cell {w : World} {g o : Nat} {l : List ByteArray} (h : RowAt w g o l) (j : Nat) (x : ByteArray) (hj : l[j]? = some x) : w.cell? ⟨g, o + j, none⟩ = some (.string x) := by
  obtain ⟨b, h1, h2, h3⟩ := h j (.string x) (by simp [txts, hj])
  obtain rfl : (⟨g, o, none⟩ : Addr) = b := by simpa using h1
  rwa [Addr.add_mid] at h3
theorem RowAt.block {w : World} {g o : Nat} {l : List ByteArray} (h : RowAt w g o l) (hl : 0 < l.length) : g < w.heap.size := by
  obtain ⟨b, h1, h2, h3⟩ := h 0 (.string l[0]) (by simp [txts, hl])
  obtain rfl : (⟨g, o, none⟩ : Addr) = b := by simpa using h1
  exact h2
theorem RowAt.getD {w : World} {g o : Nat} {l : List ByteArray} (h : RowAt w g o l) (j : Nat) (hj : j < l.length) : w.cell? ⟨g, o + j, none⟩ = some (.string (l.getD j ByteArray.empty)) :=
  h.cell j _ (by simp [hj])
theorem own_some {w : World} {base : Nat} {e : TypeId} {v : Value} {n : Nat} {xs : List Value} (h : w.ownsRow base e 1 v n xs) (hn : 0 < n) : ∃ (g c : Nat), v = .slice (some ⟨g, 0, none⟩) n c ∧ LiesAt w (some ⟨g, 0, none⟩) xs := by
  obtain ⟨a, c, rfl, hl, h' | ⟨g, rfl, _⟩⟩ := own_form h
  · have hx : 0 < xs.length := by rw [h.1]; omega
    obtain ⟨b, hb, _⟩ := hl 0 xs[0] (List.getElem?_eq_getElem hx)
    rw [h'] at hb
    cases hb
  · exact ⟨g, c, rfl, hl⟩
theorem Equal_is (g1 o1 c1 g2 o2 c2 : Nat) (l1 l2 : List ByteArray) (w : World) (h1 : RowAt w g1 o1 l1) (h2 : RowAt w g2 o2 l2) (m1 : l1.length = 3) (m2 : l2.length = 3) (t : Bool) (ht : t = true ↔ l1 = l2) :
    Calls Tryz.prog 183 #[.slice (some ⟨g1, o1, none⟩) 3 c1, .slice (some ⟨g2, o2, none⟩) 3 c2] w fun e w' => e = .returned (.bool t) ∧ Below w.heap.size w w' := by
  refine (Tryz.slices_Equal_string g1 o1 3 c1 g2 o2 3 c2 l1 l2 w (by omega) (by omega) (by omega) (by omega) (fun j hj => h1.getD j hj) (fun j hj => h2.getD j hj)).mono ?_
  rintro e w' ⟨rfl, q, rfl⟩
  refine ⟨ret_bool ?_, bel_draws _ _ _⟩
  rw [List.take_of_length_le (by omega), List.take_of_length_le (by omega)]
  cases t
  · exact decide_eq_false (fun q => by have := ht.2 q; cases this)
  · exact decide_eq_true (ht.1 rfl)
theorem Join_is (g o c : Nat) (l : List ByteArray) (w : World) (h : RowAt w g o l) (h3 : l.length = 3) (hs : (joinB l).size = 96) (hc : 3 ≤ c) :
    Calls Tryz.prog 182 #[.slice (some ⟨g, o, none⟩) 3 c, .string ⟨#[]⟩] w fun e w' => e = .returned (.string (joinB l)) ∧ Below w.heap.size w w' := by
  have := Tryz.strings_Join g o c l ⟨#[]⟩ w (fun j x hx => h.cell j x hx) (h.block (by omega)) (by omega) (by omega) (by
    have e := congrArg ByteArray.size (join_bytes l)
    rw [← ba_len] at e
    simp only at e
    rw [e, hs]; omega)
  rw [h3, join_bytes l] at this
  exact this
theorem pg_neq {l : List ByteArray} (h3 : l.length = 3) (ha : l.any outT = false) (hok : pgOk (numAt (joinB l) 0) (numAt (joinB l) 1) (nums (joinB l)) = true) : (pgIs l = true ↔ parts (pgB (numAt (joinB l) 0) (numAt (joinB l) 1) (nums (joinB l))) = l) := by
  have hs : (joinB l).size = 96 := by rw [joinB_size l ha, h3]
  have hb := pgB_size (numAt (joinB l) 0) (numAt (joinB l) 1) (nums (joinB l)) (nums_len _)
  constructor
  · intro h
    obtain ⟨_, _, _, h4⟩ := of_decide_eq_true h
    rw [h4]
    exact parts_join l h3 ha
  · intro h
    refine decide_eq_true ⟨h3, ha, hok, ?_⟩
    have := join_parts _ hb
    rw [h] at this
    exact this.symm

theorem results_tmp4 {fn : Func} {t u v x : Tmp} (h : fn.results = #[.tmp t, .tmp u, .tmp v, .tmp x]) (tmps : Array Value) (P : Program) (w : World) :
    (results fn tmps).run P w = .ok (.tuple #[tmps.getD t undef, tmps.getD u undef, tmps.getD v undef, tmps.getD x undef]) w := by
  simp [results, h]
theorem pg_bad {l : List ByteArray} (h : ¬ (l.length = 3 ∧ l.any outT = false ∧ pgOk (numAt (joinB l) 0) (numAt (joinB l) 1) (nums (joinB l)) = true)) : pgIs l = false := decide_eq_false (fun q => h ⟨q.1, q.2.1, q.2.2.1⟩)

set_option maxRecDepth 100000 in
set_option maxHeartbeats 2000000 in
theorem pget_is (a : Option Addr) (l : List ByteArray) (c : Nat) (w : World) (h : LiesAt w a (txts l)) (hl : l.length ≤ maxLen) (hf : l.length = 3 → 3 ≤ c ∧ ∃ g o, a = some ⟨g, o, none⟩) :
    Calls Tryz.prog 168 #[.slice a l.length c] w fun e w' => ∃ x, e = .returned (.tuple #[.int .i64 (getN l), .int .i64 (getV l), x, .bool (pgIs l)]) ∧ Below w.heap.size w w' ∧ w'.ownsRow w.heap.size 3 1 x (getC l).length (vals (getC l)) := by
  have hB : Hid (Below w.heap.size w w) := Lib.hid (Below.refl _ _)
  have HC := Lib.hid (fun u (q : LiesAt u a (txts l)) => containsFT a l c u q hl)
  by_cases h3 : l.length = 3
  · by_cases ha : l.any outT = false
    · obtain ⟨hc3, g, o, rfl⟩ := hf h3
      have hs : (joinB l).size = 96 := by rw [joinB_size l ha, h3]
      rw [ha, h3] at HC
      have HJ := Lib.hid (fun u (q : RowAt u g o l) => Join_is g o c l u q h3 hs hc3)
      have HN := Lib.hid (fun u => numbersOf_is (joinB l) hs u)
      have hnl := nums_len (joinB l)
      have H := Lib.hid (show RowAt w g o l from h)
      have H3 := Lib.hid h3
      by_cases hok : pgOk (numAt (joinB l) 0) (numAt (joinB l) 1) (nums (joinB l)) = true
      · have HQ := Lib.hid (pg_neq h3 ha hok)
        have HP := Lib.hid (fun (a1 : Option Addr) (c1 : Nat) u (q : LiesAt u a1 (vals (nums (joinB l)))) => pput_is (numAt (joinB l) 0) (numAt (joinB l) 1) a1 (nums (joinB l)) c1 u q (by rw [hnl]; unfold maxLen; omega))
        rw [hok, hnl, pgL_yes hok] at HP
        have HE := Lib.hid (fun (g1 c1 : Nat) (l1 : List ByteArray) u (q1 : RowAt u g1 0 l1) (m1 : l1.length = 3) (q2 : RowAt u g o l) (t : Bool) (ht : t = true ↔ l1 = l) => Equal_is g1 0 c1 g o c l1 l u q1 q2 m1 h3 t ht)
        have hl3 : (l.length : Int) = 3 := by omega
        have HV := Lib.hid (And.intro (get_yes (l := l)) (get_no (l := l)))
        generalize numAt (joinB l) 0 = n0 at *
        generalize numAt (joinB l) 1 = n1 at *
        generalize nums (joinB l) = ns at *
        generalize joinB l = s at *
        rw [h3]
        clear hok hs hc3 h hl hf ha h3
        generalize hpl : parts (pgB n0 n1 ns) = pl at *
        have hpl3 : pl.length = 3 := by rw [← hpl]; rfl
        rw [hpl3] at HP
        have HPL := Lib.hid hpl3
        have HNS := Lib.hid hnl
        clear hpl hpl3 hnl hl3
        by_cases hi : pgIs l = true
        · obtain ⟨e1, e2, e3⟩ := HV.out.1 hi
          rw [e1, e2, e3, hi, HNS.out]
          have HQT := Lib.hid (HQ.out.1 hi)
          clear e1 e2 e3 HQ HV hi HNS
          go_enter Tryz.func168, Tryz.ntmps168
          go_wp2_with (first
            | (go_at_call 179; refine (HC.out _ (H.out.below hB.out)).mono ?_; rintro e w1 ⟨rfl, rfl⟩)
            | (go_at_call 182; refine (HJ.out _ (H.out.below hB.out)).mono ?_; rintro e w1 ⟨rfl, b1⟩; replace hB := Lib.hid (below_next hB.out b1); clear b1)
            | (go_at_call 181
               refine (HN.out _).mono ?_
               rintro e w1 ⟨v, rfl, b1, o1⟩
               obtain ⟨a1, c1, rfl, l1, _⟩ := own_form o1
               have HO := Lib.hid (And.intro (owns_mono hB.out.size o1) l1)
               replace hB := Lib.hid (below_next hB.out b1)
               clear b1 o1 l1)
            | (go_at_call 121
               refine (HP.out _ _ _ HO.out.2).mono ?_
               rintro e w1 ⟨v, rfl, b1, o1⟩
               obtain ⟨g1, c2, rfl, l2⟩ := own_some o1 (by omega)
               replace HO := Lib.hid (And.intro (owns_below HO.out.1 b1) l2)
               replace hB := Lib.hid (below_next hB.out b1)
               clear b1 o1 l2)
            | (go_at_call 183
               refine (HE.out _ _ pl _ HO.out.2 HPL.out (H.out.below hB.out) true ⟨fun _ => HQT.out, fun _ => rfl⟩).mono ?_
               rintro e w1 ⟨rfl, b1⟩
               replace HO := Lib.hid (owns_below HO.out.1 b1)
               replace hB := Lib.hid (below_next hB.out b1)
               clear b1))
          (try simp only [Exit.inBlock, Exit.then])
          refine bodyPost_ret (results_tmp4 rfl _ _ _) rfl ?_
          exact ⟨_, rfl, hB.out, HO.out⟩
        · have hi : pgIs l = false := by simpa using hi
          obtain ⟨e1, e2, e3⟩ := HV.out.2 hi
          rw [e1, e2, e3, hi]
          have HQT : Hid (¬ pl = l) := Lib.hid (fun q => by have := HQ.out.2 q; rw [hi] at this; cases this)
          clear e1 e2 e3 HQ HV hi HNS
          go_enter Tryz.func168, Tryz.ntmps168
          go_wp2_with (first
            | (go_at_call 179; refine (HC.out _ (H.out.below hB.out)).mono ?_; rintro e w1 ⟨rfl, rfl⟩)
            | (go_at_call 182; refine (HJ.out _ (H.out.below hB.out)).mono ?_; rintro e w1 ⟨rfl, b1⟩; replace hB := Lib.hid (below_next hB.out b1); clear b1)
            | (go_at_call 181
               refine (HN.out _).mono ?_
               rintro e w1 ⟨v, rfl, b1, o1⟩
               obtain ⟨a1, c1, rfl, l1, _⟩ := own_form o1
               have HO := Lib.hid (And.intro (owns_mono hB.out.size o1) l1)
               replace hB := Lib.hid (below_next hB.out b1)
               clear b1 o1 l1)
            | (go_at_call 121
               refine (HP.out _ _ _ HO.out.2).mono ?_
               rintro e w1 ⟨v, rfl, b1, o1⟩
               obtain ⟨g1, c2, rfl, l2⟩ := own_some o1 (by omega)
               replace HO := Lib.hid (And.intro (owns_below HO.out.1 b1) l2)
               replace hB := Lib.hid (below_next hB.out b1)
               clear b1 o1 l2)
            | (go_at_call 183
               refine (HE.out _ _ pl _ HO.out.2 HPL.out (H.out.below hB.out) false ⟨fun q => (by cases q), fun q => absurd q HQT.out⟩).mono ?_
               rintro e w1 ⟨rfl, b1⟩
               replace HO := Lib.hid (owns_below HO.out.1 b1)
               replace hB := Lib.hid (below_next hB.out b1)
               clear b1))
          all_goals
            (try simp only [Exit.inBlock, Exit.then])
            refine bodyPost_ret (results_tmp4 rfl _ _ _) rfl ?_
            exact ⟨_, rfl, hB.out, World.ownsRow_nil _ _ _ _⟩
      · obtain ⟨e1, e2, e3⟩ := get_no (pg_bad (l := l) (fun q => hok q.2.2))
        have hi := pg_bad (l := l) (fun q => hok q.2.2)
        have hok : pgOk (numAt (joinB l) 0) (numAt (joinB l) 1) (nums (joinB l)) = false := by simpa using hok
        have HP := Lib.hid (fun (a1 : Option Addr) (c1 : Nat) u (q : LiesAt u a1 (vals (nums (joinB l)))) => pput_is (numAt (joinB l) 0) (numAt (joinB l) 1) a1 (nums (joinB l)) c1 u q (by rw [hnl]; unfold maxLen; omega))
        rw [hok, hnl, pgL_no hok] at HP
        rw [e1, e2, e3, hi]
        have hl3 : (l.length : Int) = 3 := by omega
        generalize numAt (joinB l) 0 = n0 at *
        generalize numAt (joinB l) 1 = n1 at *
        generalize nums (joinB l) = ns at *
        generalize joinB l = s at *
        rw [h3]
        clear hok hs hc3 h hl hf ha h3 e1 e2 e3 hi hnl hl3
        go_enter Tryz.func168, Tryz.ntmps168
        go_wp2_with (first
          | (go_at_call 179; refine (HC.out _ (H.out.below hB.out)).mono ?_; rintro e w1 ⟨rfl, rfl⟩)
          | (go_at_call 182; refine (HJ.out _ (H.out.below hB.out)).mono ?_; rintro e w1 ⟨rfl, b1⟩; replace hB := Lib.hid (below_next hB.out b1); clear b1)
          | (go_at_call 181
             refine (HN.out _).mono ?_
             rintro e w1 ⟨v, rfl, b1, o1⟩
             obtain ⟨a1, c1, rfl, l1, _⟩ := own_form o1
             have HO := Lib.hid l1
             replace hB := Lib.hid (below_next hB.out b1)
             clear b1 o1 l1)
          | (go_at_call 121
             refine (HP.out _ _ _ HO.out).mono ?_
             rintro e w1 ⟨v, rfl, b1, o1⟩
             replace hB := Lib.hid (below_next hB.out b1)
             clear b1 o1))
        all_goals
          (try simp only [Exit.inBlock, Exit.then])
          refine bodyPost_ret (results_tmp4 rfl _ _ _) rfl ?_
          exact ⟨_, rfl, hB.out, World.ownsRow_nil _ _ _ _⟩
    · obtain ⟨e1, e2, e3⟩ := get_no (pg_bad (l := l) (fun q => ha q.2.1))
      have hi := pg_bad (l := l) (fun q => ha q.2.1)
      have ha : l.any outT = true := by simpa using ha
      rw [ha] at HC
      rw [e1, e2, e3, hi]
      have H := Lib.hid h
      have hl3 : (l.length : Int) = 3 := by omega
      clear h hl hf ha h3 e1 e2 e3 hi
      go_enter Tryz.func168, Tryz.ntmps168
      go_wp2_with (go_at_call 179; refine (HC.out _ (H.out.below hB.out)).mono ?_; rintro e w1 ⟨rfl, rfl⟩)
      all_goals
        (try simp only [Exit.inBlock, Exit.then])
        refine bodyPost_ret (results_tmp4 rfl _ _ _) rfl ?_
        exact ⟨_, rfl, hB.out, World.ownsRow_nil _ _ _ _⟩
  · obtain ⟨e1, e2, e3⟩ := get_no (pg_bad (l := l) (fun q => h3 q.1))
    have hi := pg_bad (l := l) (fun q => h3 q.1)
    rw [e1, e2, e3, hi]
    have hl3 : ((l.length : Int) == 3) = false := by simp; omega
    have hl4 : ((l.length : Int) != 3) = true := by simp; omega
    clear h hl hf h3 e1 e2 e3 hi
    go_enter Tryz.func168, Tryz.ntmps168
    go_wp2
    all_goals
      (try simp only [Exit.inBlock, Exit.then])
      refine bodyPost_ret (results_tmp4 rfl _ _ _) rfl ?_
      exact ⟨_, rfl, hB.out, World.ownsRow_nil _ _ _ _⟩
end Go.Proofs.YtbghglkplbnnkaaGreatDoor
-- PageAt
namespace Go.Proofs.YtbghglkplbnnkaaGreatDoor
open Go.RowKit
open Go.Proofs.YtbghglkplbnnkaaGreatDoor.Bk

def atIs (no v : Int) (l : List ByteArray) : Bool := decide (pgIs l = true ∧ getN l = no ∧ getV l = v)
def atC (no v : Int) (l : List ByteArray) : List Int := if atIs no v l = true then getC l else []
theorem at_no {no v : Int} {l : List ByteArray} (h : ¬ (pgIs l = true ∧ getN l = no ∧ getV l = v)) : atIs no v l = false ∧ atC no v l = [] := by
  have e : atIs no v l = false := decide_eq_false h
  exact ⟨e, if_neg (by rw [e]; decide)⟩
theorem at_yes {no v : Int} {l : List ByteArray} (h : pgIs l = true ∧ getN l = no ∧ getV l = v) : atIs no v l = true ∧ atC no v l = getC l := by
  have e : atIs no v l = true := decide_eq_true h
  exact ⟨e, if_pos e⟩
set_option maxRecDepth 100000 in
set_option maxHeartbeats 1000000 in
theorem pat_is (no v : Int) (a : Option Addr) (l : List ByteArray) (c : Nat) (w : World) (h : LiesAt w a (txts l)) (hl : l.length ≤ maxLen) (hf : l.length = 3 → 3 ≤ c ∧ ∃ g o, a = some ⟨g, o, none⟩) :
    Calls Tryz.prog 154 #[.int .i64 no, .int .i64 v, .slice a l.length c] w fun e w' => ∃ x, e = .returned (.tuple #[x, .bool (atIs no v l)]) ∧ Below w.heap.size w w' ∧ w'.ownsRow w.heap.size 3 1 x (atC no v l).length (vals (atC no v l)) := by
  have HG := Lib.hid (pget_is a l c w h hl hf)
  clear h hl hf
  by_cases hi : pgIs l = true
  · by_cases h1 : getN l = no
    · by_cases h2 : getV l = v
      · obtain ⟨e1, e2⟩ := at_yes ⟨hi, h1, h2⟩
        rw [e1, e2]
        rw [hi, h1, h2] at HG
        clear e1 e2 hi h1 h2
        generalize getC l = cs at *
        go_enter Tryz.func154, Tryz.ntmps154
        go_wp2_with (go_at_call 168; refine HG.out.mono ?_; rintro e w1 ⟨x, rfl, b1, o1⟩; replace HG := Lib.hid (And.intro b1 o1); clear b1 o1)
        go_ret2
        exact ⟨_, rfl, HG.out.1, HG.out.2⟩
      · obtain ⟨e1, e2⟩ := at_no (l := l) (no := no) (v := v) (fun q => h2 q.2.2)
        rw [e1, e2]
        have n2 : (getV l == v) = false := by simpa using h2
        have n3 : (getV l != v) = true := by simpa using h2
        rw [hi, h1] at HG
        clear e1 e2 hi h1 h2
        generalize getC l = cs at *
        generalize getV l = y at *
        go_enter Tryz.func154, Tryz.ntmps154
        go_wp2_with (go_at_call 168; refine HG.out.mono ?_; rintro e w1 ⟨x, rfl, b1, o1⟩; replace HG := Lib.hid b1; clear b1 o1)
        all_goals
          go_ret2
          exact ⟨_, rfl, HG.out, World.ownsRow_nil _ _ _ _⟩
    · obtain ⟨e1, e2⟩ := at_no (l := l) (no := no) (v := v) (fun q => h1 q.2.1)
      rw [e1, e2]
      have n2 : (getN l == no) = false := by simpa using h1
      have n3 : (getN l != no) = true := by simpa using h1
      rw [hi] at HG
      clear e1 e2 hi h1
      generalize getC l = cs at *
      generalize getV l = y at *
      generalize getN l = z at *
      go_enter Tryz.func154, Tryz.ntmps154
      go_wp2_with (go_at_call 168; refine HG.out.mono ?_; rintro e w1 ⟨x, rfl, b1, o1⟩; replace HG := Lib.hid b1; clear b1 o1)
      all_goals
        go_ret2
        exact ⟨_, rfl, HG.out, World.ownsRow_nil _ _ _ _⟩
  · obtain ⟨e1, e2⟩ := at_no (l := l) (no := no) (v := v) (fun q => hi q.1)
    have hi : pgIs l = false := by simpa using hi
    rw [e1, e2]
    rw [hi] at HG
    clear e1 e2 hi
    generalize getC l = cs at *
    generalize getV l = y at *
    generalize getN l = z at *
    go_enter Tryz.func154, Tryz.ntmps154
    go_wp2_with (go_at_call 168; refine HG.out.mono ?_; rintro e w1 ⟨x, rfl, b1, o1⟩; replace HG := Lib.hid b1; clear b1 o1)
    all_goals
      go_ret2
      exact ⟨_, rfl, HG.out, World.ownsRow_nil _ _ _ _⟩
end Go.Proofs.YtbghglkplbnnkaaGreatDoor
