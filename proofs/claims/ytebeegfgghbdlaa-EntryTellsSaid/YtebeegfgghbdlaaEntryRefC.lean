/- The document's own entries: Changes. -/
import Derived.Test.YtebeegfgghbdlaaEntryRefG
import Derived.Test.YtebeegfgghbdlaaBookBase
import Derived.Deep.RegionLaw
namespace Go.Proofs.Ytebeegfgghbdlaa
open Go.RowKit
open Go.Proofs.Ytebeegfgghbdlaa.Bk

/-- What is kept from round to round: the changes that are told; those that are not committed. -/
structure Two2 (w wr : World) (vo vn : Value) (T OP : List Chg) : Prop where
  below : Below w.heap.size w wr
  told : wr.ownsRow w.heap.size 56 2 vo T.length (flat Chg.cells T)
  open_ : wr.ownsRow w.heap.size 56 2 vn OP.length (flat Chg.cells OP)
  apart : ∀ g, vo.ownBlock = some g → vn.ownBlock ≠ some g
/-- One change more that is not committed. -/
theorem Two2.push {w wr u w4 : World} {vo vn : Value} {T OP : List Chg} {x : Chg} {g cap : Nat} (h : Two2 w wr vo vn T OP) (b : Below wr.heap.size wr u)
    (hown : w4.ownsRow w.heap.size 56 2 (.slice (some ⟨g, 0, none⟩) (OP.length + 1) cap) (OP.length + 1) (flat Chg.cells OP ++ x.cells)) (hgr : u.grownBy w4 vn.ownBlock) (hat : vn.ownBlock = some g ∨ g = u.heap.size) :
    Two2 w w4 vo (.slice (some ⟨g, 0, none⟩) (OP.length + 1) cap) T (OP ++ [x]) := by
  have hs := h.below.size
  have hu := b.size
  refine ⟨(h.below.trans (b.mono hs)).grown hgr (by omega) (fun k hk => (h.open_.lt k hk).1), owns_grown (own_belowK h.told b) hgr (fun g' e q => h.apart g' e q), ?_, fun g' e q => ?_⟩
  · rw [List.length_append, flat_app, flat_one]
    exact hown
  · obtain rfl : g = g' := by simpa [Value.ownBlock] using q
    rcases hat with e2 | e2
    · exact h.apart g e e2
    · have := (h.told.lt g e).2
      omega
/-- A commit. -/
theorem Two2.take {w wr w4 : World} {vo vn v' : Value} {T OP : List Chg} (h : Two2 w wr vo vn T OP) (hown : w4.ownsRow w.heap.size 56 2 v' (T.length + OP.length) (flat Chg.cells T ++ flat Chg.cells OP)) (hgr : wr.grownBy w4 vo.ownBlock) :
    Two2 w w4 v' (.slice none 0 0) (T ++ OP) [] := by
  refine ⟨h.below.grown hgr h.below.size (fun k hk => (h.told.lt k hk).1), ?_, World.ownsRow_nil _ _ _ _, fun g' e q => by cases q⟩
  rw [List.length_append, flat_app]
  exact hown
theorem chR_at (l : List Ent) (i wh : Nat) (op told : List Chg) (h : i < l.length) : chR (l.drop i) i wh op told =
    if l[i].k = 2 ∧ l[i].c = (op.length : Int) then chR (l.drop (i + 1)) (i + 1) (i + 1) [] (told ++ op)
    else if l[i].k = 1 then chR (l.drop (i + 1)) (i + 1) wh (op ++ [toChg l[i]]) told
    else (told, wh) := by
  rw [List.drop_eq_getElem_cons h, chR]

set_option maxRecDepth 100000 in
set_option maxHeartbeats 2000000 in
theorem rchanges_is (a : Option Addr) (l : List Ent) (c : Nat) (w : World) (h : LiesAt w a (flat Ent.cells l)) (hl : l.length ≤ 1000) (R : List Chg) (n : Nat) (hR : changesL l = (R, n)) :
    Calls Try.prog 16 #[.slice a l.length c] w fun e w' => ∃ v, e = .returned (.tuple #[v, .int .i64 (n : Int)]) ∧ Below w.heap.size w w' ∧ w'.ownsRow w.heap.size 56 2 v R.length (flat Chg.cells R) := by
  obtain ⟨i0, hi, hz0, hz1, hz2⟩ := info_parts chgInfo
  have HI := Lib.hid (And.intro hi (And.intro hz0 (And.intro hz1 hz2)))
  clear hi hz0 hz1 hz2
  have H := Lib.hid h
  have HS := Lib.hid (show chR (l.drop 0) 0 0 [] [] = (R, n) by rw [← hR, changesL_R]; rfl)
  clear h hR
  go_enter Try.func16, Try.ntmps16
  go_wp2
  go_loopw [4, 5, 6, 7] (fun vo vn x i wr => ∃ (k wh m : Nat) (T OP : List Chg) (ao : Option Addr) (co : Nat), k ≤ l.length ∧ i = .int .i64 (k : Int) ∧ x = .int .i64 (wh : Int) ∧ vn = .slice ao m co ∧ Hid (m = OP.length ∧ T.length + m ≤ k) ∧ Hid (Two2 w wr vo (.slice ao m co) T OP) ∧ Hid (chR (l.drop k) k wh OP T = (R, n))) (fun _ _ _ i _ => l.length - (intOf i).toNat)
  case atStart => exact ⟨0, 0, 0, [], [], none, 0, Nat.zero_le _, rfl, rfl, rfl, Lib.hid ⟨rfl, Nat.le_refl _⟩, Lib.hid ⟨Below.refl _ _, World.ownsRow_nil _ _ _ _, World.ownsRow_nil _ _ _ _, fun g e => by cases e⟩, HS⟩
  case round =>
    obtain ⟨k, wh, m, T, OP, ao, co, hk, rfl, rfl, rfl, hm, HT, HG⟩ := hrel
    have hki : (k : Int) ≤ 1000 := by omega
    by_cases hlt : k < l.length
    · obtain ⟨g1, o1, rfl, hg1, e1⟩ := (H.out.below HT.out.below).elem Ent.len (by omega) (List.getElem?_eq_getElem hlt)
      have e1_0 := e1 0 _ rfl
      have e1_1 := e1 1 _ rfl
      have e1_2 := e1 2 _ rfl
      have e1_3 := e1 3 _ rfl
      have e1_4 := e1 4 _ rfl
      rw [Nat.add_zero] at e1_0
      clear e1
      have HN := Lib.hid (chR_at l k wh OP T hlt)
      have hmle : m ≤ 1000 := by have := hm.out.2; omega
      generalize l[k] = x at *
      obtain ⟨xk, xl, xe, xc, xv⟩ := x
      simp only at e1_0 e1_1 e1_2 e1_3 e1_4
      have hi1 : (k : Int) < (l.length : Int) := by omega
      by_cases hk1 : xk = 1
      · subst hk1
        have HE : Hid (chR (l.drop (k + 1)) (k + 1) wh (OP ++ [⟨xc, xv⟩]) T = (R, n)) := Lib.hid (by
          have := HN.out
          rw [if_neg (fun h => by have := h.1; simp at this), if_pos rfl] at this
          rw [← HG.out]; exact this.symm)
        clear HN HG
        have hml : m = OP.length := hm.out.1
        have HP := Lib.hid (show wr.ownsRow w.heap.size 56 2 (.slice ao m co) m (flat Chg.cells OP) by rw [hml]; have := HT.out.open_; rw [hml] at this; exact this)
        clear hml
        go_wp2_with fail
        go_region_law (first
          | (refine step_append_lies _ rfl (.tmp 23) (.tmp 35) 24 rfl w.heap.size 56 i0 _ 2 16 Try.underlying24 HI.out.1 HI.out.2.1 HI.out.2.2.1 HI.out.2.2.2 (by rfl) (by omega) (.slice ao m co) m (flat Chg.cells OP) rfl ((HP.out.alloc _).drew) _ 1 1 [.int .i64 xc, .int .i64 xv] rfl rfl (by exact World.news_of_block (heap_alloc_last _ _)) (Chg.one ⟨xc, xv⟩) (by omega) (by unfold maxLen; omega) (by omega) (by have := HT.out.below.size; simp; omega) _ rfl ?_
             intro g cap w4 hown4 hgr4 hat4 hlt4))
        all_goals
          have H6 := Lib.hid (HT.out.push (((Below.refl wr.heap.size wr).alloc (Nat.le_refl _) (.cells #[.int .i64 xc, .int .i64 xv] 56)).drew) (x := ⟨xc, xv⟩) (by rw [← hm.out.1]; exact hown4) hgr4 hat4)
          clear hown4 hgr4 hat4 hlt4
          go_wp2
          exact ⟨⟨k + 1, wh, m + 1, T, OP ++ [⟨xc, xv⟩], some ⟨g, 0, none⟩, cap, by omega, by go_num, rfl, rfl, Lib.hid ⟨by rw [List.length_append, ← hm.out.1]; rfl, by have := hm.out.2; omega⟩, Lib.hid (by have := H6.out; rw [← hm.out.1] at this; exact this), HE⟩, by simp [intOf]; omega⟩
      · have hk1f : (xk == 1) = false := by simpa using hk1
        by_cases hk2 : xk = 2
        · subst hk2
          by_cases hq : xc = (m : Int)
          · have HE : Hid (chR (l.drop (k + 1)) (k + 1) (k + 1) [] (T ++ OP) = (R, n)) := Lib.hid (by
              have := HN.out
              rw [if_pos ⟨rfl, by rw [hq, hm.out.1]⟩] at this
              rw [← HG.out]; exact this.symm)
            subst hq
            have HLi : Hid (LiesAt wr ao (flat Chg.cells OP)) := Lib.hid (by
              obtain ⟨a', c', hv, hl', _⟩ := own_formK HT.out.open_
              have h1 : ao = a' := (Value.slice.inj hv).1
              rw [h1]
              exact hl')
            clear HN HG
            go_wp2_with (first
              | (at_builtin
                 refine wpList_append_row rfl (.tmp 54) (.tmp 55) 24 rfl w.heap.size 56 i0 _ 2 16 Try.underlying24 HI.out.1 HI.out.2.1 HI.out.2.2.1 HI.out.2.2.2 ?qa2 ?qa3 u4 T.length (flat Chg.cells T) ?qh ?qa0 ao m co (flat Chg.cells OP) ?qa1 ?qa6 ?qa7 ?qa8 ?qb1 ?qb2 ?qb3 ?qb5
                 case qa2 => rfl
                 case qa3 => omega
                 case qh => rfl
                 case qa0 => exact HT.out.told
                 case qa1 => rfl
                 case qa6 => rw [flat_len Chg.len, hm.out.1]
                 case qa7 => exact HLi.out
                 case qa8 => exact flat_all Chg.one _
                 case qb1 => have := hm.out.2; unfold maxLen; omega
                 case qb2 => have := hm.out.2; omega
                 case qb3 => exact HT.out.below.size
                 intro v6 w6 hown6 hgr6
                 have H6 := Lib.hid (HT.out.take (by rw [← hm.out.1]; exact hown6) hgr6)
                 clear hown6 hgr6))
            exact ⟨⟨k + 1, k + 1, 0, T ++ OP, [], none, 0, by omega, by go_num, by go_num, rfl, Lib.hid ⟨rfl, by rw [List.length_append, ← hm.out.1]; have := hm.out.2; omega⟩, H6, HE⟩, by simp [intOf]; omega⟩
          · have hqf : (xc == (m : Int)) = false := by simpa using hq
            have HE : Hid ((T, wh) = (R, n)) := Lib.hid (by
              have := HN.out
              rw [if_neg (fun h => hq (by rw [hm.out.1]; exact h.2)), if_neg (by show ¬ (2 : Int) = 1; omega)] at this
              rw [← HG.out]; exact this.symm)
            clear HN HG
            go_wp2
            go_ret2
            obtain ⟨rfl, rfl⟩ : T = R ∧ wh = n := by simpa using HE.out
            exact ⟨_, rfl, HT.out.below, HT.out.told⟩
        · have hk2f : (xk == 2) = false := by simpa using hk2
          have HE : Hid ((T, wh) = (R, n)) := Lib.hid (by
            have := HN.out
            rw [if_neg (fun h => hk2 h.1), if_neg hk1] at this
            rw [← HG.out]; exact this.symm)
          clear HN HG
          go_wp2
          go_ret2
          obtain ⟨rfl, rfl⟩ : T = R ∧ wh = n := by simpa using HE.out
          exact ⟨_, rfl, HT.out.below, HT.out.told⟩
    · obtain rfl : k = l.length := by omega
      have HE : Hid ((T, wh) = (R, n)) := Lib.hid (by
        have := HG.out
        rwa [List.drop_length, chR] at this)
      have hn : ¬ (l.length : Int) < (l.length : Int) := by omega
      clear hlt hk
      go_wp2
      go_ret2
      obtain ⟨rfl, rfl⟩ : T = R ∧ wh = n := by simpa using HE.out
      exact ⟨_, rfl, HT.out.below, HT.out.told⟩
end Go.Proofs.Ytebeegfgghbdlaa
