/- sector.blockOf by its contract. -/
import Derived.Test.YtbcdmcafobjpcaaGreatDoorSecNew
import Derived.Deep.WholeRow
import Derived.Lib.LazyBuf
namespace Go.Proofs.YtbcdmcafobjpcaaGreatDoor.Sec
open Go.RowKit

theorem results_cell {P : Program} {fn : Func} {p : Tmp} {ty : TypeId} (h : fn.results = #[.cell p ty]) {tmps : Array Value} {a : Addr} {v : Value} {w : World} (hp : tmps.getD p undef = .pointer (some a))
    (hl : (loadVar ty a).run P w = .ok v w) : (results fn tmps).run P w = .ok v w := by
  simp only [results, h]
  have hp' : tmps[p]?.getD undef = .pointer (some a) := by simpa using hp
  simp [Sem.run_bind, Result.andThen, hp', asAddr, hl]
theorem bcells_one (b : ByteArray) : ∀ v ∈ bcells b, v.oneCell' = true := by
  intro v hv
  obtain ⟨x, _, rfl⟩ := List.mem_map.1 hv
  rfl
theorem blockSize : (Tryz.prog.info? 75).map (·.size) = some 32 := by kernel_rfl
theorem byteSize (w : World) : (Go.sizeOf 5).run Tryz.prog w = .ok 1 w := by kernel_rfl

set_option maxHeartbeats 1000000 in
theorem blockOf_is (b : ByteArray) (hb : b.size = 32) (w : World) :
    Calls Tryz.prog 95 #[.string b] w fun e w' => e = .returned (.agg (bcells b).toArray) ∧ Only (fun _ => False) w w' := by
  have key : ∀ C : Array Value, C.size = 32 →
      (∀ j, j < 32 → ((w.alloc (.cells C 75)).cell? ⟨w.heap.size, j, none⟩).isSome = true) ∧ (∀ j, (w.alloc (.cells C 75)).frozen? ⟨w.heap.size, j, none⟩ = false) := fun C hC => by
    refine ⟨fun j hj => ?_, fun j => by simp⟩
    rw [World.cell?_alloc_new, Array.getElem?_eq_getElem (by omega)]
    rfl
  have hcp : ∀ C : Array Value, C.size = 32 → (Builtin.copy_ #[157, 9] 3 #[.slice (some ⟨w.heap.size, 0, none⟩) 32 32, .string b]).run Tryz.prog (w.alloc (.cells C 75)) =
      .ok (.int .i64 32) ((w.alloc (.cells C 75)).setCells w.heap.size 0 (bcells b)) := fun C hC => by
    have := run_copy_string (P := Tryz.prog) (w.alloc (.cells C 75)) 157 9 3 5 w.heap.size 0 32 32 b Tryz.underlying157 byteSize (by omega)
      (fun j hj => by rw [Nat.zero_add]; exact (key C hC).1 j (by omega)) (fun j _ => (key C hC).2 _)
    rw [hb] at this
    exact this
  have hth : ∀ C : Array Value, C.size = 32 → ((w.alloc (.cells C 75)).setCells w.heap.size 0 (bcells b)).there w.heap.size 0 32 := fun C hC =>
    World.there_setCells (fun j hj => ⟨by rw [Nat.zero_add]; exact (key C hC).1 j hj, (key C hC).2 _⟩) _ _ _
  have hrg : ∀ C : Array Value, C.size = 32 → ((w.alloc (.cells C 75)).setCells w.heap.size 0 (bcells b)).rangeAt w.heap.size 0 (bcells b) := fun C hC =>
    World.rangeAt_setCells_same _ _ _ _ (fun j hj => by rw [bcells_len, hb] at hj; exact ⟨by rw [Nat.zero_add]; exact (key C hC).1 j hj, (key C hC).2 _⟩)
  have hbl : (Tryz.prog.info? 75).map (·.size) = some (bcells b).length := by rw [bcells_len, hb]; exact blockSize
  have HK := Lib.hid (And.intro hrg hth)
  have HB := Lib.hid hbl
  clear hrg hth key hbl
  go_enter Tryz.func95, Tryz.ntmps95
  go_wp2_with (first
    | (refine wpList_load_mid rfl 75 (.tmp 2) rfl w.heap.size 0 rfl (bcells b) _ (HK.out.1 _ rfl) Tryz.underlying75 rfl HB.out ?_)
    | (refine wpList_store_mid rfl 75 (.tmp 2) (.tmp 6) rfl w.heap.size 0 (bcells b).toArray rfl rfl (by simpa [bcells_len, hb] using HK.out.2 _ rfl) (by simpa using HB.out) (all_oneCell_toArray (bcells_one b)) ?_))
  refine bodyPost_ret (v := .agg (bcells b).toArray) (results_cell (p := 2) rfl rfl ?_) rfl ⟨rfl, ?_⟩
  · exact run_loadVar_mid (P := Tryz.prog) _ _ _ _ _ _ (World.rangeAt_setCells_same _ _ _ _ (by rw [bcells_len, hb]; refine HK.out.2 _ ?_; rfl)) Tryz.underlying75 rfl HB.out
  · exact Only.setCells (.inr (Nat.le_refl _)) _ _ (Only.setCells (.inr (Nat.le_refl _)) _ _ ((Only.refl _ _).alloc _))
end Go.Proofs.YtbcdmcafobjpcaaGreatDoor.Sec
