/- A part of the proofs about package super: what its functions answer, call by call. -/
import Derived.Test.YtjopjffecnflkaaDoorSc
import Derived.Lib.BufferWrite
import Derived.Laws.Tables
import Derived.Laws.CopyOwn
namespace Go.Proofs.YtjopjffecnflkaaDoor
open Go.RowKit
namespace Su
open Cr
/-- Bytes 0, as cells. -/
def zs (n : Nat) : Array Value := Array.replicate n (.int .u8 0)
theorem zs_get {n i : Nat} (h : i < n) : (zs n)[i]? = some (.int .u8 0) := by simp [zs, h]
theorem zs_size (n : Nat) : (zs n).size = n := by simp [zs]
/-- The mark ahead. -/
def mF : Nat → Nat := fun i => ([76, 83, 85, 80] : List Nat).getD i 0
theorem mark_cells : ∀ i, i < 60 → ((zs 60).toList.take 0 ++ Lib.byteCells [76, 83, 85, 80] ++ (zs 60).toList.drop (0 + 4)).toArray[i]? = some (.int .u8 (mF i : Nat)) := by
  intro i hi
  by_cases h : i < 4
  · rcases (by omega : i = 0 ∨ i = 1 ∨ i = 2 ∨ i = 3) with rfl | rfl | rfl | rfl <;> rfl
  · have hm : mF i = 0 := by
      obtain ⟨j, rfl⟩ : ∃ j, i = j + 4 := ⟨i - 4, by omega⟩
      rfl
    rw [hm]
    obtain ⟨j, rfl⟩ : ∃ j, i = j + 4 := ⟨i - 4, by omega⟩
    simp only [List.getElem?_toArray, List.take_zero, List.nil_append]
    rw [List.getElem?_append_right (by simp [Lib.byteCells])]
    show ((zs 60).toList.drop (0 + 4))[j]? = some (Value.int .u8 0)
    have hz : (zs 60).toList = List.replicate 60 (Value.int .u8 0) := rfl
    rw [List.getElem?_drop, hz, List.getElem?_replicate, if_pos (by omega)]
theorem copy_mark (w : World) : ∃ W, (Builtin.copy_ #[47, 9] 3 #[.slice (some ⟨w.heap.size, 0, none⟩) 60 60, .string { data := #[76, 83, 85, 80] }]).run Tryd.prog (w.alloc (.cells (zs 60) 68)) = .ok (.int .i64 4) W ∧ Rowc W w.heap.size 60 mF ∧ Below w.heap.size w W := by
  have hg : (w.alloc (.cells (zs 60) 68)).heap[w.heap.size]? = some (.cells (zs 60) 68 (0, 0)) := heap_alloc_new _ _
  have hn := setRow_heap (w.alloc (.cells (zs 60) 68)) w.heap.size (zs 60) ((zs 60).toList.take 0 ++ Lib.byteCells [76, 83, 85, 80] ++ (zs 60).toList.drop (0 + 4)).toArray 68 (0, 0) hg
  refine ⟨_, Lib.run_copy_row_string (P := Tryd.prog) _ 47 9 3 5 w.heap.size 0 60 60 { data := #[76, 83, 85, 80] } (zs 60) 68 Tryd.underlying47 (by kernel_rfl) hg (by decide) (by decide), ⟨?_, ?_, ?_⟩, ?_⟩
  · simp
  · intro i hi
    rw [cell_setRow_same _ _ _ _ _ _ _ hg]
    exact mark_cells i hi
  · intro i hi
    show World.frozen? (World.setRow _ _ _) _ = false
    simp only [World.frozen?]
    erw [hn]
    simp
  · exact below_setRow (below_alloc _ _) (Nat.le_refl _) _
end Su
end Go.Proofs.YtjopjffecnflkaaDoor
