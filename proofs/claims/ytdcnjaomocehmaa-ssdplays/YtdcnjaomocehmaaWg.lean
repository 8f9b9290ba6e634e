/- A part of the proofs about package ssd: what its functions answer, call by call. -/
import Derived.Test.YtdcnjaomocehmaaWe
import Derived.Great.FillDense
import Derived.Laws.Tables
namespace Go.Proofs.Ytdcnjaomocehmaa
open Go.RowKit
namespace Wi

theorem info69 : (Try.prog.info? 69).map (fun i => (i.zero.map (·.cells.size), i.size, i.bytes)) = some (some 65, 65, 72) := by kernel_rfl
theorem info66 : (Try.prog.info? 66).map (fun i => (i.zero.map (·.cells.size), i.size, i.bytes)) = some (some 64, 64, 64) := by kernel_rfl
theorem size66 : (Try.prog.info? 66).map (·.size) = some 64 := by kernel_rfl
theorem size69 : (Try.prog.info? 69).map (·.size) = some 65 := by kernel_rfl
theorem info_big {t : TypeId} {c s b : Nat} (h : (Try.prog.info? t).map (fun i => (i.zero.map (·.cells.size), i.size, i.bytes)) = some (some c, s, b)) : ∃ i z, Try.prog.info? t = some i ∧ i.zero = some z ∧ z.cells.size = c ∧ i.size = s ∧ i.bytes = b := by
  cases hi : Try.prog.info? t with
  | none => simp [hi] at h
  | some i =>
    cases hz : i.zero with
    | none => simp [hi, hz] at h
    | some z => simp [hi, hz] at h; exact ⟨i, z, rfl, hz, h.1, h.2.1, h.2.2⟩
theorem built69 : ∃ z : Array Value, z.size = 65 ∧ ∀ parts : List (Nat × Value), Try.prog.built 69 parts = Instr.fill (fun i => (#[(0, 1), (1, 64)] : Array (Nat × Nat))[i]?) z parts :=
  ⟨(((Try.prog.info? 69).bind (·.zero)).getD undef).cells, by kernel_rfl, fun _ => by kernel_rfl⟩
theorem fill_change (x : Nat) (s : List Nat) (hs : s.length = 64) (z : Array Value) (hz : z.size = 65) :
    Instr.fill (fun i => (#[(0, 1), (1, 64)] : Array (Nat × Nat))[i]?) z [(0, .int .i64 (x : Nat)), (1, .agg (encB s).toArray)] = some (encC (x, s)).toArray := by
  obtain ⟨g1, g2⟩ := Go.Great.foldl_set 1 (encB s) 0 (z.setIfInBounds 0 (.int .i64 (x : Nat)))
  have hl : (encB s).length = 64 := by rw [encB_length, hs]
  unfold Instr.fill
  simp only [List.getElem?_toArray, List.getElem?_cons_zero, Value.cells, List.size_toArray, List.length_cons, List.length_nil]
  rw [if_neg (by simp [hz])]
  unfold Instr.fill
  simp only [List.getElem?_cons_succ, List.getElem?_cons_zero, Value.cells, List.size_toArray, hl]
  have e0 : (#[Value.int .i64 (x : Nat)].zipIdx.foldl (fun cs (c, j) => cs.setIfInBounds (0 + j) c) z) = z.setIfInBounds 0 (.int .i64 (x : Nat)) := rfl
  rw [e0, if_neg (by simp [hz])]
  unfold Instr.fill
  congr 1
  rw [← Array.foldl_toList, Array.toList_zipIdx]
  apply Array.ext_getElem?
  intro k
  have g := g2 k
  simp only [Nat.add_zero] at g
  rw [g, hl]
  have hsz : (z.setIfInBounds 0 (.int .i64 (x : Nat))).size = 65 := by simp [hz]
  have e : (encC (x, s)).toArray[k]? = (encC (x, s))[k]? := by simp
  rw [hsz, e, encC]
  cases k with
  | zero => rw [if_neg (by omega)]; simp [hz]
  | succ k =>
    rw [List.getElem?_cons_succ]
    by_cases hk : k < 64
    · rw [if_pos (by omega), show k + 1 - 1 = k by omega]
    · rw [if_neg (by omega), List.getElem?_eq_none (l := encB s) (by omega), Array.getElem?_eq_none (by simp [hz]; omega)]
theorem build_change (x : Nat) (s : List Nat) (hs : s.length = 64) (w : World) : (Instr.build 69 #[(0, .int .i64 (x : Nat)), (1, .agg (encB s).toArray)]).run Try.prog w = .ok (.agg (encC (x, s)).toArray) w :=
  let ⟨z, hz, hb⟩ := built69
  run_build w 69 _ _ (by rw [hb]; exact fill_change x s hs z hz)
theorem slice_change (x : Nat) (s : List Nat) (hs : s.length = 64) (w : World) : (Instr.buildSlice 56 1 #[(0, .agg (encC (x, s)).toArray)]).run Try.prog w = .ok (.slice (some ⟨w.heap.size, 0, none⟩) 1 1) (w.alloc (.cells (encC (x, s)).toArray 69)) := by
  obtain ⟨i, z, hi, hz, hc, h1, h2⟩ := info_big info69
  have hl : (encC (x, s)).length = 65 := encC_length hs
  have hf := Go.Great.fill_whole (s := 65) (by omega) [.agg (encC (x, s)).toArray] ((Array.range (1 * 65)).map (z.cells[· % z.cells.size]!)) (by simp [Value.cells, hl]) (by simp)
  have hf' : Instr.fill (fun i => some (i * 65, 65)) ((Array.range (1 * 65)).map (z.cells[· % z.cells.size]!)) [(0, .agg (encC (x, s)).toArray)] = some (encC (x, s)).toArray := by
    simpa [Value.cells] using hf
  simp only [Nat.one_mul] at hf'
  simp [Instr.buildSlice, run_underlying Try.underlying56, sizeOf, typeInfo, zeroValue, hi, hz, h1, hf', newRow]

end Wi
end Go.Proofs.Ytdcnjaomocehmaa
