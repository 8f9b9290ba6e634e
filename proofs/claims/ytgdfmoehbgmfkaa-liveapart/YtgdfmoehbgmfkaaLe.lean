/- The sort of rows by their parts, where there are few: the insertion sort. -/
import Derived.Test.YtgdfmoehbgmfkaaLd
namespace Go.Proofs.Ytgdfmoehbgmfkaa
open Go.RowKit
namespace Li
open Wi
open Go.Sort (flatK get_flatK size_flatK grow grow_grow alloc_eq_grow putRowK putRow putCells mapBlock onCells HoldsK SWO PermIn SortedIn heap_grow_old)
/-- A row that may be a victim. -/
def vicR (r : Ro) : Bool := mayRo r && decide (0 < r.2.1)
abbrev Vr := { r : Ro // vicR r = true }
instance : Inhabited Vr := ⟨⟨(1, (1, 0)), rfl⟩⟩
def vrc (x : Vr) : List Value := rc x.1
def cfV (x y : Vr) : Int := Lib.compareInt (x.1.2.2 * y.1.2.1) (y.1.2.2 * x.1.2.1)
theorem Vr.get (x : Vr) : 0 ≤ x.1.2.2 ∧ x.1.2.2 ≤ x.1.2.1 ∧ x.1.2.1 ≤ 65536 ∧ 0 < x.1.2.1 := by
  have h := x.2
  unfold vicR at h
  simp only [Bool.and_eq_true, decide_eq_true_eq] at h
  have := mayR_get h.1
  exact ⟨this.2.2.2.2.1, this.2.2.2.2.2, this.2.2.2.1, h.2⟩
theorem cmpLays47 (blk off size : Nat) (w : World) : CmpLays Try.prog 47 #[] vrc 3 cfV blk off size w := fun _ _ _ _ x y => by
  obtain ⟨a1, a2, a3, a4⟩ := x.get
  obtain ⟨b1, b2, b3, b4⟩ := y.get
  exact closure47 _ _ _ _ _ _ a1 a2 a3 a4 b1 b2 b3 b4 _
set_option maxHeartbeats 2000000 in
/-- slices.stableCmpFunc, where there are fewer than twenty. -/
theorem stable_few {w : World} {g cap : Nat} {d : Array Vr} (hH : HoldsK vrc 3 w g 0 d) (hblk : g < w.heap.size) (h20 : d.size < 20) :
    Calls Try.prog 60 #[.slice (some ⟨g, 0, none⟩) d.size cap, .int .i64 (d.size : Nat), .func (.func 47) #[] #[]] w fun e w' => e = .returned (.tuple #[]) ∧ ∃ n os, w' = sortWorldK vrc 3 w g 0 n (Sort.insertionSort (ltOf cfV) d 0 d.size) os := by
  have eg : ∀ args w, (callFunc 47 args).run Try.prog w = .ok (.enter 47 args) w := enters_of Try.func47 (by kernel_rfl) rfl
  have hcon := AnyQ.insertionSortCmpFunc (P := Try.prog) (ρ := Try.sortSp_ren) { Try.sortSp with } 3 Try.isAgg58 Try.sizeOf58 vrc (fun _ => rfl) (fun x v hv => by simp [vrc, rc] at hv; rcases hv with rfl | rfl | rfl <;> rfl) cfV 47 #[] g 0 cap 0 d.size d w eg (cmpLays47 g 0 _ w) hH hblk (Nat.zero_le _) (Nat.le_refl _) (by omega)
  change Calls Try.prog 69 _ _ _ at hcon
  generalize Sort.insertionSort (ltOf cfV) d 0 d.size = r at hcon ⊢
  generalize d.size = n at *
  clear hH
  go_enter Try.func60, Try.ntmps60
  go_wp2
  refine wp_loop_rounds 1 ?_
  rw [rounds_succ]
  go_wp2_with (go_at_call 69; refine hcon.mono ?_; rintro e w' ⟨rfl, hw⟩)
  refine wp_loop_rounds 1 ?_
  rw [rounds_succ]
  go_wp2
  go_end0
  exact ⟨rfl, hw⟩
set_option maxHeartbeats 2000000 in
theorem sortStable_few {w : World} {g cap : Nat} {d : Array Vr} (hH : HoldsK vrc 3 w g 0 d) (hblk : g < w.heap.size) (h20 : d.size < 20) :
    Calls Try.prog 46 #[.slice (some ⟨g, 0, none⟩) d.size cap, .func (.func 47) #[] #[]] w fun e w' => e = .returned (.tuple #[]) ∧ ∃ n os, w' = sortWorldK vrc 3 w g 0 n (Sort.insertionSort (ltOf cfV) d 0 d.size) os := by
  have hcon := stable_few (cap := cap) hH hblk h20
  generalize Sort.insertionSort (ltOf cfV) d 0 d.size = r at hcon ⊢
  generalize d.size = n at *
  clear hH
  go_enter Try.func46, Try.ntmps46
  go_wp2_with (go_at_call 60; refine hcon.mono ?_; rintro e w' ⟨rfl, hw⟩)
  go_end0
  exact ⟨rfl, hw⟩
end Li
end Go.Proofs.Ytgdfmoehbgmfkaa
