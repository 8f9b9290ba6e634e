/- A part of the proofs about package crc: what its functions answer, call by call. -/
import Derived.Test.YtbjhajomeegobaaDoorWm
namespace Go.Proofs.YtbjhajomeegobaaDoor
open Go.RowKit
namespace Cr

/-- The block g holds a matrix. -/
def RowAt (w : World) (g : Nat) (f : Nat → Nat) : Prop := w.heap[g]? = some (.cells (mt f) 54 (0, 0))
theorem RowAt.lt {w : World} {g : Nat} {f : Nat → Nat} (h : RowAt w g f) : g < w.heap.size := (Array.getElem?_eq_some_iff.1 h).1
theorem RowAt.later {w w' : World} {g : Nat} {f : Nat → Nat} (h : RowAt w g f) (hb : Below w.heap.size w w') : RowAt w' g f := (hb.block g h.lt).trans h
theorem RowAt.cell {w : World} {g : Nat} {f : Nat → Nat} (h : RowAt w g f) {i : Nat} (hi : i < 32) : w.cell? ⟨g, i, none⟩ = some (.int .u32 (f i : Nat)) := by rw [cell_of_row w g i _ _ _ h, mt_get f hi]
theorem RowAt.frozen {w : World} {g : Nat} {f : Nat → Nat} (h : RowAt w g f) (i : Nat) : w.frozen? ⟨g, i, none⟩ = false := frozen_of_row w g i _ _ h
theorem RowAt.other {w : World} {g g' : Nat} {f : Nat → Nat} (h : RowAt w g f) (hne : g ≠ g') (i : Nat) (v : Value) : RowAt (w.setCell ⟨g', i, none⟩ v) g f := (heap_setCell_other w ⟨g', i, none⟩ g v hne).trans h
theorem RowAt.set {w : World} {g : Nat} {f : Nat → Nat} {k : Nat} (h : RowAt w g (upto f k)) : RowAt (w.setCell ⟨g, k, none⟩ (.int .u32 (f k : Nat))) g (upto f (k + 1)) := by
  unfold RowAt
  rw [heap_setCell_same w g k _ _ _ h, mt_upto f]
theorem RowAt.new (w : World) (f : Nat → Nat) : RowAt (w.alloc (.cells (mt f) 54)) w.heap.size f := heap_alloc_new w _
theorem RowAt.zero (f : Nat → Nat) : mt (upto f 0) = mt (fun _ => 0) := mt_ext fun i _ => by simp [upto]
theorem mt_zero : mt (fun _ => 0) = #[.int .u32 0, .int .u32 0, .int .u32 0, .int .u32 0, .int .u32 0, .int .u32 0, .int .u32 0, .int .u32 0, .int .u32 0, .int .u32 0, .int .u32 0, .int .u32 0, .int .u32 0, .int .u32 0, .int .u32 0, .int .u32 0,
    .int .u32 0, .int .u32 0, .int .u32 0, .int .u32 0, .int .u32 0, .int .u32 0, .int .u32 0, .int .u32 0, .int .u32 0, .int .u32 0, .int .u32 0, .int .u32 0, .int .u32 0, .int .u32 0, .int .u32 0, .int .u32 0] := rfl
theorem RowAt.setRow {w : World} {g : Nat} {f : Nat → Nat} (h : RowAt w g f) (f' : Nat → Nat) : RowAt (w.setRow g (mt f')) g f' := setRow_heap w g _ _ _ _ h
theorem RowAt.setRowOther {w : World} {g g' : Nat} {f : Nat → Nat} (h : RowAt w g f) (hne : g ≠ g') (c : Array Value) : RowAt (w.setRow g' c) g f := (setRow_other w g' g c hne).trans h
theorem below_setRow {B : Nat} {a w : World} (h : Below B a w) {g : Nat} (hg : B ≤ g) (c : Array Value) : Below B a (w.setRow g c) :=
  h.trans ⟨rfl, rfl, rfl, by simp, fun k hk => setRow_other w g k c (by omega)⟩
theorem below_set {B : Nat} {a w : World} (h : Below B a w) {g : Nat} (hg : B ≤ g) (i : Nat) (u : Value) : Below B a (w.setCell ⟨g, i, none⟩ u) := h.setCell hg u
theorem mt_info (m : Nat → Nat) : (Tryd.prog.info? 54).map (·.size) = some (mt m).size := by rw [mt_size]; exact size54
set_option maxHeartbeats 1000000 in
theorem square_any (m : Nat → Nat) (hm : ∀ i, m i < 4294967296) (w : World) :
    Calls Tryd.prog 27 #[.agg (mt m)] w fun e w' => e = .returned (.agg (mt (fun i => app m (m i) 32))) ∧ Below w.heap.size w w' := by
  have hs54 := mt_info m
  have A0 : ∀ c d, RowAt (((w.alloc (.cells (mt m) 54)).alloc c).alloc d) w.heap.size m := fun c d => ((RowAt.new w m).later (below_alloc _ _)).later (below_alloc _ _)
  have A1 : ∀ d, RowAt (((w.alloc (.cells (mt m) 54)).alloc (.cells (mt (fun _ => 0)) 54)).alloc d) (w.heap.size + 1) (fun _ => 0) := fun d => by
    have := RowAt.new (w.alloc (.cells (mt m) 54)) (fun _ => 0)
    rw [World.size_alloc] at this
    exact this.later (below_alloc _ _)
  have A2 : ∀ c, RowAt (((w.alloc (.cells (mt m) 54)).alloc c).alloc (.cells (mt (fun _ => 0)) 54)) (w.heap.size + 1 + 1) (upto (fun i => app m (m i) 32) 0) := fun c => by
    have := RowAt.new ((w.alloc (.cells (mt m) 54)).alloc c) (fun _ => 0)
    rw [World.size_alloc, World.size_alloc] at this
    unfold RowAt at *
    rwa [RowAt.zero]
  have AB : ∀ b c d, Below w.heap.size w (((w.alloc b).alloc c).alloc d) := fun b c d => ((below_alloc _ _).trans ((below_alloc _ _).mono (by simp))).trans ((below_alloc _ _).mono (by simp; omega))
  rw [mt_zero] at A1 A2
  go_enter Tryd.func27, Tryd.ntmps27
  go_wp2_with (refine wpList_load_row rfl 54 (.tmp 1) rfl w.heap.size rfl 54 (mt m) (0, 0) _ (A0 _ _) Tryd.underlying54 rfl hs54 ?_)
  go_loopw [7] (fun i wr => ∃ k : Nat, k ≤ 32 ∧ i = .int .i64 k ∧ RowAt wr w.heap.size m ∧ RowAt wr (w.heap.size + 1) (fun _ => 0) ∧ RowAt wr (w.heap.size + 1 + 1) (upto (fun i => app m (m i) 32) k) ∧ Below w.heap.size w wr) (fun i _ => 32 - (intOf i).toNat)
  case atStart => exact ⟨0, Nat.zero_le _, rfl, A0 _ _, A1 _, A2 _, AB _ _ _⟩
  case round =>
    clear A0 A1 A2 AB
    obtain ⟨k, hk, rfl, r0, r1, r2, hbr⟩ := hrel
    by_cases hlt : k < 32
    · have hix := index_mt m hlt
      go_wp2_with (refine wpList_load_row rfl 54 (.tmp 1) rfl w.heap.size rfl 54 (mt m) (0, 0) _ r0 Tryd.underlying54 rfl hs54 ?_)
      refine (times_any m hm (m k) (hm k) _).mono ?_
      rintro e w1 ⟨rfl, hb1⟩
      have r0' := hide (((r0.later hb1).other (by omega) k (.int .u32 (app m (m k) 32 : Nat)) : RowAt (w1.setCell ⟨w.heap.size + 1 + 1, k, none⟩ _) _ _))
      have r1' := hide (((r1.later hb1).other (by omega) k (.int .u32 (app m (m k) 32 : Nat)) : RowAt (w1.setCell ⟨w.heap.size + 1 + 1, k, none⟩ _) _ _))
      have r2' := hide ((r2.later hb1).set)
      have c0 := (r2.later hb1).cell hlt
      have f0 := (r2.later hb1).frozen k
      have hbn := hide (below_set (g := w.heap.size + 1 + 1) (hbr.trans (hb1.mono hbr.size)) (by omega) k (.int .u32 (app m (m k) 32 : Nat)))
      clear r0 r1 r2 hb1 hbr hix
      generalize upto (fun i => app m (m i) 32) k k = old at *
      go_wp2
      go_roundw
      case rel => exact ⟨k + 1, by omega, by go_num, r0'.out, r1'.out, r2'.out, hbn.out⟩
      case measure => simp [intOf]; omega
    · have e32 : k = 32 := by omega
      subst e32
      have hv : RowAt wr (w.heap.size + 1 + 1) (fun i => app m (m i) 32) := by unfold RowAt at *; rwa [mt_full] at r2
      have hsf := mt_info (fun i => app m (m i) 32)
      have R1 := hide (r1.setRow (fun i => app m (m i) 32))
      have RB := hide (below_setRow hbr (Nat.le_succ w.heap.size) (mt (fun i => app m (m i) 32)))
      clear r0 r2 hbr hlt
      go_wp2_with (first | (refine wpList_load_row rfl 54 (.tmp 3) rfl (w.heap.size + 1 + 1) rfl 54 _ (0, 0) _ hv Tryd.underlying54 rfl hsf ?_) | (refine wpList_store_row rfl 54 (.tmp 2) (.tmp 17) rfl (w.heap.size + 1) _ rfl rfl 54 _ r1 hsf (by rw [mt_size, mt_size]) (mt_oneCell _) ?_))
      refine bodyPost_ret (v := .agg (mt fun i => app m (m i) 32)) (results_cell_row (p := 2) (ty := 54) rfl _ _ (w.heap.size + 1) 54 _ (0, 0) _ rfl R1.out Tryd.underlying54 rfl hsf) rfl ⟨rfl, RB.out⟩
/-- The matrix of k steps. -/
def Mk (k : Nat) : Nat → Nat := fun i => stN k (2 ^ i % 4294967296)
theorem Mk_lt (k i : Nat) : Mk k i < 4294967296 := stN_lt k (Nat.mod_lt _ (by omega))
theorem Mk_at {k i : Nat} (h : i < 32) : Mk k i = stN k (2 ^ i) := by
  unfold Mk
  rw [Nat.mod_eq_of_lt]
  exact Nat.pow_lt_pow_right (a := 2) (by omega) h
theorem app_Mk {k x : Nat} (hx : x < 4294967296) : app (Mk k) x 32 = stN k x := by
  rw [app_congr x 32 (m' := fun i => stN k (2 ^ i)) fun i hi => Mk_at hi]
  exact app_all hx
theorem square_Mk (k : Nat) (w : World) : Calls Tryd.prog 27 #[.agg (mt (Mk k))] w fun e w' => e = .returned (.agg (mt (Mk (k + k)))) ∧ Below w.heap.size w w' :=
  (square_any (Mk k) (Mk_lt k) w).mono fun e w' ⟨he, hb⟩ => ⟨by
    rw [he, mt_ext (m' := Mk (k + k))]
    intro i hi
    rw [app_Mk (Mk_lt k i), Mk_at hi, Mk_at hi, stN_add], hb⟩
theorem times_Mk (k x : Nat) (hx : x < 4294967296) (w : World) : Calls Tryd.prog 26 #[.agg (mt (Mk k)), .int .u32 (x : Nat)] w fun e w' => e = .returned (.int .u32 (stN k x : Nat)) ∧ Below w.heap.size w w' :=
  (times_any (Mk k) (Mk_lt k) x hx w).mono fun e w' ⟨he, hb⟩ => ⟨by rw [he, app_Mk hx], hb⟩

end Cr
end Go.Proofs.YtbjhajomeegobaaDoor
