/- A part of the proofs about package super: what its functions answer, call by call. -/
import Derived.Test.YtjopjffecnflkaaDoorSe
namespace Go.Proofs.YtjopjffecnflkaaDoor
open Go.RowKit
namespace Su
open Cr
/-- The number at a place of a sector. -/
def nAt (s : ByteArray) (a k : Nat) : Nat := num ((bs (s.extract a 64)).take k)
/-- What the numbers of a sector tell. -/
def readS (s : ByteArray) : Sb := ⟨nAt s 4 8, nAt s 12 4, wrap64 (nAt s 20 8), nAt s 16 4, wrap64 (nAt s 28 8), wrap64 (nAt s 36 8)⟩
theorem get64_q (s : ByteArray) (h : 8 ≤ s.size) (hs : s.size ≤ 1000) (w : World) : Calls Tryd.prog 34 #[.string s] w fun e w' => e = .returned (.int .u64 (num ((bs s).take 8) : Nat)) ∧ Below w.heap.size w w' :=
  (get64_any s h hs w).mono fun _ _ ⟨a, b⟩ => ⟨a, b ▸ Below.refl _ _⟩
theorem get32_q (s : ByteArray) (h : 4 ≤ s.size) (hs : s.size ≤ 1000) (w : World) : Calls Tryd.prog 35 #[.string s] w fun e w' => e = .returned (.int .u32 (num ((bs s).take 4) : Nat)) ∧ Below w.heap.size w w' :=
  (get32_any s h hs w).mono fun _ _ ⟨a, b⟩ => ⟨a, b ▸ Below.refl _ _⟩
set_option maxHeartbeats 4000000 in
theorem read_any (s : ByteArray) (h : s.size = 64) (w : World) : Calls Tryd.prog 28 #[.string s] w fun e w' => e = .returned (readS s).val ∧ Below w.heap.size w w' := by
  have hk := get64_q (s.extract 4 64) (by simp; omega) (by simp; omega)
  have sk : (s.extract 4 64).size = 60 := by simp; omega
  have lk : num ((bs (s.extract 4 64)).take 8) < 18446744073709551616 := num_lt_of (fun b hb => bs_lt _ b hb) 8 8 (Nat.le_refl _)
  have he := get32_q (s.extract 12 64) (by simp; omega) (by simp; omega)
  have se : (s.extract 12 64).size = 52 := by simp; omega
  have le : num ((bs (s.extract 12 64)).take 4) < 4294967296 := num_lt_of (fun b hb => bs_lt _ b hb) 4 4 (Nat.le_refl _)
  have hr := get64_q (s.extract 20 64) (by simp; omega) (by simp; omega)
  have sr : (s.extract 20 64).size = 44 := by simp; omega
  have lr : num ((bs (s.extract 20 64)).take 8) < 18446744073709551616 := num_lt_of (fun b hb => bs_lt _ b hb) 8 8 (Nat.le_refl _)
  have hz := get32_q (s.extract 16 64) (by simp; omega) (by simp; omega)
  have sz : (s.extract 16 64).size = 48 := by simp; omega
  have lz : num ((bs (s.extract 16 64)).take 4) < 4294967296 := num_lt_of (fun b hb => bs_lt _ b hb) 4 4 (Nat.le_refl _)
  have ht := get64_q (s.extract 28 64) (by simp; omega) (by simp; omega)
  have st : (s.extract 28 64).size = 36 := by simp; omega
  have lt : num ((bs (s.extract 28 64)).take 8) < 18446744073709551616 := num_lt_of (fun b hb => bs_lt _ b hb) 8 8 (Nat.le_refl _)
  have hn := get64_q (s.extract 36 64) (by simp; omega) (by simp; omega)
  have sn : (s.extract 36 64).size = 28 := by simp; omega
  have ln : num ((bs (s.extract 36 64)).take 8) < 18446744073709551616 := num_lt_of (fun b hb => bs_lt _ b hb) 8 8 (Nat.le_refl _)
  unfold readS nAt Sb.val
  simp only
  generalize num ((bs (s.extract 4 64)).take 8) = xk at *
  generalize num ((bs (s.extract 12 64)).take 4) = xe at *
  generalize num ((bs (s.extract 20 64)).take 8) = xr at *
  generalize num ((bs (s.extract 16 64)).take 4) = xz at *
  generalize num ((bs (s.extract 28 64)).take 8) = xt at *
  generalize num ((bs (s.extract 36 64)).take 8) = xn at *
  have hne := later_ne (w.alloc (.cells #[.int .u64 0, .int .i64 0, .int .i64 0, .int .i64 0, .int .i64 0, .int .i64 0] 24))
  go_enter Tryd.func28, Tryd.ntmps28
  go_wp2
  refine wp_region_later_tail 24 (by kernel_rfl) (by kernel_rfl) ?_
  simp only [List.take, List.drop]
  (repeat (first | go_big_quiet_skip | (go_big_quiet_want; go_big_quiet_op; go_big_quiet_on)))
  (go_big_quiet_want; go_big_quiet_op; apply Exists.intro; refine ⟨fun p => ?_, ?_⟩; (· exact later_of (hk _)); go_big_quiet_on)
  (repeat (first | go_big_quiet_skip | (go_big_quiet_want; go_big_quiet_op; go_big_quiet_on)))
  (go_big_quiet_want; go_big_quiet_op; apply Exists.intro; refine ⟨fun p => ?_, ?_⟩; (· exact later_of (he _)); go_big_quiet_on)
  (repeat (first | go_big_quiet_skip | (go_big_quiet_want; go_big_quiet_op; go_big_quiet_on)))
  (go_big_quiet_want; go_big_quiet_op; apply Exists.intro; refine ⟨fun p => ?_, ?_⟩; (· exact later_of (hr _)); go_big_quiet_on)
  (repeat (first | go_big_quiet_skip | (go_big_quiet_want; go_big_quiet_op; go_big_quiet_on)))
  (go_big_quiet_want; go_big_quiet_op; apply Exists.intro; refine ⟨fun p => ?_, ?_⟩; (· exact later_of (hz _)); go_big_quiet_on)
  (repeat (first | go_big_quiet_skip | (go_big_quiet_want; go_big_quiet_op; go_big_quiet_on)))
  (go_big_quiet_want; go_big_quiet_op; apply Exists.intro; refine ⟨fun p => ?_, ?_⟩; (· exact later_of (ht _)); go_big_quiet_on)
  (repeat (first | go_big_quiet_skip | (go_big_quiet_want; go_big_quiet_op; go_big_quiet_on)))
  (go_big_quiet_want; go_big_quiet_op; apply Exists.intro; refine ⟨fun p => ?_, ?_⟩; (· exact later_of (hn _)); go_big_quiet_on)
  (repeat (first | go_big_quiet_skip | (go_big_quiet_want; go_big_quiet_op; go_big_quiet_on)))
  refine wpQuiet_nil ?_
  rintro _ ⟨p, rfl⟩
  have X := (boxC w 0 0 0 0 0 0 24).later (p.below.mono (by simp))
  have BB := (below_alloc w (.cells #[.int .u64 0, .int .i64 0, .int .i64 0, .int .i64 0, .int .i64 0, .int .i64 0] 24)).trans (p.below.mono (by simp))
  have c0 := X.c0
  have c1 := X.c1
  have c2 := X.c2
  have c3 := X.c3
  have c4 := X.c4
  have c5 := X.c5
  have f0 := X.fr 0 (by omega)
  have f1 := X.fr 1 (by omega)
  have f2 := X.fr 2 (by omega)
  have f3 := X.fr 3 (by omega)
  have f4 := X.fr 4 (by omega)
  have f5 := X.fr 5 (by omega)
  have Y := hide (X.put xk xe (wrap64 xr) xz (wrap64 xt) (wrap64 xn))
  have YB := hide (BoxC.below X BB (Nat.le_refl _) xk xe (wrap64 xr) xz (wrap64 xt) (wrap64 xn))
  go_wp2
  have Y' := Y.out
  have c0' := Y'.c0
  have c1' := Y'.c1
  have c2' := Y'.c2
  have c3' := Y'.c3
  have c4' := Y'.c4
  have c5' := Y'.c5
  clear Y Y' c0 c1 c2 c3 c4 c5 f0 f1 f2 f3 f4 f5 X
  have YB' := YB.out
  clear YB
  generalize World.setCell _ _ _ = wz at *
  refine bodyPost_ret (v := .agg #[.int .u64 (xk : Nat), .int .i64 (xe : Nat), .int .i64 (wrap64 xr), .int .i64 (xz : Nat), .int .i64 (wrap64 xt), .int .i64 (wrap64 xn)]) (by simp [results, Tryd.results28, go_sem, c0', c1', c2', c3', c4', c5']) rfl ⟨rfl, YB'⟩
end Su
end Go.Proofs.YtjopjffecnflkaaDoor
