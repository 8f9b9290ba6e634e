/- A part of the proofs about package crc: what its functions answer, call by call. -/
import Derived.Test.YtbjhajomeegobaaDoorWg
namespace Go.Proofs.YtbjhajomeegobaaDoor
open Go.RowKit
namespace Cr

/-- A matrix as the program's array has it. -/
def mt (m : Nat → Nat) : Array Value := ((List.range 32).map fun i => Value.int .u32 (m i : Nat)).toArray
theorem mt_size (m : Nat → Nat) : (mt m).size = 32 := by simp [mt]
theorem mt_get (m : Nat → Nat) {i : Nat} (h : i < 32) : (mt m)[i]? = some (.int .u32 (m i : Nat)) := by simp [mt, h]
theorem mt_oneCell (m : Nat → Nat) : (mt m).all (·.oneCell') = true := by
  rw [Array.all_eq_true_iff_forall_mem]
  intro v hv
  simp only [mt, List.mem_toArray, List.mem_map] at hv
  obtain ⟨i, _, rfl⟩ := hv
  rfl
theorem mt_ext {m m' : Nat → Nat} (h : ∀ i, i < 32 → m i = m' i) : mt m = mt m' := by
  unfold mt
  congr 1
  apply List.map_congr_left
  intro i hi
  rw [h i (List.mem_range.1 hi)]
theorem size23 : (Tryd.prog.info? 23).map (·.size) = some 1 := by kernel_rfl
theorem size54 : (Tryd.prog.info? 54).map (·.size) = some 32 := by kernel_rfl
theorem index_mt (m : Nat → Nat) {k : Nat} (hk : k < 32) (w : World) : (Instr.index 54 (.agg (mt m)) (.int .i64 (k : Nat))).run Tryd.prog w = .ok (.int .u32 (m k : Nat)) w := by
  have hu := run_underlying Tryd.underlying54 w
  obtain ⟨i, hi⟩ : ∃ i, Tryd.prog.info? 23 = some i := by
    have := size23
    cases h : Tryd.prog.info? 23 with
    | none => simp [h] at this
    | some i => exact ⟨i, rfl⟩
  have hs : i.size = 1 := by have := size23; simpa [hi] using this
  have hr : 0 ≤ (k : Int) ∧ (k : Int) < 32 := by omega
  simp [Instr.index, asIntOf, hu, hr, sizeOf, typeInfo, hi, hs, part, isAgg, mt_get m hk]
  omega
theorem and1 {x : Nat} (hx : x < 4294967296) : bits .and .u32 (x : Int) 1 = ((x % 2 : Nat) : Int) := by
  rw [show (1 : Int) = ((1 : Nat) : Int) from rfl, u32_and_nat _ _ hx (by omega), Nat.and_one_is_mod]
theorem bit_k {x : Nat} (hx : x < 4294967296) (k : Nat) : bits .and .u32 ((x : Int) / 2 ^ k) 1 = ((x / 2 ^ k % 2 : Nat) : Int) := by
  have e : (x : Int) / 2 ^ k = ((x / 2 ^ k : Nat) : Int) := by rw [Int.natCast_ediv, Int.natCast_pow]; rfl
  rw [e, and1 (Nat.lt_of_le_of_lt (Nat.div_le_self _ _) hx)]
theorem eq_one {b : Nat} (h : ((b : Int) == 1) = true) : b = 1 := by rw [beq_iff_eq] at h; omega
theorem ne_one {b : Nat} (h : ((b : Int) == 1) = false) : ¬ b = 1 := by rw [beq_eq_false_iff_ne] at h; omega
set_option maxHeartbeats 1000000 in
theorem times_any (m : Nat → Nat) (hm : ∀ i, m i < 4294967296) (x : Nat) (hx : x < 4294967296) (w : World) :
    Calls Tryd.prog 26 #[.agg (mt m), .int .u32 (x : Nat)] w fun e w' => e = .returned (.int .u32 (app m x 32 : Nat)) ∧ Below w.heap.size w w' := by
  have hg := heap_alloc_new w (.cells (mt m) 54)
  have hs54 : (Tryd.prog.info? 54).map (·.size) = some (mt m).size := by rw [mt_size]; exact size54
  go_enter Tryd.func26, Tryd.ntmps26
  go_wp2_with (refine wpList_load_row rfl 54 (.tmp 2) rfl w.heap.size rfl 54 (mt m) (0, 0) _ hg Tryd.underlying54 rfl hs54 ?_)
  clear hg hs54
  go_loop [5, 9] (fun r i => ∃ k : Nat, k ≤ 32 ∧ i = .int .i64 k ∧ r = .int .u32 (app m x k : Nat)) (fun _ i => 32 - (intOf i).toNat)
  case atStart => exact ⟨0, Nat.zero_le _, rfl, rfl⟩
  case round =>
    obtain ⟨k, hk, rfl, rfl⟩ := hrel
    by_cases hlt : k < 32
    · have hix := index_mt m hlt
      have hb := bit_k hx k
      have hal := app_lt hm x k
      have hxr := xor_u32 hal (hm k)
      have HS : Hid (app m x (k + 1) = if x / 2 ^ k % 2 = 1 then app m x k ^^^ m k else app m x k) := rfl
      have hb2 : x / 2 ^ k % 2 < 2 := Nat.mod_lt _ (by omega)
      generalize x / 2 ^ k % 2 = b at *
      generalize app m x k = R at *
      generalize hV : R ^^^ m k = V at hxr HS
      clear hV
      generalize mt m = A at *
      generalize m k = r at *
      go_wp2
      · go_round
        case rel => exact ⟨k + 1, by omega, by go_num, by rw [HS.out, if_pos (eq_one (by assumption))]⟩
        case measure => simp [intOf]; omega
      · go_round
        case rel => exact ⟨k + 1, by omega, by go_num, by rw [HS.out, if_neg (ne_one (by assumption))]⟩
        case measure => simp [intOf]; omega
    · have HE : Hid (app m x k = app m x 32) := by show _ = _; rw [show k = 32 by omega]
      generalize app m x k = R at *
      go_wp2
      go_ret
      exact ⟨ret_int (by rw [HE.out]), below_alloc _ _⟩
theorem mt_set (f : Nat → Nat) {k v : Nat} : (mt f).setIfInBounds k (.int .u32 (v : Nat)) = mt (fun i => if i = k then v else f i) := by
  apply Array.ext
  · simp [mt]
  · intro i h1 h2
    have hi : i < 32 := by simpa [mt] using h2
    rw [Array.getElem_setIfInBounds]
    by_cases e : k = i
    · subst e
      simp [mt]
    · simp [mt, e, show ¬ i = k by omega]
    · rw [mt_size]; exact hi
/-- The first k rows of a matrix, the rest 0. -/
def upto (f : Nat → Nat) (k : Nat) : Nat → Nat := fun i => if i < k then f i else 0
theorem mt_upto (f : Nat → Nat) {k : Nat} : (mt (upto f k)).setIfInBounds k (.int .u32 (f k : Nat)) = mt (upto f (k + 1)) := by
  rw [mt_set]
  apply mt_ext
  intro i _
  unfold upto
  by_cases e : i = k
  · subst e; simp
  · by_cases h : i < k
    · simp [e, h, show i < k + 1 by omega]
    · simp [e, h, show ¬ i < k + 1 by omega]
theorem mt_full (f : Nat → Nat) : mt (upto f 32) = mt f := mt_ext fun i hi => by simp [upto, hi]
def zeros32 : Array Value := mt (fun _ => 0)

end Cr
end Go.Proofs.YtbjhajomeegobaaDoor
