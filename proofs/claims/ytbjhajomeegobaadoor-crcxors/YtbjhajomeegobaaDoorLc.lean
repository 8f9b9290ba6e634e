/- A part of the proofs about package crc: what its functions answer, call by call. -/
import Derived.Test.YtbjhajomeegobaaDoorLb
namespace Go.Proofs.YtbjhajomeegobaaDoor
open Go.RowKit
namespace Cr

/-- So many bytes 0. -/
def zs (n : Nat) : Array Value := madeCells (Value.int .u8 0).cells n
theorem zs_size (n : Nat) : (zs n).size = n := size_madeCells _ _
theorem zs_get {n i : Nat} (h : i < n) : (zs n)[i]? = some (.int .u8 0) := by
  simp only [zs, madeCells, Value.cells]
  rw [Array.getElem?_map, Array.getElem?_range, if_pos h]
  show some ((#[Value.int .u8 0] : Array Value)[i % 1]!) = _
  rw [Nat.mod_one]
  rfl
theorem make_bytes {N : Nat} (h : N ≤ 1000000) (w : World) : (Instr.makeSlice 34 (.int .i64 (N : Int)) (.int .i64 (N : Int))).run Tryd.prog w = .ok (.slice (some ⟨w.heap.size, 0, none⟩) N N) (w.alloc (.cells (zs N) 5)) := by
  obtain ⟨i0, hi, hz0, hz1, hz2⟩ := info_parts info5
  have hr := run_make (P := Tryd.prog) w 34 5 i0 (.int .u8 0) Tryd.underlying34 hi hz0 .i64 .i64 (N : Int) (N : Int) (by omega) (by omega) (by rw [hz2]; omega) (by omega)
  rw [hz1] at hr
  simpa [zs] using hr
theorem conv_zeros {N : Nat} (w : World) : (convert 34 9 (.slice (some ⟨w.heap.size, 0, none⟩) N N)).run Tryd.prog (w.alloc (.cells (zs N) 5)) = .ok (.string (str (List.replicate N 0))) (w.alloc (.cells (zs N) 5)) :=
  conv_bytes _ _ 0 N N (List.replicate N 0) (by simp) fun i x hx => by
    have hi : i < N := by simpa using (List.getElem?_eq_some_iff.1 hx).1
    simp [hi] at hx
    subst hx
    simp [zs_get hi]
set_option maxHeartbeats 1000000 in
theorem crcZeros_walk (c : Nat) (n : Int) (W : World) (T : Tab W) (hc : c < 4294967296) (hn : -9223372036854775808 ≤ n ∧ n ≤ 9223372036854775807) :
    Calls Tryd.prog 4 #[.int .u32 (c : Nat), .int .i64 n] W fun e w' => e = .returned (.bool true) ∧ Below W.heap.size W w' := by
  by_cases h1 : 2000 < n
  · go_enter Tryd.func4, Tryd.ntmps4
    go_wp2_with fail
    refine (awake_any _ T).mono ?_
    rintro e wv1 ⟨rfl, hv1⟩
    replace T := T.later hv1
    have BB := hv1
    clear hv1
    go_wp2
    go_ret
    exact ⟨rfl, BB⟩
  · by_cases h2 : 0 < n
    · obtain ⟨N, rfl⟩ := Int.eq_ofNat_of_zero_le (show 0 ≤ n by omega)
      have hmk := make_bytes (N := N) (by omega)
      have hcv := conv_zeros (N := N) W
      have hb : bs (str (List.replicate N 0)) = List.replicate N 0 := bs_str (by intro b hb; rw [List.eq_of_mem_replicate hb]; omega)
      have hl : (str (List.replicate N 0)).size ≤ 9223372036854775807 := by rw [str_size, List.length_replicate]; omega
      have c1 : ∀ w, _ := fun w => same_b (rmore_any c hc (str (List.replicate N 0)) hl w)
      have c2 : ∀ w, _ := fun w => zeros_any c hc (N : Int) hn w
      rw [hb, ← zer_more] at c1
      simp only [Int.toNat_natCast] at c2
      clear hb hl
      generalize str (List.replicate N 0) = S at *
      generalize zer c N = Z at *
      generalize zs N = ZZ at *
      go_enter Tryd.func4, Tryd.ntmps4
      go_wp2_with fail
      refine (c1 _).mono ?_
      rintro e wv1 ⟨rfl, hv1⟩
      replace hv1 := below_new1 hv1
      replace T := T.later hv1
      have BB := hv1
      clear hv1
      go_wp2_with fail
      refine (c2 _).mono ?_
      rintro e wv2 ⟨rfl, hv2⟩
      replace T := T.later hv2
      replace BB := BB.trans (hv2.mono BB.size)
      clear hv2
      go_wp2_with fail
      refine (awake_any _ T).mono ?_
      rintro e wv3 ⟨rfl, hv3⟩
      replace T := T.later hv3
      replace BB := BB.trans (hv3.mono BB.size)
      clear hv3
      go_wp2
      go_ret
      exact ⟨rfl, BB⟩
    · have c2 : ∀ w, _ := fun w => zeros_any c hc n hn w
      rw [show n.toNat = 0 by omega, zer_zero hc] at c2
      go_enter Tryd.func4, Tryd.ntmps4
      go_wp2_with fail
      refine (c2 _).mono ?_
      rintro e wv1 ⟨rfl, hv1⟩
      replace T := T.later hv1
      have BB := hv1
      clear hv1
      go_wp2_with fail
      refine (awake_any _ T).mono ?_
      rintro e wv2 ⟨rfl, hv2⟩
      replace T := T.later hv2
      replace BB := BB.trans (hv2.mono BB.size)
      clear hv2
      go_wp2
      go_ret
      exact ⟨rfl, BB⟩

end Cr
end Go.Proofs.YtbjhajomeegobaaDoor
