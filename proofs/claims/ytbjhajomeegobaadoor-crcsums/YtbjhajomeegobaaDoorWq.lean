/- A part of the proofs about package crc: what its functions answer, call by call. -/
import Derived.Test.YtbjhajomeegobaaDoorWp
namespace Go.Proofs.YtbjhajomeegobaaDoor
open Go.RowKit
namespace Cr

theorem open_abc : opened ⟨#[97, 98, 99]⟩ = (ByteArray.empty, 10) := opened_short (by decide)
theorem sum_ex : more 0 (jn [⟨#[49, 50, 51, 52]⟩, ⟨#[53, 54, 55, 56, 57]⟩]) = 3808858755 := by decide +kernel
theorem zer_ex : zer 0 32 = 2324772522 := by decide +kernel
theorem zeros_ex (w : World) : Calls Tryd.prog 19 #[.int .u32 0, .int .i64 32] w fun e w' => e = .returned (.int .u32 2324772522) ∧ Below w.heap.size w w' := by
  have h := zeros_any 0 (by omega) 32 (by omega) w
  rw [show (32 : Int).toNat = 32 from rfl, zer_ex] at h
  exact h
theorem sum_exs (w : World) (T : Tab w) : Calls Tryd.prog 14 #[.slice (some ⟨w.heap.size, 0, none⟩) 2 2] (w.alloc (.cells #[.string ⟨#[49, 50, 51, 52]⟩, .string ⟨#[53, 54, 55, 56, 57]⟩] 9)) fun e w' => e = .returned (.int .u32 3808858755) ∧ w' = w.alloc (.cells #[.string ⟨#[49, 50, 51, 52]⟩, .string ⟨#[53, 54, 55, 56, 57]⟩] 9) := by
  have h := sum_any (some ⟨w.heap.size, 0, none⟩) 2 2 _ _ (T.later (below_alloc _ _)) (Ss.two w ⟨#[49, 50, 51, 52]⟩ ⟨#[53, 54, 55, 56, 57]⟩ (by decide) (by decide) 9)
  rw [sum_ex] at h
  exact h
theorem key_ex (w : World) : Calls Tryd.prog 17 #[.slice none 0 0] w fun e w' => e = .returned (.int .u64 14695981039346656037) ∧ w' = w := key_any none 0 0 [] w (Ss.nil w none)
theorem open_exs (w : World) (T : Tab w) : Calls Tryd.prog 20 #[.string ⟨#[97, 98, 99]⟩] w fun e w' => e = .returned (.tuple #[.string ByteArray.empty, .int .i64 10]) ∧ Below w.heap.size w w' := by
  have h := open_any ⟨#[97, 98, 99]⟩ (by decide) w T
  rw [open_abc] at h
  exact h
set_option maxHeartbeats 1000000 in
theorem awake_any (w : World) (T : Tab w) : Calls Tryd.prog 12 #[] w fun e w' => e = .returned (.bool true) ∧ Below w.heap.size w w' := by
  go_enter Tryd.func12, Tryd.ntmps12
  go_wp2_with fail
  refine (open_exs _ T).mono ?_
  rintro e w1 ⟨rfl, hb1⟩
  have T1 := T.later hb1
  go_wp2_with fail
  refine (sum_exs _ T1).mono ?_
  rintro e w2 ⟨rfl, hw2⟩
  subst hw2
  go_wp2_with fail
  refine (zeros_ex _).mono ?_
  rintro e w3 ⟨rfl, hb3⟩
  go_wp2_with fail
  refine (key_ex _).mono ?_
  rintro e w4 ⟨rfl, hw4⟩
  subst hw4
  go_wp2
  go_ret
  have B2 := hb1.trans ((below_alloc w1 (.cells #[.string ⟨#[49, 50, 51, 52]⟩, .string ⟨#[53, 54, 55, 56, 57]⟩] 9)).mono hb1.size)
  exact ⟨rfl, B2.trans (hb3.mono B2.size)⟩

end Cr
end Go.Proofs.YtbjhajomeegobaaDoor
