/- A part of the proofs about package crc: what its functions answer, call by call. -/
import Derived.Test.YtbjhajomeegobaaDoorWq
import Derived.Test.YtbjhajomeegobaaDoorLx
namespace Go.Proofs.YtbjhajomeegobaaDoor
open Go.RowKit
namespace Cr

theorem below_new1 {w w' : World} {o : Obj} (h : Below (w.alloc o).heap.size (w.alloc o) w') : Below w.heap.size w w' := (below_alloc w o).trans (h.mono (by simp))
theorem sum1 (s : ByteArray) (h : s.size ≤ 9223372036854775807) (w : World) (T : Tab w) : Calls Tryd.prog 14 #[.slice (some ⟨w.heap.size, 0, none⟩) 1 1] (w.alloc (.cells #[.string s] 9)) fun e w' => e = .returned (.int .u32 (more 0 (bs s) : Nat)) ∧ Below (w.alloc (.cells #[.string s] 9)).heap.size (w.alloc (.cells #[.string s] 9)) w' := by
  have hs := sum_any (some ⟨w.heap.size, 0, none⟩) 1 1 [s] (w.alloc (.cells #[.string s] 9)) (T.later (below_alloc _ _)) (Ss.one w s h 9)
  rw [show jn [s] = bs s by simp [jn]] at hs
  exact hs.mono fun _ _ ⟨h1, h2⟩ => ⟨h1, by rw [h2]; exact Below.refl _ _⟩
theorem seal_b (s : ByteArray) (hsz : s.size ≤ 1000) (w : World) (T : Tab w) : Calls Tryd.prog 22 #[.string s] w fun e w' => e = .returned (.string (sealOf s)) ∧ Below w.heap.size w w' := seal_any s hsz w T
set_option maxHeartbeats 1000000 in
theorem crcSealed_walk (s t : ByteArray) (W : World) (T : Tab W) (hs : s.size ≤ 9223372036854775807) (ht : t.size ≤ 9223372036854775807) :
    Calls Tryd.prog 10 #[.string s, .string t] W fun e w' => e = .returned (.bool true) ∧ Below W.heap.size W w' := by
  by_cases h1 : 500 < s.size
  · go_enter Tryd.func10, Tryd.ntmps10
    go_wp2_with fail
    refine (awake_any _ T).mono ?_
    rintro e wv1 ⟨rfl, hv1⟩
    replace T := T.later hv1
    have BB := hv1
    clear hv1
    go_wp2
    go_ret
    exact ⟨rfl, BB⟩
  · by_cases h2 : 500 < t.size
    · go_enter Tryd.func10, Tryd.ntmps10
      go_wp2_with fail
      refine (awake_any _ T).mono ?_
      rintro e wv1 ⟨rfl, hv1⟩
      replace T := T.later hv1
      have BB := hv1
      clear hv1
      go_wp2
      go_ret
      exact ⟨rfl, BB⟩
    · have z1 := sealOf_size s
      have z2 := sealOf_size t
      have S1 := sum_sealOf s
      have S2 := sum_sealOf t
      have hsl : ∀ w, Tab w → _ := fun w T => seal_b s (by omega) w T
      have htl : ∀ w, Tab w → _ := fun w T => seal_b t (by omega) w T
      have c1 : ∀ w, Tab w → _ := fun w T => sum1 (sealOf s) (by omega) w T
      have c2 : ∀ w, Tab w → _ := fun w T => sum1 (sealOf t) (by omega) w T
      rw [S1] at c1
      rw [S2] at c2
      clear S1 S2
      generalize sealOf s = A at *
      generalize sealOf t = B at *
      generalize flip32 (stN 32 4294967295) = F at *
      go_enter Tryd.func10, Tryd.ntmps10
      go_wp2_with fail
      refine (hsl _ T).mono ?_
      rintro e wv1 ⟨rfl, hv1⟩
      replace T := T.later hv1
      have BB := hv1
      clear hv1
      go_wp2_with fail
      refine (htl _ T).mono ?_
      rintro e wv2 ⟨rfl, hv2⟩
      replace T := T.later hv2
      replace BB := BB.trans (hv2.mono BB.size)
      clear hv2
      go_wp2_with fail
      refine (c1 _ T).mono ?_
      rintro e wv3 ⟨rfl, hv3⟩
      replace hv3 := below_new1 hv3
      replace T := T.later hv3
      replace BB := BB.trans (hv3.mono BB.size)
      clear hv3
      go_wp2_with fail
      refine (c2 _ T).mono ?_
      rintro e wv4 ⟨rfl, hv4⟩
      replace hv4 := below_new1 hv4
      replace T := T.later hv4
      replace BB := BB.trans (hv4.mono BB.size)
      clear hv4
      go_wp2_with fail
      refine (awake_any _ T).mono ?_
      rintro e wv5 ⟨rfl, hv5⟩
      replace T := T.later hv5
      replace BB := BB.trans (hv5.mono BB.size)
      clear hv5
      go_wp2
      go_ret
      exact ⟨rfl, BB⟩

end Cr
end Go.Proofs.YtbjhajomeegobaaDoor
