/- A part of the proofs about package crc: what its functions answer, call by call. -/
import Derived.Test.YtbjhajomeegobaaDoorLa
namespace Go.Proofs.YtbjhajomeegobaaDoor
open Go.RowKit
namespace Cr

theorem same_b {P : Program} {f : FuncId} {args : Array Value} {w : World} {v : Value} (h : Calls P f args w fun e w' => e = .returned v ∧ w' = w) : Calls P f args w fun e w' => e = .returned v ∧ Below w.heap.size w w' :=
  h.mono fun _ _ ⟨h1, h2⟩ => ⟨h1, by rw [h2]; exact Below.refl _ _⟩
set_option maxHeartbeats 1000000 in
theorem crcSums_walk (a : Option Addr) (n cap : Nat) (xs : List ByteArray) (c : Nat) (W : World) (T : Tab W) (h : Ss W a n xs) (hc : c < 4294967296) :
    Calls Tryd.prog 3 #[.slice a n cap, .int .u32 (c : Nat)] W fun e w' => e = .returned (.bool true) ∧ Below W.heap.size W w' := by
  have hf : ∀ w, Ss w a n xs → _ := fun w h => same_b (few_any a n cap xs w h)
  cases hx : fewB xs with
  | false =>
    rw [hx] at hf
    go_enter Tryd.func3, Tryd.ntmps3
    go_wp2_with fail
    refine (hf _ h).mono ?_
    rintro e wv1 ⟨rfl, hv1⟩
    replace T := T.later hv1
    replace h := h.later hv1
    have BB := hv1
    clear hv1
    go_wp2_with fail
    refine (awake_any _ T).mono ?_
    rintro e wv2 ⟨rfl, hv2⟩
    replace T := T.later hv2
    replace h := h.later hv2
    replace BB := BB.trans (hv2.mono BB.size)
    clear hv2
    go_wp2
    go_ret
    exact ⟨rfl, BB⟩
  | true =>
    rw [hx] at hf
    have hj : ∀ w, Ss w a n xs → _ := fun w h => same_b (joined_any a n cap xs w h hx)
    have hl : (str (jn xs)).size ≤ 9223372036854775807 := by
      rw [str_size]
      have := fewB_jn hx xs.length
      rw [List.take_length] at this
      omega
    have hb := bs_str (jn_lt xs)
    have c1 : ∀ w, Tab w → Ss w a n xs → _ := fun w T h => same_b (sum_any a n cap xs w T h)
    have c2 : ∀ w, _ := fun w => rmore0 (str (jn xs)) hl w
    have c3 : ∀ w, Tab w → Ss w a n xs → _ := fun w T h => same_b (more_any c hc a n cap xs w T h)
    have c4 : ∀ w, _ := fun w => same_b (rmore_any c hc (str (jn xs)) hl w)
    have c5 : ∀ w, Ss w a n xs → _ := fun w h => same_b (key_any a n cap xs w h)
    have c6 : ∀ w, Ss w a n xs → _ := fun w h => same_b (rkey_any a n cap xs w h)
    rw [hb] at c2 c4
    clear hb hx hl
    generalize str (jn xs) = J at *
    generalize more 0 (jn xs) = M0 at *
    generalize more c (jn xs) = M1 at *
    generalize keyL 14695981039346656037 xs = KK at *
    go_enter Tryd.func3, Tryd.ntmps3
    go_wp2_with fail
    refine (hf _ h).mono ?_
    rintro e wv1 ⟨rfl, hv1⟩
    replace T := T.later hv1
    replace h := h.later hv1
    have BB := hv1
    clear hv1
    go_wp2_with fail
    refine (hj _ h).mono ?_
    rintro e wv2 ⟨rfl, hv2⟩
    replace T := T.later hv2
    replace h := h.later hv2
    replace BB := BB.trans (hv2.mono BB.size)
    clear hv2
    go_wp2_with fail
    refine (c1 _ T h).mono ?_
    rintro e wv3 ⟨rfl, hv3⟩
    replace T := T.later hv3
    replace h := h.later hv3
    replace BB := BB.trans (hv3.mono BB.size)
    clear hv3
    go_wp2_with fail
    refine (c2 _).mono ?_
    rintro e wv4 ⟨rfl, hv4⟩
    replace T := T.later hv4
    replace h := h.later hv4
    replace BB := BB.trans (hv4.mono BB.size)
    clear hv4
    go_wp2_with fail
    refine (c3 _ T h).mono ?_
    rintro e wv5 ⟨rfl, hv5⟩
    replace T := T.later hv5
    replace h := h.later hv5
    replace BB := BB.trans (hv5.mono BB.size)
    clear hv5
    go_wp2_with fail
    refine (c4 _).mono ?_
    rintro e wv6 ⟨rfl, hv6⟩
    replace T := T.later hv6
    replace h := h.later hv6
    replace BB := BB.trans (hv6.mono BB.size)
    clear hv6
    go_wp2_with fail
    refine (c5 _ h).mono ?_
    rintro e wv7 ⟨rfl, hv7⟩
    replace T := T.later hv7
    replace h := h.later hv7
    replace BB := BB.trans (hv7.mono BB.size)
    clear hv7
    go_wp2_with fail
    refine (c6 _ h).mono ?_
    rintro e wv8 ⟨rfl, hv8⟩
    replace T := T.later hv8
    replace h := h.later hv8
    replace BB := BB.trans (hv8.mono BB.size)
    clear hv8
    go_wp2_with fail
    refine (awake_any _ T).mono ?_
    rintro e wv9 ⟨rfl, hv9⟩
    replace T := T.later hv9
    replace h := h.later hv9
    replace BB := BB.trans (hv9.mono BB.size)
    clear hv9
    go_wp2
    go_ret
    exact ⟨rfl, BB⟩
set_option maxHeartbeats 1000000 in
theorem crcOpens_walk (s : ByteArray) (W : World) (T : Tab W) (hs : s.size ≤ 9223372036854775807) :
    Calls Tryd.prog 5 #[.string s] W fun e w' => e = .returned (.bool true) ∧ Below W.heap.size W w' := by
  by_cases h1 : 500 < s.size
  · go_enter Tryd.func5, Tryd.ntmps5
    go_wp2_with fail
    refine (awake_any _ T).mono ?_
    rintro e wv1 ⟨rfl, hv1⟩
    replace T := T.later hv1
    have BB := hv1
    clear hv1
    go_wp2
    go_ret
    exact ⟨rfl, BB⟩
  · have c1 : ∀ w, Tab w → _ := fun w T => open_any s (by omega) w T
    have c2 : ∀ w, _ := fun w => ropen_any s (by omega) w
    have c3 : ∀ w, Tab w → _ := fun w T => seal_any s (by omega) w T
    have c4 : ∀ w, _ := fun w => rmore0 s hs w
    have c5 : ∀ w, _ := fun w => rfour_any (more 0 (bs s)) (more_lt _ _) w
    have hl : (str (four (more 0 (bs s)))).size = 4 := by rw [str_size]; rfl
    generalize more 0 (bs s) = M at *
    generalize str (four M) = F at *
    generalize opened s = O at *
    obtain ⟨o1, o2⟩ := O
    go_enter Tryd.func5, Tryd.ntmps5
    go_wp2_with fail
    refine (c1 _ T).mono ?_
    rintro e wv1 ⟨rfl, hv1⟩
    replace T := T.later hv1
    have BB := hv1
    clear hv1
    go_wp2_with fail
    refine (c2 _).mono ?_
    rintro e wv2 ⟨rfl, hv2⟩
    replace T := T.later hv2
    replace BB := BB.trans (hv2.mono BB.size)
    clear hv2
    go_wp2_with fail
    refine (c3 _ T).mono ?_
    rintro e wv3 ⟨rfl, hv3⟩
    replace T := T.later hv3
    replace BB := BB.trans (hv3.mono BB.size)
    clear hv3
    go_wp2_with fail
    refine (c4 _).mono ?_
    rintro e wv4 ⟨rfl, hv4⟩
    replace T := T.later hv4
    replace BB := BB.trans (hv4.mono BB.size)
    clear hv4
    go_wp2_with fail
    refine (c5 _).mono ?_
    rintro e wv5 ⟨rfl, hv5⟩
    replace T := T.later hv5
    replace BB := BB.trans (hv5.mono BB.size)
    clear hv5
    go_wp2_with fail
    refine (awake_any _ T).mono ?_
    rintro e wv6 ⟨rfl, hv6⟩
    replace T := T.later hv6
    replace BB := BB.trans (hv6.mono BB.size)
    clear hv6
    go_wp2
    go_ret
    exact ⟨rfl, BB⟩

end Cr
end Go.Proofs.YtbjhajomeegobaaDoor
