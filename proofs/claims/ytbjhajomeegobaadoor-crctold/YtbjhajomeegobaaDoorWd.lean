/- A part of the proofs about package crc: what its functions answer, call by call. -/
import Derived.Test.YtbjhajomeegobaaDoorWc
import Derived.Test.YtbjhajomeegobaaDoorMc
namespace Go.Proofs.YtbjhajomeegobaaDoor
open Go.RowKit
namespace Cr

set_option maxHeartbeats 1000000 in
theorem sum_any (a : Option Addr) (n cap : Nat) (xs : List ByteArray) (w : World) (T : Tab w) (h : Ss w a n xs) :
    Calls Tryd.prog 14 #[.slice a n cap] w fun e w' => e = .returned (.int .u32 (more 0 (jn xs) : Nat)) ∧ w' = w := by
  have hm := more_any 0 (by omega) a n cap xs w T h
  go_enter Tryd.func14, Tryd.ntmps14
  go_wp2_with fail
  refine hm.mono ?_
  rintro e w' ⟨rfl, rfl⟩
  go_wp2
  go_ret
  exact ⟨rfl, rfl⟩
set_option maxHeartbeats 1000000 in
theorem few_any (a : Option Addr) (n cap : Nat) (xs : List ByteArray) (w : World) (h : Ss w a n xs) :
    Calls Tryd.prog 11 #[.slice a n cap] w fun e w' => e = .returned (.bool (fewB xs)) ∧ w' = w := by
  have hn := h.most
  go_enter Tryd.func11, Tryd.ntmps11
  go_wp2
  go_loop [3] (fun i => ∃ k : Nat, k ≤ n ∧ i = .int .i64 k ∧ (∀ (j : Nat) (s : ByteArray), j < k → xs[j]? = some s → s.size ≤ 300)) (fun i => n - (intOf i).toNat)
  case atStart => exact ⟨0, Nat.zero_le _, rfl, by intro j s hj; omega⟩
  case round =>
    obtain ⟨k, hk, rfl, hok⟩ := hrel
    have hlen := h.len
    by_cases hlt : k < n
    · obtain ⟨s, hs⟩ : ∃ s, xs[k]? = some s := ⟨_, List.getElem?_eq_getElem (by omega)⟩
      obtain ⟨b, off, rfl, hbl, c0⟩ := h.cells k s hs
      have hsz := h.fit s (List.mem_of_getElem? hs)
      have Hs := hide hs
      clear hs hlen
      by_cases hbig : 300 < s.size
      · have HF := hide (not_few Hs.out hbig)
        clear hok
        go_wp2
        go_ret
        exact ⟨ret_bool HF.out.symm, rfl⟩
      · have HN : Hid (∀ (j : Nat) (s : ByteArray), j < k + 1 → xs[j]? = some s → s.size ≤ 300) := by
          intro j t hj ht
          by_cases hjk : j = k
          · subst hjk; rw [Hs.out] at ht; cases ht; omega
          · exact hok j t (by omega) ht
        clear hok
        go_wp2
        go_round
        case rel => exact ⟨k + 1, by omega, by go_num, HN.out⟩
        case measure => simp [intOf]; omega
    · have HF : Hid (fewB xs = decide (n ≤ 30)) := by
        show _ = _
        rw [few_of fun j s hj => hok j s (by obtain ⟨h1, _⟩ := List.getElem?_eq_some_iff.1 hj; omega) hj, hlen]
      clear hok hlen
      go_wp2
      go_ret
      exact ⟨ret_bool (by rw [HF.out]; try (apply decide_eq_decide.2; omega)), rfl⟩
set_option maxHeartbeats 1000000 in
theorem joined_any (a : Option Addr) (n cap : Nat) (xs : List ByteArray) (w : World) (h : Ss w a n xs) (hf : Hid (fewB xs = true)) :
    Calls Tryd.prog 13 #[.slice a n cap] w fun e w' => e = .returned (.string (str (jn xs))) ∧ w' = w := by
  have hn := h.most
  go_enter Tryd.func13, Tryd.ntmps13
  go_wp2
  go_loop [3, 4] (fun v i => ∃ k : Nat, k ≤ n ∧ i = .int .i64 k ∧ v = .string (str (jn (xs.take k)))) (fun _ i => n - (intOf i).toNat)
  case atStart => exact ⟨0, Nat.zero_le _, rfl, rfl⟩
  case round =>
    obtain ⟨k, hk, rfl, rfl⟩ := hrel
    have hlen := h.len
    by_cases hlt : k < n
    · obtain ⟨s, hs⟩ : ∃ s, xs[k]? = some s := ⟨_, List.getElem?_eq_getElem (by omega)⟩
      obtain ⟨b, off, rfl, hbl, c0⟩ := h.cells k s hs
      have hsz := fewB_size hf.out s (List.mem_of_getElem? hs)
      have HE : Hid (str (jn (xs.take k)) ++ s = str (jn (xs.take (k + 1)))) := by
        show _ = _
        rw [jn_take_succ hs, str_append, str_bs]
      have hl : (str (jn (xs.take k))).size ≤ 9000 := by rw [str_size]; exact fewB_jn hf.out k
      clear hs hlen
      generalize str (jn (xs.take k)) = t at *
      go_wp2
      go_round
      case rel => exact ⟨k + 1, by omega, by go_num, by rw [← HE.out]⟩
      case measure => simp [intOf]; omega
    · have HF : Hid (str (jn (xs.take k)) = str (jn xs)) := by
        show _ = _
        rw [List.take_of_length_le (by omega)]
      clear hlen
      generalize str (jn (xs.take k)) = t at *
      go_wp2
      go_ret
      exact ⟨ret_str HF.out, rfl⟩

end Cr
end Go.Proofs.YtbjhajomeegobaaDoor
