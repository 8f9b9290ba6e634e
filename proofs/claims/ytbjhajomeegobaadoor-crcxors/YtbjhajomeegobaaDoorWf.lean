/- A part of the proofs about package crc: what its functions answer, call by call. -/
import Derived.Test.YtbjhajomeegobaaDoorWe
namespace Go.Proofs.YtbjhajomeegobaaDoor
open Go.RowKit
namespace Cr

theorem pow256 (x j : Nat) : x / 256 ^ j / 256 = x / 256 ^ (j + 1) := by rw [Nat.div_div_eq_div_mul, ← Nat.pow_succ]
set_option maxHeartbeats 1000000 in
theorem rkey_any (a : Option Addr) (n cap : Nat) (xs : List ByteArray) (w : World) (h : Ss w a n xs) :
    Calls Tryd.prog 18 #[.slice a n cap] w fun e w' => e = .returned (.int .u64 (keyL 14695981039346656037 xs : Nat)) ∧ w' = w := by
  have hn := h.most
  go_enter Tryd.func18, Tryd.ntmps18
  go_wp2
  go_loop [3, 4] (fun r i => ∃ k : Nat, k ≤ n ∧ i = .int .i64 k ∧ r = .int .u64 (keyL 14695981039346656037 (xs.take k) : Nat)) (fun _ i => n - (intOf i).toNat)
  case atStart => exact ⟨0, Nat.zero_le _, rfl, rfl⟩
  case round =>
    obtain ⟨k, hk, rfl, rfl⟩ := hrel
    have hlen := h.len
    have HKl := keyL_lt (xs.take k) (k := 14695981039346656037) (by omega)
    by_cases hlt : k < n
    · obtain ⟨s, hs⟩ : ∃ s, xs[k]? = some s := ⟨_, List.getElem?_eq_getElem (by omega)⟩
      obtain ⟨b, off, rfl, hbl, c0⟩ := h.cells k s hs
      have hsz := h.fit s (List.mem_of_getElem? hs)
      have HE := hide (keyL_take_succ hs 14695981039346656037)
      generalize keyL 14695981039346656037 (xs.take k) = R at *
      clear hs hlen
      go_wp2
      go_loop [3, 5, 6] (fun r m i => ∃ j : Nat, j ≤ 8 ∧ i = .int .i64 j ∧ m = .int .i64 (s.size / 256 ^ j : Nat) ∧ r = .int .u64 (keyB R (low s.size j) : Nat)) (fun _ _ i => 8 - (intOf i).toNat)
      case atStart => exact ⟨0, Nat.zero_le _, rfl, by simp, rfl⟩
      case round =>
        obtain ⟨j, hj, rfl, rfl, rfl⟩ := hrel
        have HBl := keyB_lt (low s.size j) HKl
        by_cases hjl : j < 8
        · have HS : Hid (key1 (keyB R (low s.size j)) (s.size / 256 ^ j % 256) = keyB R (low s.size (j + 1))) := by
            show _ = _
            rw [low_succ, keyB_append]; rfl
          have HD := hide (pow256 s.size j)
          have hml : s.size / 256 ^ j ≤ 9223372036854775807 := Nat.le_trans (Nat.div_le_self _ _) hsz
          generalize s.size / 256 ^ j = M at *
          have hbb : M % 256 < 256 := Nat.mod_lt _ (by omega)
          generalize keyB R (low s.size j) = V at *
          obtain ⟨X, Y, e1, e2, HY⟩ := key_mul HBl hbb
          have e3 : bits .xor .u64 (V : Int) ((M : Int) % 256) = (X : Int) := by rw [show (M : Int) % 256 = ((M % 256 : Nat) : Int) by omega]; exact e1
          clear e1
          go_wp2
          go_round
          case rel => exact ⟨j + 1, by omega, by go_num, by rw [← HD.out]; go_num, by rw [HY.out, HS.out]⟩
          case measure => simp [intOf]; omega
        · obtain rfl : j = 8 := by omega
          have HP : Hid (keyB (keyB R (low s.size 8)) (bs s) = keyP R s) := rfl
          generalize keyB R (low s.size 8) = V at *
          go_wp2
          go_loop [3, 7] (fun r i => ∃ j : Nat, j ≤ s.size ∧ i = .int .i64 j ∧ r = .int .u64 (keyB V ((bs s).take j) : Nat)) (fun _ i => s.size - (intOf i).toNat)
          case atStart => exact ⟨0, Nat.zero_le _, rfl, rfl⟩
          case round =>
            obtain ⟨j, hj, rfl, rfl⟩ := hrel
            have HCl := keyB_lt ((bs s).take j) HBl
            by_cases hjl : j < s.size
            · have HS : Hid (key1 (keyB V ((bs s).take j)) (s[j]'hjl).toNat = keyB V ((bs s).take (j + 1))) := by
                show _ = _
                rw [bs_take_succ hjl, keyB_append]; rfl
              have hbb := bs_lt s (s[j]'hjl).toNat (List.mem_of_getElem? (bs_get s j hjl))
              generalize keyB V ((bs s).take j) = U at *
              obtain ⟨X, Y, e1, e2, HY⟩ := key_mul HCl hbb
              go_wp2
              go_round
              case rel => exact ⟨j + 1, by omega, by go_num, by rw [HY.out, HS.out]⟩
              case measure => simp [intOf]; omega
            · have HS : Hid (keyB V ((bs s).take j) = keyB V (bs s)) := by
                show _ = _
                rw [bs_take_all s hjl]
              generalize keyB V ((bs s).take j) = U at *
              go_wp2
              go_round
              case rel => exact ⟨k + 1, by omega, by go_num, by rw [HS.out, HP.out, HE.out]⟩
              case measure => simp [intOf]; omega
    · have HF : Hid (keyL 14695981039346656037 (xs.take k) = keyL 14695981039346656037 xs) := by
        show _ = _
        rw [List.take_of_length_le (by omega)]
      clear hlen
      generalize keyL 14695981039346656037 (xs.take k) = R at *
      go_wp2
      go_ret
      exact ⟨ret_int (by rw [HF.out]), rfl⟩

end Cr
end Go.Proofs.YtbjhajomeegobaaDoor
