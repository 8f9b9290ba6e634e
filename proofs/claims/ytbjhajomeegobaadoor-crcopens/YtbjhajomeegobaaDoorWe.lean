/- A part of the proofs about package crc: what its functions answer, call by call. -/
import Derived.Test.YtbjhajomeegobaaDoorWd
namespace Go.Proofs.YtbjhajomeegobaaDoor
open Go.RowKit
namespace Cr

theorem key_mul {k b : Nat} (hk : k < 18446744073709551616) (hb : b < 256) : ∃ X Y : Nat, bits .xor .u64 (k : Int) (b : Int) = (X : Int) ∧ IntKind.u64.wrap ((X : Int) * 1099511628211) = (Y : Int) ∧ Hid (Y = key1 k b) := by
  refine ⟨k ^^^ b, key1 k b, u64_xor_nat _ _ hk (by omega), ?_, rfl⟩
  rw [IntKind.wrap_u64]
  unfold key1
  omega
theorem low_byte (x j : Nat) : (x : Int) / 2 ^ (8 * j) % 256 = ((x / 256 ^ j % 256 : Nat) : Int) := by
  rw [show (256 : Nat) ^ j = 2 ^ (8 * j) by rw [Nat.pow_mul]]
  rw [Int.natCast_emod, Int.natCast_ediv, Int.natCast_pow]
  rfl
set_option maxHeartbeats 1000000 in
theorem addByte_any (k b : Nat) (hk : k < 18446744073709551616) (hb : b < 256) (w : World) :
    Calls Tryd.prog 24 #[.int .u64 (k : Nat), .int .u8 (b : Nat)] w fun e w' => e = .returned (.int .u64 (key1 k b : Nat)) ∧ w' = w := by
  obtain ⟨X, Y, e1, e2, HY⟩ := key_mul hk hb
  go_enter Tryd.func24, Tryd.ntmps24
  go_wp2
  go_ret
  exact ⟨ret_int (by rw [HY.out]), rfl⟩
theorem keyL_take_succ {xs : List ByteArray} {k : Nat} {s : ByteArray} (hs : xs[k]? = some s) (K : Nat) : keyP (keyL K (xs.take k)) s = keyL K (xs.take (k + 1)) := by
  rw [snoc_take _ _ _ hs, keyL_append]; rfl
set_option maxHeartbeats 1000000 in
theorem key_any (a : Option Addr) (n cap : Nat) (xs : List ByteArray) (w : World) (h : Ss w a n xs) :
    Calls Tryd.prog 17 #[.slice a n cap] w fun e w' => e = .returned (.int .u64 (keyL 14695981039346656037 xs : Nat)) ∧ w' = w := by
  have hn := h.most
  go_enter Tryd.func17, Tryd.ntmps17
  go_wp2
  go_loop [3, 11] (fun r i => ∃ k : Nat, k ≤ n ∧ i = .int .i64 k ∧ r = .int .u64 (keyL 14695981039346656037 (xs.take k) : Nat)) (fun _ i => n - (intOf i).toNat)
  case atStart => exact ⟨0, Nat.zero_le _, rfl, rfl⟩
  case round =>
    obtain ⟨k, hk, rfl, rfl⟩ := hrel
    have hlen := h.len
    have HKl := keyL_lt (xs.take k) (k := 14695981039346656037) (by omega)
    by_cases hlt : k < n
    · obtain ⟨s, hs⟩ : ∃ s, xs[k]? = some s := ⟨_, List.getElem?_eq_getElem (by omega)⟩
      obtain ⟨b, off, rfl, hbl, c0⟩ := h.cells k s hs
      have hsz := h.fit s (List.mem_of_getElem? hs)
      have HE := hide (keyL_take_succ hs 14695981039346656037)
      generalize keyL 14695981039346656037 (xs.take k) = R at *
      clear hs hlen
      go_wp2
      go_loop [3, 6] (fun r i => ∃ j : Nat, j ≤ 8 ∧ i = .int .i64 j ∧ r = .int .u64 (keyB R (low s.size j) : Nat)) (fun _ i => 8 - (intOf i).toNat)
      case atStart => exact ⟨0, Nat.zero_le _, rfl, rfl⟩
      case round =>
        obtain ⟨j, hj, rfl, rfl⟩ := hrel
        have HBl := keyB_lt (low s.size j) HKl
        by_cases hjl : j < 8
        · have eb := low_byte s.size j
          have HS : Hid (key1 (keyB R (low s.size j)) (s.size / 256 ^ j % 256) = keyB R (low s.size (j + 1))) := by
            show _ = _
            rw [low_succ, keyB_append]; rfl
          have hbb : s.size / 256 ^ j % 256 < 256 := Nat.mod_lt _ (by omega)
          generalize s.size / 256 ^ j % 256 = B at *
          generalize keyB R (low s.size j) = V at *
          go_wp2_with fail
          refine (addByte_any V B HBl hbb _).mono ?_
          rintro e w' ⟨rfl, rfl⟩
          go_wp2
          go_round
          case rel => exact ⟨j + 1, by omega, by go_num, by rw [HS.out]⟩
          case measure => simp [intOf]; omega
        · obtain rfl : j = 8 := by omega
          have HP : Hid (keyB (keyB R (low s.size 8)) (bs s) = keyP R s) := rfl
          generalize keyB R (low s.size 8) = V at *
          go_wp2
          go_loop [3, 8] (fun r i => ∃ j : Nat, j ≤ s.size ∧ i = .int .i64 j ∧ r = .int .u64 (keyB V ((bs s).take j) : Nat)) (fun _ i => s.size - (intOf i).toNat)
          case atStart => exact ⟨0, Nat.zero_le _, rfl, rfl⟩
          case round =>
            obtain ⟨j, hj, rfl, rfl⟩ := hrel
            have HCl := keyB_lt ((bs s).take j) HBl
            by_cases hjl : j < s.size
            · have HS : Hid (key1 (keyB V ((bs s).take j)) (s[j]'hjl).toNat = keyB V ((bs s).take (j + 1))) := by
                show _ = _
                rw [bs_take_succ hjl, keyB_append]; rfl
              have hbb := bs_lt s (s[j]'hjl).toNat (List.mem_of_getElem? (bs_get s j hjl))
              generalize keyB V ((bs s).take j) = U at *
              go_wp2_with fail
              refine (addByte_any U (s[j]'hjl).toNat HCl hbb _).mono ?_
              rintro e w' ⟨rfl, rfl⟩
              go_wp2
              go_round
              case rel => exact ⟨j + 1, by omega, by go_num, by rw [HS.out]⟩
              case measure => simp [intOf]; omega
            · have HS : Hid (keyB V ((bs s).take j) = keyB V (bs s)) := by
                show _ = _
                rw [bs_take_all s hjl]
              generalize keyB V ((bs s).take j) = U at *
              go_wp2
              go_round
              case rel => exact ⟨k + 1, by omega, by go_num, by rw [HS.out, HP.out, HE.out]⟩
              case measure => simp [intOf]; omega
    · have HF : Hid (keyL 14695981039346656037 (xs.take k) = keyL 14695981039346656037 xs) := by
        show _ = _
        rw [List.take_of_length_le (by omega)]
      clear hlen
      generalize keyL 14695981039346656037 (xs.take k) = R at *
      go_wp2
      go_ret
      exact ⟨ret_int (by rw [HF.out]), rfl⟩

end Cr
end Go.Proofs.YtbjhajomeegobaaDoor
