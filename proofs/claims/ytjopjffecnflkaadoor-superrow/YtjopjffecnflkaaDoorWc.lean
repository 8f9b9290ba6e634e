/- A part of the proofs about package crc: what its functions answer, call by call. -/
import Derived.Test.YtjopjffecnflkaaDoorWb
namespace Go.Proofs.YtjopjffecnflkaaDoor
open Go.RowKit
namespace Cr

theorem sub_flip {c : Nat} (hc : c < 4294967296) : 4294967295 - (c : Int) = ((flip32 c : Nat) : Int) := by unfold flip32; omega
theorem st_odd {Y : Nat} (h : ((Y : Int) % 2 == 1) = true) : st Y = Y / 2 ^^^ 2197175160 := by
  rw [beq_iff_eq] at h
  unfold st poly
  rw [if_pos (by omega)]
theorem st_evn {Y : Nat} (h : ((Y : Int) % 2 == 1) = false) : st Y = Y / 2 := by
  rw [beq_eq_false_iff_ne] at h
  unfold st
  rw [if_neg (by omega)]
set_option maxHeartbeats 1000000 in
theorem rmore_any (c : Nat) (hc : c < 4294967296) (s : ByteArray) (hsz : s.size ≤ 9223372036854775807) (w : World) :
    Calls Tryd.prog 26 #[.int .u32 (c : Nat), .string s] w fun e w' => e = .returned (.int .u32 (more c (bs s) : Nat)) ∧ w' = w := by
  have hx := sub_flip hc
  go_enter Tryd.func26, Tryd.ntmps26
  go_wp2
  go_loop [5, 6] (fun r i => ∃ j : Nat, j ≤ s.size ∧ i = .int .i64 j ∧ r = .int .u32 (reg (flip32 c) ((bs s).take j) : Nat)) (fun _ i => s.size - (intOf i).toNat)
  case atStart => exact ⟨0, Nat.zero_le _, rfl, rfl⟩
  case round =>
    obtain ⟨j, hj, rfl, rfl⟩ := hrel
    have HRl := reg_lt ((bs s).take j) (flip32_lt c) (fun b hb => bs_lt s b (List.mem_of_mem_take hb))
    by_cases hjl : j < s.size
    · have hbl := bs_lt s (s[j]'hjl).toNat (List.mem_of_getElem? (bs_get s j hjl))
      obtain ⟨X, HX, e1⟩ : ∃ X : Nat, Hid (X = reg (flip32 c) ((bs s).take j) ^^^ (s[j]'hjl).toNat) ∧ bits .xor .u32 (reg (flip32 c) ((bs s).take j) : Int) ((s[j]'hjl).toNat : Int) = (X : Int) :=
        ⟨_, rfl, xor_u32 HRl (by omega)⟩
      have HXl : X < 4294967296 := by rw [HX.out]; exact Nat.xor_lt_two_pow (n := 32) HRl (by omega)
      have HE : Hid (stN 8 X = reg (flip32 c) ((bs s).take (j + 1))) := by
        show _ = _
        rw [HX.out, bs_take_succ hjl, reg_snoc, byt_eq]
      generalize reg (flip32 c) ((bs s).take j) = R at *
      clear HX
      go_wp2
      go_loop [5, 7] (fun r i => ∃ m : Nat, m ≤ 8 ∧ i = .int .i64 m ∧ r = .int .u32 (stN m X : Nat)) (fun _ i => 8 - (intOf i).toNat)
      case atStart => exact ⟨0, Nat.zero_le _, rfl, rfl⟩
      case round =>
        obtain ⟨m, hm, rfl, rfl⟩ := hrel
        have hYl := stN_lt m HXl
        by_cases hml : m < 8
        · have HS := hide (stN_succ' m X)
          generalize stN m X = Y at *
          have e2 : bits .xor .u32 ((Y : Int) / 2) 2197175160 = ((Y / 2 ^^^ 2197175160 : Nat) : Int) := xor_u32 (x := Y / 2) (y := 2197175160) (by omega) (by omega)
          clear e1
          generalize hV : Y / 2 ^^^ 2197175160 = V at e2
          have HV := hide hV
          clear hV
          go_wp2
          · go_round
            case rel => exact ⟨m + 1, by omega, by go_num, by rw [HS.out, st_odd (by assumption), HV.out]⟩
            case measure => simp [intOf]; omega
          · go_round
            case rel => exact ⟨m + 1, by omega, by go_num, by rw [HS.out, st_evn (by assumption)]; go_num⟩
            case measure => simp [intOf]; omega
        · obtain rfl : m = 8 := by omega
          generalize stN 8 X = Y at *
          go_wp2
          go_round
          case rel => exact ⟨j + 1, by omega, by go_num, by rw [HE.out]⟩
          case measure => simp [intOf]; omega
    · have HE : Hid (flip32 (reg (flip32 c) ((bs s).take j)) = more c (bs s)) := by
        show _ = _
        rw [bs_take_all s hjl]; rfl
      have hy := sub_flip HRl
      generalize reg (flip32 c) ((bs s).take j) = R at *
      clear hx
      go_wp2
      go_ret
      exact ⟨ret_int (by rw [HE.out]), rfl⟩

end Cr
end Go.Proofs.YtjopjffecnflkaaDoor
