/- A part of the proofs about package crc: what its functions answer, call by call. -/
import Derived.Test.YtjopjffecnflkaaDoorWa
namespace Go.Proofs.YtjopjffecnflkaaDoor
open Go.RowKit
namespace Cr

theorem xor_flip {c : Nat} (hc : c < 4294967296) : bits .xor .u32 4294967295 (c : Int) = ((flip32 c : Nat) : Int) := by
  rw [show (4294967295 : Int) = ((4294967295 : Nat) : Int) from rfl, u32_xor_nat _ _ (by omega) hc, ← flip32_xor (by omega)]
theorem and15 {x : Nat} (hx : x < 4294967296) : bits .and .u32 (x : Int) 15 = ((x % 16 : Nat) : Int) := by
  rw [show (15 : Int) = ((15 : Nat) : Int) from rfl, u32_and_nat _ _ hx (by omega), show 15 = 2 ^ 4 - 1 from rfl, Nat.and_two_pow_sub_one_eq_mod]
theorem xor_u32 {x y : Nat} (hx : x < 4294967296) (hy : y < 4294967296) : bits .xor .u32 (x : Int) (y : Int) = ((x ^^^ y : Nat) : Int) := u32_xor_nat _ _ hx hy
theorem half_step {x : Nat} (hx : x < 4294967296) : bits .xor .u32 ((x : Int) / 16) ((tb (x % 16) : Nat) : Int) = ((stN 4 x : Nat) : Int) := by
  rw [show (x : Int) / 16 = ((x / 16 : Nat) : Int) by omega, u32_xor_nat _ _ (by omega) (tb_lt _), half]
/-- What a byte comes to, step by step, as the program reckons. -/
theorem byte_facts {R b : Nat} (hR : R < 4294967296) (hb : b < 256) : ∃ X q Y r Z : Nat, q < 16 ∧ r < 16 ∧ bits .xor .u32 (R : Int) ((b : Int) % 4294967296) = (X : Int) ∧ bits .and .u32 (X : Int) 15 = (q : Int) ∧
    bits .xor .u32 ((X : Int) / 16) ((tb q : Nat) : Int) = (Y : Int) ∧ bits .and .u32 (Y : Int) 15 = (r : Int) ∧ bits .xor .u32 ((Y : Int) / 16) ((tb r : Nat) : Int) = (Z : Int) ∧ Hid (Z = byt R b) := by
  have hX : R ^^^ b < 4294967296 := Nat.xor_lt_two_pow (n := 32) hR (by omega)
  have hY : stN 4 (R ^^^ b) < 4294967296 := stN_lt 4 hX
  exact ⟨R ^^^ b, (R ^^^ b) % 16, stN 4 (R ^^^ b), stN 4 (R ^^^ b) % 16, stN 4 (stN 4 (R ^^^ b)), Nat.mod_lt _ (by omega), Nat.mod_lt _ (by omega),
    by rw [show (b : Int) % 4294967296 = (b : Int) by omega]; exact xor_u32 hR (by omega), and15 hX, half_step hX, and15 hY, half_step hY, (byt_half R b).symm⟩
theorem jn_take_succ {xs : List ByteArray} {k : Nat} {s : ByteArray} (h : xs[k]? = some s) : jn (xs.take (k + 1)) = jn (xs.take k) ++ bs s := by
  rw [snoc_take _ _ _ h, jn_append]; simp [jn]
theorem bs_take_succ {s : ByteArray} {j : Nat} (h : j < s.size) : (bs s).take (j + 1) = (bs s).take j ++ [(s[j]'h).toNat] := snoc_take _ _ _ (bs_get s j h)
theorem bs_take_all (s : ByteArray) {j : Nat} (h : ¬ j < s.size) : (bs s).take j = bs s := List.take_of_length_le (by rw [bs_length]; omega)
theorem reg_take_lt {c : Nat} (xs : List ByteArray) (k : Nat) (s : ByteArray) (j : Nat) : reg (flip32 c) (jn (xs.take k) ++ (bs s).take j) < 4294967296 :=
  reg_lt _ (flip32_lt c) fun b hb => by
    rw [List.mem_append] at hb
    rcases hb with hb | hb
    · exact jn_lt _ b hb
    · exact bs_lt s b (List.mem_of_mem_take hb)
set_option maxHeartbeats 1000000 in
theorem more_any (c : Nat) (hc : c < 4294967296) (a : Option Addr) (n cap : Nat) (xs : List ByteArray) (w : World) (T : Tab w) (h : Ss w a n xs) :
    Calls Tryd.prog 40 #[.int .u32 (c : Nat), .slice a n cap] w fun e w' => e = .returned (.int .u32 (more c (jn xs) : Nat)) ∧ w' = w := by
  have hn := h.most
  have hx := xor_flip hc
  have hsg : IntKind.u32.signed = false := rfl
  have hmx : IntKind.u32.max = 4294967295 := rfl
  go_enter Tryd.func40, Tryd.ntmps40
  go_wp2
  go_loop [5, 13] (fun r i => ∃ k : Nat, k ≤ n ∧ i = .int .i64 k ∧ r = .int .u32 (reg (flip32 c) (jn (xs.take k)) : Nat)) (fun _ i => n - (intOf i).toNat)
  case atStart => exact ⟨0, Nat.zero_le _, rfl, rfl⟩
  case round =>
    obtain ⟨k, hk, rfl, rfl⟩ := hrel
    have hlen := h.len
    by_cases hlt : k < n
    · obtain ⟨s, hs⟩ : ∃ s, xs[k]? = some s := ⟨_, List.getElem?_eq_getElem (by omega)⟩
      obtain ⟨b, off, rfl, hbl, c0⟩ := h.cells k s hs
      have hsz := h.fit s (List.mem_of_getElem? hs)
      have Hs := hide hs
      clear hs hlen hx
      go_wp2
      go_loop [5, 8] (fun r i => ∃ j : Nat, j ≤ s.size ∧ i = .int .i64 j ∧ r = .int .u32 (reg (flip32 c) (jn (xs.take k) ++ (bs s).take j) : Nat)) (fun _ i => s.size - (intOf i).toNat)
      case atStart => exact ⟨0, Nat.zero_le _, rfl, by simp⟩
      case round =>
        obtain ⟨j, hj, rfl, rfl⟩ := hrel
        by_cases hjl : j < s.size
        · have HRl := reg_take_lt (c := c) xs k s j
          obtain ⟨X, q, Y, r, Z, hq, hr, e1, e2, e3, e4, e5, HZ⟩ := byte_facts HRl (bs_lt s (s[j]'hjl).toNat (List.mem_of_getElem? (bs_get s j hjl)))
          have C1 := T.cell q hq
          have C2 := T.cell r hr
          have HE : Hid (Z = reg (flip32 c) (jn (xs.take k) ++ (bs s).take (j + 1))) := by
            show Z = _
            rw [HZ.out, bs_take_succ hjl, ← List.append_assoc, reg_snoc]
          generalize reg (flip32 c) (jn (xs.take k) ++ (bs s).take j) = R at *
          clear HZ HRl
          go_wp2
          go_round
          case rel => exact ⟨j + 1, by omega, by go_num, by rw [HE.out]⟩
          case measure => simp [intOf]; omega
        · have HE : Hid (reg (flip32 c) (jn (xs.take k) ++ (bs s).take j) = reg (flip32 c) (jn (xs.take (k + 1)))) := by
            show _ = _
            rw [bs_take_all s hjl, jn_take_succ Hs.out]
          go_wp2
          go_round
          case rel => exact ⟨k + 1, by omega, by go_num, by rw [HE.out]⟩
          case measure => simp [intOf]; omega
    · have HE : Hid (flip32 (reg (flip32 c) (jn (xs.take k))) = more c (jn xs)) := by
        show _ = _
        rw [List.take_of_length_le (by omega)]; rfl
      have HRl := reg_lt (jn (xs.take k)) (flip32_lt c) (jn_lt _)
      have hy := xor_flip HRl
      clear hlen hx
      go_wp2
      go_ret
      exact ⟨ret_int (by rw [HE.out]), rfl⟩

end Cr
end Go.Proofs.YtjopjffecnflkaaDoor
