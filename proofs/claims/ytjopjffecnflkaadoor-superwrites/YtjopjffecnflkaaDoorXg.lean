/- A part of the proofs about package wire: what its functions answer, call by call. -/
import Derived.Test.YtjopjffecnflkaaDoorXe
import Derived.Deep.RegionWith
namespace Go.Proofs.YtjopjffecnflkaaDoor
open Go.RowKit
namespace Cr

/-- What a reader reads: a number of so many bytes; a number in few bytes, if it is no more than another one; so many bytes; a text. -/
def fixR (l : List Nat) (n : Int) : Nat × Nat × Int := if 1 ≤ n ∧ n ≤ 8 then (if (l.length : Int) < n then (0, 0, 10) else (num (l.take n.toNat), n.toNat, 0)) else (0, 0, 1)
def intR (l : List Nat) (m : Int) : Nat × Nat × Int := if (few 12 l).2.2 = 0 ∧ (m < 0 ∨ m < ((few 12 l).1 : Nat)) then (0, 0, 12) else few 12 l
def rawR (l : List Nat) (n : Int) : List Nat × Nat × Int := if n < 0 then ([], 0, 1) else if (l.length : Int) < n then ([], 0, 10) else (l.take n.toNat, n.toNat, 0)
def txtR (l : List Nat) (m : Int) : List Nat × Nat × Int :=
  if (intR l m).2.2 ≠ 0 then ([], 0, (intR l m).2.2) else if l.length - (intR l m).2.1 < (intR l m).1 then ([], 0, 10) else ((l.drop (intR l m).2.1).take (intR l m).1, (intR l m).2.1 + (intR l m).1, 0)
theorem few_facts (l : List Nat) : ((few 12 l).2.2 = 0 ∨ (few 12 l).1 = 0 ∧ (few 12 l).2.1 = 0 ∧ ((few 12 l).2.2 = 10 ∨ (few 12 l).2.2 = 12)) ∧ (few 12 l).2.1 ≤ l.length := by
  cases l with
  | nil => simp [few]
  | cons b r =>
    rw [few]
    split
    · simp
    · split
      · simp
      · simp; omega
theorem few_bound {l : List Nat} (hl : ∀ b ∈ l, b < 256) : (few 12 l).1 < 18446744073709551616 := few_lt 12 (n := (few 12 l).2.1) (e := (few 12 l).2.2) hl rfl
theorem vr_nine {x : Nat} (hx : x < 18446744073709551616) (h : size x = 9) : str [255] ++ str (be x 8) = str (vr x) := by
  rw [← str_append, vr, h]
  have : x / 256 ^ (9 - 1) = 0 := Nat.div_eq_of_lt hx
  rw [this]
  rfl
theorem first_small {x : Nat} (hx : x < 18446744073709551616) (_h : size x ≠ 9) : x / 256 ^ (size x - 1) < 128 ∧ hd (size x) + x / 256 ^ (size x - 1) < 256 := by
  have h2 := (lenOf_vr x hx).2
  refine ⟨?_, h2⟩
  rcases size_cases x hx with ⟨h, h1⟩ | ⟨h, h0, h1⟩ | ⟨h, h0, h1⟩ | ⟨h, h0, h1⟩ | ⟨h, h0, h1⟩ | ⟨h, h0, h1⟩ | ⟨h, h0, h1⟩ | ⟨h, h0, h1⟩ | ⟨h, h0, h1⟩ <;> rw [h] <;> simp only [Nat.reduceSub, Nat.reducePow] <;> omega
theorem be_first {x : Nat} (hx : x < 18446744073709551616) (h : size x ≠ 9) : be x (size x) = x / 256 ^ (size x - 1) :: be x (size x - 1) := by
  have hp := size_pos x
  have hf := first_small hx h
  have e : size x = (size x - 1) + 1 := by omega
  rw [show be x (size x) = be x ((size x - 1) + 1) by rw [← e], be, Nat.mod_eq_of_lt (by omega)]
theorem str_get0 (b : Nat) (r : List Nat) (hb : b < 256) (h : 0 < (str (b :: r)).size) : ((str (b :: r))[0]'h).toNat = b := by
  show (UInt8.ofNat b).toNat = b
  rw [UInt8.toNat_ofNat']
  exact Nat.mod_eq_of_lt hb
theorem str_tail (b : Nat) (r : List Nat) (n : Nat) (h : n = r.length + 1) : (str (b :: r)).extract 1 n = str r := by
  subst h
  apply ByteArray.ext
  simp [str]
  exact List.take_of_length_le (by simp)
theorem conv_drew (z : Int) (b : Nat) (hz : z = (b : Int)) (w : World) : (convert 47 9 (.slice (some ⟨w.heap.size, 0, none⟩) 1 1)).run Tryd.prog (w.alloc (.cells #[.int .u8 z] 5)).drew = .ok (.string (str [b])) (w.alloc (.cells #[.int .u8 z] 5)).drew := by
  subst hz
  exact conv_bytes _ _ 0 1 1 [b] rfl fun i x hx => by
    cases i with
    | zero => simp at hx; subst hx; simp
    | succ i => simp at hx
theorem wrap_sum {a b : Nat} (h : a + b < 256) : IntKind.u8.wrap (IntKind.i64.wrap ((a : Int) + IntKind.i64.wrap (b : Int))) = ((a + b : Nat) : Int) := by
  simp [IntKind.wrap, IntKind.bits, IntKind.signed]
  omega
theorem wrap_sum2 {a b : Nat} (h : a + b < 256) : IntKind.u8.wrap (IntKind.i64.wrap ((a : Int) + (b : Int))) = ((a + b : Nat) : Int) := by
  simp [IntKind.wrap, IntKind.bits, IntKind.signed]
  omega
theorem wrap_sum3 {a b : Nat} (h : a + b < 256) : IntKind.u8.wrap ((a : Int) + (b : Int)) = ((a + b : Nat) : Int) := by
  simp [IntKind.wrap, IntKind.bits, IntKind.signed]
  omega
theorem jo_step {x b : Nat} (_hx : x < 18446744073709551616) (hb : b < 256) : IntKind.u64.wrap (IntKind.u64.wrap (256 * (x : Int)) + (b : Int)) = ((x * 256 % 18446744073709551616 + b : Nat) : Int) := by
  simp only [IntKind.wrap_u64]
  omega
theorem fixR_arg {l : List Nat} {n : Int} (h : ¬ (1 ≤ n ∧ n ≤ 8)) : fixR l n = (0, 0, 1) := by rw [fixR, if_neg h]
theorem fixR_short {l : List Nat} {n : Int} (h : 1 ≤ n ∧ n ≤ 8) (h2 : (l.length : Int) < n) : fixR l n = (0, 0, 10) := by rw [fixR, if_pos h, if_pos h2]
theorem fixR_ok {l : List Nat} {n : Int} (h : 1 ≤ n ∧ n ≤ 8) (h2 : ¬ (l.length : Int) < n) : fixR l n = (num (l.take n.toNat), n.toNat, 0) := by rw [fixR, if_pos h, if_neg h2]
set_option maxHeartbeats 1000000 in
theorem rnumber_any (s : ByteArray) (hs : s.size ≤ 9223372036854775807) (n : Int) (hn : -9223372036854775808 ≤ n ∧ n ≤ 9223372036854775807) (w : World) :
    Calls Tryd.prog 29 #[.string s, .int .i64 n] w fun e w' => e = .returned (.tuple #[.int .u64 ((fixR (bs s) n).1 : Nat), .int .i64 ((fixR (bs s) n).2.1 : Nat), .int .i64 (fixR (bs s) n).2.2]) ∧ w' = w := by
  obtain ⟨hn1, hn2⟩ := hn
  by_cases h1 : 1 ≤ n
  · by_cases h8 : n ≤ 8
    · by_cases h2 : (s.size : Int) < n
      · have HF := hide (fixR_short (l := bs s) ⟨h1, h8⟩ (by rw [bs_length]; exact h2))
        go_enter Tryd.func29, Tryd.ntmps29
        go_wp2
        go_ret3
        exact ⟨by rw [HF.out]; rfl, rfl⟩
      · have HF := hide (fixR_ok (l := bs s) ⟨h1, h8⟩ (by rw [bs_length]; exact h2))
        obtain ⟨m, rfl⟩ := Int.eq_ofNat_of_zero_le (show 0 ≤ n by omega)
        rw [show ((m : Int)).toNat = m by omega] at HF
        go_enter Tryd.func29, Tryd.ntmps29
        go_wp2
        go_loop [7, 8] (fun r i => ∃ j : Nat, j ≤ m ∧ i = .int .i64 j ∧ r = .int .u64 (jo 0 ((bs s).take j) : Nat)) (fun _ i => m - (intOf i).toNat)
        case atStart => exact ⟨0, Nat.zero_le _, rfl, rfl⟩
        case round =>
          obtain ⟨j, hj, rfl, rfl⟩ := hrel
          have HRl := jo_lt (x := 0) (by omega) ((bs s).take j) (fun b hb => bs_lt s b (List.mem_of_mem_take hb))
          by_cases hjm : j < m
          · have hjl : j < s.size := by omega
            have hbl := bs_lt s (s[j]'hjl).toNat (List.mem_of_getElem? (bs_get s j hjl))
            have HE : Hid (jo 0 ((bs s).take j) * 256 % 18446744073709551616 + (s[j]'hjl).toNat = jo 0 ((bs s).take (j + 1))) := by
              show _ = _
              rw [bs_take_succ hjl, jo_snoc]
            have HW := hide (jo_step HRl hbl)
            generalize jo 0 ((bs s).take j) = R at *
            go_wp2
            go_round
            case rel => exact ⟨j + 1, by omega, by go_num, by rw [← HE.out]; first | rw [HW.out] | (rw [← HW.out]; go_num) | go_num⟩
            case measure => simp [intOf]; omega
          · obtain rfl : j = m := by omega
            have HE : Hid (jo 0 ((bs s).take j) = num ((bs s).take j)) := jo_zero (fun b hb => bs_lt s b (List.mem_of_mem_take hb)) (by rw [List.length_take]; omega)
            generalize jo 0 ((bs s).take j) = R at *
            go_wp2
            go_ret3
            exact ⟨by rw [HF.out, ← HE.out]; rfl, rfl⟩
    · have HF := hide (fixR_arg (l := bs s) (n := n) (by omega))
      go_enter Tryd.func29, Tryd.ntmps29
      go_wp2
      go_ret3
      exact ⟨by rw [HF.out]; rfl, rfl⟩
  · have HF := hide (fixR_arg (l := bs s) (n := n) (by omega))
    go_enter Tryd.func29, Tryd.ntmps29
    go_wp2
    go_ret3
    exact ⟨by rw [HF.out]; rfl, rfl⟩
theorem hd_fin : ∀ b : Fin 256, ∀ k : Fin 9, 1 ≤ k.val → (hd (k.val + 1) ≤ b.val ↔ k.val + 1 ≤ lenOf b.val) := by decide +kernel
theorem hd_lenOf {b k : Nat} (hb : b < 256) (h1 : 1 ≤ k) (h8 : k ≤ 8) : hd (k + 1) ≤ b ↔ k + 1 ≤ lenOf b := hd_fin ⟨b, hb⟩ ⟨k, by omega⟩ h1
theorem drop1_take {s : ByteArray} {r : List Nat} {x : Nat} (h : bs s = x :: r) {j : Nat} (hj : j < s.size) (h1 : 1 ≤ j) : r.take j = r.take (j - 1) ++ [(s[j]'hj).toNat] := by
  have hg := bs_get s j hj
  rw [h] at hg
  obtain ⟨i, rfl⟩ : ∃ i, j = i + 1 := ⟨j - 1, by omega⟩
  rw [List.getElem?_cons_succ] at hg
  exact snoc_take _ _ _ hg

end Cr
end Go.Proofs.YtjopjffecnflkaaDoor
