/- What sectors are: plain numbers and strings. -/
import Derived.Test.YtjopjffecnflkaaDoorSk
import Derived.Test.YtjopjffecnflkaaDoorXz
namespace Go.Proofs.YtjopjffecnflkaaDoor
open Go.RowKit
namespace Su
open Cr
theorem bs_drop (s : ByteArray) (a : Nat) (h : s.size = 64) : bs (s.extract a 64) = (bs s).drop a := by
  simp only [bs, ByteArray.data_extract, Array.toList_extract, List.extract_eq_take_drop]
  rw [List.take_of_length_le (by
    rw [List.length_drop, Array.length_toList]
    have : s.data.size = s.size := rfl
    omega)]
  rw [List.map_drop]
theorem nAt_bs (s : ByteArray) (a k : Nat) (h : s.size = 64) : nAt s a k = num (((bs s).drop a).take k) := by rw [nAt, bs_drop s a h]
theorem sec_size (s : Sb) : s.sec.size = 64 := by unfold Sb.sec; rw [sealOf_size, str_size, Sb.bytes, len_sec]
theorem sec_bs (s : Sb) : bs s.sec = s.bytes ++ four (more 0 s.bytes) := by
  unfold Sb.sec
  have h : bs (str s.bytes) = s.bytes := bs_str (secN_lt s.key s.ep.toNat s.siz.toNat s.ser.toNat s.tail.toNat s.num.toNat)
  rw [bs_sealOf, h]
theorem at_key (s : Sb) (r : List Nat) : ((s.bytes ++ r).drop 4).take 8 = be (s.key) 8 := by
  rw [Sb.bytes]
  simp [secN, be]
theorem at_ep (s : Sb) (r : List Nat) : ((s.bytes ++ r).drop 12).take 4 = be (s.ep.toNat) 4 := by
  rw [Sb.bytes]
  simp [secN, be]
theorem at_siz (s : Sb) (r : List Nat) : ((s.bytes ++ r).drop 16).take 4 = be (s.siz.toNat) 4 := by
  rw [Sb.bytes]
  simp [secN, be]
theorem at_ser (s : Sb) (r : List Nat) : ((s.bytes ++ r).drop 20).take 8 = be (s.ser.toNat) 8 := by
  rw [Sb.bytes]
  simp [secN, be]
theorem at_tail (s : Sb) (r : List Nat) : ((s.bytes ++ r).drop 28).take 8 = be (s.tail.toNat) 8 := by
  rw [Sb.bytes]
  simp [secN, be]
theorem at_num (s : Sb) (r : List Nat) : ((s.bytes ++ r).drop 36).take 8 = be (s.num.toNat) 8 := by
  rw [Sb.bytes]
  simp [secN, be]
theorem at_ser2 (s : Sb) (r : List Nat) : ((s.bytes ++ r).drop 52).take 8 = be (s.ser.toNat) 8 := by
  rw [Sb.bytes]
  simp [secN, be]
theorem wrap_small {x : Nat} (h : x < 1099511627776) : wrap64 (x : Int) = x := by unfold wrap64; omega
theorem mod_small {x y : Nat} (h : x < y) : x % y = x := Nat.mod_eq_of_lt h
/-- What is encoded is read. -/
theorem read_sec {s : Sb} (hs : s.Fit) (hc : chk s = 0) : readS s.sec = s := by
  have z := sec_size s
  have e := sec_bs s
  have hk := hs.k
  have n0 := nAt_bs s.sec 4 8 z
  have n1 := nAt_bs s.sec 12 4 z
  have n2 := nAt_bs s.sec 16 4 z
  have n3 := nAt_bs s.sec 20 8 z
  have n4 := nAt_bs s.sec 28 8 z
  have n5 := nAt_bs s.sec 36 8 z
  rw [e, at_key, num_be] at n0
  rw [e, at_ep, num_be] at n1
  rw [e, at_siz, num_be] at n2
  rw [e, at_ser, num_be] at n3
  rw [e, at_tail, num_be] at n4
  rw [e, at_num, num_be] at n5
  unfold readS
  rw [n0, n1, n2, n3, n4, n5]
  clear n0 n1 n2 n3 n4 n5 e z
  obtain ⟨key, ep, ser, siz, tail, num⟩ := s
  obtain ⟨e1, e2, r1, r2, m1, m2, z1, z2, t1, t2⟩ := chk_ok hc
  simp only at hk e1 e2 r1 r2 m1 m2 z1 z2 t1 t2
  obtain ⟨ep, rfl⟩ := Int.eq_ofNat_of_zero_le e1
  obtain ⟨ser, rfl⟩ := Int.eq_ofNat_of_zero_le r1
  obtain ⟨siz, rfl⟩ := Int.eq_ofNat_of_zero_le (show 0 ≤ siz by omega)
  obtain ⟨tail, rfl⟩ := Int.eq_ofNat_of_zero_le t1
  obtain ⟨num, rfl⟩ := Int.eq_ofNat_of_zero_le m1
  simp only [Int.toNat_natCast]
  rw [mod_small (x := key) (y := 256 ^ 8) hk, mod_small (x := ep) (y := 256 ^ 4) (show ep < 4294967296 by omega), mod_small (x := ser) (y := 256 ^ 8) (show ser < 18446744073709551616 by omega), mod_small (x := siz) (y := 256 ^ 4) (show siz < 4294967296 by omega), mod_small (x := tail) (y := 256 ^ 8) (show tail < 18446744073709551616 by omega), mod_small (x := num) (y := 256 ^ 8) (show num < 18446744073709551616 by omega), wrap_small (x := ser) (by omega), wrap_small (x := tail) (by omega), wrap_small (x := num) (by omega)]
theorem dec_sec {s : Sb} (hs : s.Fit) (hc : chk s = 0) : decS s.sec = (s, 0) := by
  unfold decS
  have ho : opened s.sec = (str s.bytes, 0) := opened_sealed _
  rw [if_neg (by rw [sec_size]; omega), ho, if_neg (by simp), read_sec hs hc, if_pos ⟨hc, rfl⟩]
/-- A sector whose two Serials are different is none. -/
theorem dec_torn {t : ByteArray} (h : num (((bs t).drop 20).take 8) ≠ num (((bs t).drop 52).take 8)) : ¬ (decS t).2 = 0 := by
  intro h0
  obtain ⟨-, hc, z, -, he⟩ := dec_ok h0
  have e := sec_bs (readS t)
  rw [he] at e
  rw [e, at_ser, at_ser2] at h
  exact h rfl
/-- A sector of which one byte is turned is none. -/
theorem dec_turned {s : Sb} {p x : Nat} (hp : p < 64) (hx : x < 256) (h0 : x ≠ 0) : decS (str ((List.range 64).map (turnd (bs s.sec) (fun _ => x) p 1))) = (Sb.zero, 13) := by
  have z := sec_size s
  have ht : tn (fun _ => x) 1 = true := by
    have : ((x : Int) != 0) = true := by simpa using h0
    simp [tn, List.range_succ, h0]
  have ho := opened_turned (s := str s.bytes) (t := fun _ => x) (p := p) (k := 1) (fun _ => hx) (by show p + 1 ≤ s.sec.size; omega) (by omega) ht
  have e : sealOf (str s.bytes) = s.sec := rfl
  rw [e, z] at ho
  unfold decS
  rw [if_neg (by rw [str_size]; simp), ho, if_pos (by simp)]
end Su
end Go.Proofs.YtjopjffecnflkaaDoor
