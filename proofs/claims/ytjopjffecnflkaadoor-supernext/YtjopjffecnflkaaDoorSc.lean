/- A part of the proofs about package super: what its functions answer, call by call. -/
import Derived.Test.YtjopjffecnflkaaDoorSb
namespace Go.Proofs.YtjopjffecnflkaaDoor
open Go.RowKit
namespace Su
open Cr
def I64 (a : Int) : Prop := -9223372036854775808 ≤ a ∧ a ≤ 9223372036854775807
/-- No error, or ErrArg. -/
def erB (b : Bool) : Int := if b then 0 else 1
/-- Which rings may be. -/
def mayR (s h t : Int) : Bool := decide (1 ≤ s ∧ s ≤ 65536 ∧ 0 ≤ t ∧ t ≤ h ∧ h < 1099511627776 ∧ h - t ≤ s)
theorem mayR_get {s h t : Int} (hm : mayR s h t = true) : 1 ≤ s ∧ s ≤ 65536 ∧ 0 ≤ t ∧ t ≤ h ∧ h < 1099511627776 ∧ h - t ≤ s := of_decide_eq_true hm
def vR (s h t : Int) : Value := .agg #[.int .i64 s, .int .i64 h, .int .i64 t]
set_option maxRecDepth 100000 in
set_option maxHeartbeats 2000000 in
theorem check_any (s h t : Int) (hh : I64 h) (ht : I64 t) (w : World) : Calls Tryd.prog 23 #[.agg #[.int .i64 s, .int .i64 h, .int .i64 t]] w fun e w' => e = .returned (.int .i64 (erB (mayR s h t))) ∧ Below w.heap.size w w' := by
  obtain ⟨h1, h2⟩ := hh
  obtain ⟨t1, t2⟩ := ht
  have hb := hide (below_alloc w (.cells #[.int .i64 s, .int .i64 h, .int .i64 t] 57))
  by_cases g1 : s < 1
  · have e1 : mayR s h t = false := by unfold mayR; exact decide_eq_false (by omega)
    rw [e1]
    clear e1
    (try (have hd : decide (h - t ≤ s) = false := by first | exact decide_eq_true (by omega) | exact decide_eq_false (by omega)))
    go_enter Tryd.func23, Tryd.ntmps23
    go_wp2
    go_ret
    exact ⟨rfl, hb.out⟩
  · by_cases g2 : 65536 < s
    · have e1 : mayR s h t = false := by unfold mayR; exact decide_eq_false (by omega)
      rw [e1]
      clear e1
      (try (have hd : decide (h - t ≤ s) = false := by first | exact decide_eq_true (by omega) | exact decide_eq_false (by omega)))
      go_enter Tryd.func23, Tryd.ntmps23
      go_wp2
      go_ret
      exact ⟨rfl, hb.out⟩
    · by_cases g3 : t < 0
      · have e1 : mayR s h t = false := by unfold mayR; exact decide_eq_false (by omega)
        rw [e1]
        clear e1
        (try (have hd : decide (h - t ≤ s) = false := by first | exact decide_eq_true (by omega) | exact decide_eq_false (by omega)))
        go_enter Tryd.func23, Tryd.ntmps23
        go_wp2
        go_ret
        exact ⟨rfl, hb.out⟩
      · by_cases g4 : h < t
        · have e1 : mayR s h t = false := by unfold mayR; exact decide_eq_false (by omega)
          rw [e1]
          clear e1
          (try (have hd : decide (h - t ≤ s) = false := by first | exact decide_eq_true (by omega) | exact decide_eq_false (by omega)))
          go_enter Tryd.func23, Tryd.ntmps23
          go_wp2
          go_ret
          exact ⟨rfl, hb.out⟩
        · by_cases g5 : 1099511627776 ≤ h
          · have e1 : mayR s h t = false := by unfold mayR; exact decide_eq_false (by omega)
            rw [e1]
            clear e1
            (try (have hd : decide (h - t ≤ s) = false := by first | exact decide_eq_true (by omega) | exact decide_eq_false (by omega)))
            go_enter Tryd.func23, Tryd.ntmps23
            go_wp2
            go_ret
            exact ⟨rfl, hb.out⟩
          · by_cases g6 : s < h - t
            · have e1 : mayR s h t = false := by unfold mayR; exact decide_eq_false (by omega)
              rw [e1]
              clear e1
              (try (have hd : decide (h - t ≤ s) = false := by first | exact decide_eq_true (by omega) | exact decide_eq_false (by omega)))
              go_enter Tryd.func23, Tryd.ntmps23
              go_wp2
              go_ret
              exact ⟨rfl, hb.out⟩
            · have e1 : mayR s h t = true := by unfold mayR; exact decide_eq_true (by omega)
              rw [e1]
              clear e1
              (try (have hd : decide (h - t ≤ s) = true := by first | exact decide_eq_true (by omega) | exact decide_eq_false (by omega)))
              go_enter Tryd.func23, Tryd.ntmps23
              go_wp2
              go_ret
              exact ⟨rfl, hb.out⟩
set_option maxRecDepth 100000 in
set_option maxHeartbeats 2000000 in
theorem refmay_any (s h t : Int) (hh : I64 h) (ht : I64 t) (w : World) : Calls Tryd.prog 21 #[.int .i64 s, .int .i64 h, .int .i64 t] w fun e w' => e = .returned (.bool (mayR s h t)) ∧ Below w.heap.size w w' := by
  obtain ⟨h1, h2⟩ := hh
  obtain ⟨t1, t2⟩ := ht
  by_cases g1 : s < 1
  · have e1 : mayR s h t = false := by unfold mayR; exact decide_eq_false (by omega)
    rw [e1]
    clear e1
    (try (have hd : decide (h - t ≤ s) = false := by first | exact decide_eq_true (by omega) | exact decide_eq_false (by omega)))
    go_enter Tryd.func21, Tryd.ntmps21
    go_wp2
    go_ret
    exact ⟨rfl, Below.refl _ _⟩
  · by_cases g2 : 65536 < s
    · have e1 : mayR s h t = false := by unfold mayR; exact decide_eq_false (by omega)
      rw [e1]
      clear e1
      (try (have hd : decide (h - t ≤ s) = false := by first | exact decide_eq_true (by omega) | exact decide_eq_false (by omega)))
      go_enter Tryd.func21, Tryd.ntmps21
      go_wp2
      go_ret
      exact ⟨rfl, Below.refl _ _⟩
    · by_cases g3 : t < 0
      · have e1 : mayR s h t = false := by unfold mayR; exact decide_eq_false (by omega)
        rw [e1]
        clear e1
        (try (have hd : decide (h - t ≤ s) = false := by first | exact decide_eq_true (by omega) | exact decide_eq_false (by omega)))
        go_enter Tryd.func21, Tryd.ntmps21
        go_wp2
        go_ret
        exact ⟨rfl, Below.refl _ _⟩
      · by_cases g4 : h < t
        · have e1 : mayR s h t = false := by unfold mayR; exact decide_eq_false (by omega)
          rw [e1]
          clear e1
          (try (have hd : decide (h - t ≤ s) = false := by first | exact decide_eq_true (by omega) | exact decide_eq_false (by omega)))
          go_enter Tryd.func21, Tryd.ntmps21
          go_wp2
          go_ret
          exact ⟨rfl, Below.refl _ _⟩
        · by_cases g5 : 1099511627776 ≤ h
          · have e1 : mayR s h t = false := by unfold mayR; exact decide_eq_false (by omega)
            rw [e1]
            clear e1
            (try (have hd : decide (h - t ≤ s) = false := by first | exact decide_eq_true (by omega) | exact decide_eq_false (by omega)))
            go_enter Tryd.func21, Tryd.ntmps21
            go_wp2
            go_ret
            exact ⟨rfl, Below.refl _ _⟩
          · by_cases g6 : s < h - t
            · have e1 : mayR s h t = false := by unfold mayR; exact decide_eq_false (by omega)
              rw [e1]
              clear e1
              (try (have hd : decide (h - t ≤ s) = false := by first | exact decide_eq_true (by omega) | exact decide_eq_false (by omega)))
              go_enter Tryd.func21, Tryd.ntmps21
              go_wp2
              go_ret
              exact ⟨rfl, Below.refl _ _⟩
            · have e1 : mayR s h t = true := by unfold mayR; exact decide_eq_true (by omega)
              rw [e1]
              clear e1
              (try (have hd : decide (h - t ≤ s) = true := by first | exact decide_eq_true (by omega) | exact decide_eq_false (by omega)))
              go_enter Tryd.func21, Tryd.ntmps21
              go_wp2
              go_ret
              exact ⟨rfl, Below.refl _ _⟩
/-- A superblock. -/
structure Sb where
  key : Nat
  ep : Int
  ser : Int
  siz : Int
  tail : Int
  num : Int
def Sb.val (s : Sb) : Value := .agg #[.int .u64 (s.key : Nat), .int .i64 s.ep, .int .i64 s.ser, .int .i64 s.siz, .int .i64 s.tail, .int .i64 s.num]
/-- Its numbers are numbers of their kinds. -/
structure Sb.Fit (s : Sb) : Prop where
  k : s.key < 18446744073709551616
  e : I64 s.ep
  r : I64 s.ser
  z : I64 s.siz
  t : I64 s.tail
  n : I64 s.num
/-- What is wrong with one. -/
def chk (s : Sb) : Int := if s.ep < 0 ∨ 4294967296 ≤ s.ep ∨ s.ser < 0 ∨ 1099511627776 ≤ s.ser ∨ s.num < 0 ∨ 1099511627776 ≤ s.num then 31 else erB (mayR s.siz s.tail s.tail)
theorem chk_ok {s : Sb} (h : chk s = 0) : 0 ≤ s.ep ∧ s.ep < 4294967296 ∧ 0 ≤ s.ser ∧ s.ser < 1099511627776 ∧ 0 ≤ s.num ∧ s.num < 1099511627776 ∧ 1 ≤ s.siz ∧ s.siz ≤ 65536 ∧ 0 ≤ s.tail ∧ s.tail < 1099511627776 := by
  unfold chk at h
  by_cases h1 : s.ep < 0 ∨ 4294967296 ≤ s.ep ∨ s.ser < 0 ∨ 1099511627776 ≤ s.ser ∨ s.num < 0 ∨ 1099511627776 ≤ s.num
  · rw [if_pos h1] at h; omega
  · rw [if_neg h1] at h
    cases hm : mayR s.siz s.tail s.tail with
    | false => rw [hm] at h; simp [erB] at h
    | true => have := mayR_get hm; omega
theorem chk_is {s : Sb} (h : 0 ≤ s.ep ∧ s.ep < 4294967296 ∧ 0 ≤ s.ser ∧ s.ser < 1099511627776 ∧ 0 ≤ s.num ∧ s.num < 1099511627776 ∧ 1 ≤ s.siz ∧ s.siz ≤ 65536 ∧ 0 ≤ s.tail ∧ s.tail < 1099511627776) : chk s = 0 := by
  unfold chk
  rw [if_neg (by omega), show mayR s.siz s.tail s.tail = true from decide_eq_true (by omega)]
  rfl
theorem chk_cases (s : Sb) : chk s = 0 ∨ chk s = 1 ∨ chk s = 31 := by
  unfold chk
  split
  · exact .inr (.inr rfl)
  · cases mayR s.siz s.tail s.tail <;> simp [erB]

set_option maxRecDepth 100000 in
set_option maxHeartbeats 2000000 in
theorem schk_any (s : Sb) (hs : s.Fit) (w : World) : Calls Tryd.prog 12 #[s.val] w fun e w' => e = .returned (.int .i64 (chk s)) ∧ Below w.heap.size w w' := by
  obtain ⟨key, ep, ser, siz, tail, num⟩ := s
  obtain ⟨hk, he, hr, hz, ht, hn⟩ := hs
  simp only at hk he hr hz ht hn
  simp only [Sb.val]
  by_cases g1 : ep < 0
  · have e1 : chk ⟨key, ep, ser, siz, tail, num⟩ = 31 := by unfold chk; exact if_pos (by simp only; omega)
    rw [e1]
    clear e1
    go_enter Tryd.func12, Tryd.ntmps12
    go_wp2
    go_ret
    exact ⟨rfl, below_alloc _ _⟩
  · by_cases g2 : 4294967296 ≤ ep
    · have e1 : chk ⟨key, ep, ser, siz, tail, num⟩ = 31 := by unfold chk; exact if_pos (by simp only; omega)
      rw [e1]
      clear e1
      go_enter Tryd.func12, Tryd.ntmps12
      go_wp2
      go_ret
      exact ⟨rfl, below_alloc _ _⟩
    · by_cases g3 : ser < 0
      · have e1 : chk ⟨key, ep, ser, siz, tail, num⟩ = 31 := by unfold chk; exact if_pos (by simp only; omega)
        rw [e1]
        clear e1
        go_enter Tryd.func12, Tryd.ntmps12
        go_wp2
        go_ret
        exact ⟨rfl, below_alloc _ _⟩
      · by_cases g4 : 1099511627776 ≤ ser
        · have e1 : chk ⟨key, ep, ser, siz, tail, num⟩ = 31 := by unfold chk; exact if_pos (by simp only; omega)
          rw [e1]
          clear e1
          go_enter Tryd.func12, Tryd.ntmps12
          go_wp2
          go_ret
          exact ⟨rfl, below_alloc _ _⟩
        · by_cases g5 : num < 0
          · have e1 : chk ⟨key, ep, ser, siz, tail, num⟩ = 31 := by unfold chk; exact if_pos (by simp only; omega)
            rw [e1]
            clear e1
            go_enter Tryd.func12, Tryd.ntmps12
            go_wp2
            go_ret
            exact ⟨rfl, below_alloc _ _⟩
          · by_cases g6 : 1099511627776 ≤ num
            · have e1 : chk ⟨key, ep, ser, siz, tail, num⟩ = 31 := by unfold chk; exact if_pos (by simp only; omega)
              rw [e1]
              clear e1
              go_enter Tryd.func12, Tryd.ntmps12
              go_wp2
              go_ret
              exact ⟨rfl, below_alloc _ _⟩
            · have e1 : chk ⟨key, ep, ser, siz, tail, num⟩ = erB (mayR siz tail tail) := by unfold chk; exact if_neg (by simp only; omega)
              rw [e1]
              have hc := fun w => check_any siz tail tail ht ht w
              generalize erB (mayR siz tail tail) = X at *
              go_enter Tryd.func12, Tryd.ntmps12
              go_wp2_with fail
              refine (hc _).mono ?_
              rintro e w' ⟨rfl, hb⟩
              go_wp2
              go_ret
              exact ⟨rfl, (below_alloc _ _).trans (hb.mono (by simp))⟩

set_option maxRecDepth 100000 in
set_option maxHeartbeats 2000000 in
theorem rchk_any (s : Sb) (hs : s.Fit) (w : World) : Calls Tryd.prog 9 #[s.val] w fun e w' => e = .returned (.int .i64 (chk s)) ∧ Below w.heap.size w w' := by
  obtain ⟨key, ep, ser, siz, tail, num⟩ := s
  obtain ⟨hk, he, hr, hz, ht, hn⟩ := hs
  simp only at hk he hr hz ht hn
  simp only [Sb.val]
  by_cases g1 : ep < 0
  · have e1 : chk ⟨key, ep, ser, siz, tail, num⟩ = 31 := by unfold chk; exact if_pos (by simp only; omega)
    rw [e1]
    clear e1
    go_enter Tryd.func9, Tryd.ntmps9
    go_wp2
    go_ret
    exact ⟨rfl, below_alloc _ _⟩
  · by_cases g2 : 4294967296 ≤ ep
    · have e1 : chk ⟨key, ep, ser, siz, tail, num⟩ = 31 := by unfold chk; exact if_pos (by simp only; omega)
      rw [e1]
      clear e1
      go_enter Tryd.func9, Tryd.ntmps9
      go_wp2
      go_ret
      exact ⟨rfl, below_alloc _ _⟩
    · by_cases g3 : ser < 0
      · have e1 : chk ⟨key, ep, ser, siz, tail, num⟩ = 31 := by unfold chk; exact if_pos (by simp only; omega)
        rw [e1]
        clear e1
        go_enter Tryd.func9, Tryd.ntmps9
        go_wp2
        go_ret
        exact ⟨rfl, below_alloc _ _⟩
      · by_cases g4 : 1099511627776 ≤ ser
        · have e1 : chk ⟨key, ep, ser, siz, tail, num⟩ = 31 := by unfold chk; exact if_pos (by simp only; omega)
          rw [e1]
          clear e1
          go_enter Tryd.func9, Tryd.ntmps9
          go_wp2
          go_ret
          exact ⟨rfl, below_alloc _ _⟩
        · by_cases g5 : num < 0
          · have e1 : chk ⟨key, ep, ser, siz, tail, num⟩ = 31 := by unfold chk; exact if_pos (by simp only; omega)
            rw [e1]
            clear e1
            go_enter Tryd.func9, Tryd.ntmps9
            go_wp2
            go_ret
            exact ⟨rfl, below_alloc _ _⟩
          · by_cases g6 : 1099511627776 ≤ num
            · have e1 : chk ⟨key, ep, ser, siz, tail, num⟩ = 31 := by unfold chk; exact if_pos (by simp only; omega)
              rw [e1]
              clear e1
              go_enter Tryd.func9, Tryd.ntmps9
              go_wp2
              go_ret
              exact ⟨rfl, below_alloc _ _⟩
            · have e1 : chk ⟨key, ep, ser, siz, tail, num⟩ = erB (mayR siz tail tail) := by unfold chk; exact if_neg (by simp only; omega)
              rw [e1]
              have hc := fun w => refmay_any siz tail tail ht ht w
              cases hm : mayR siz tail tail with
              | false =>
                rw [hm] at hc
                go_enter Tryd.func9, Tryd.ntmps9
                go_wp2_with fail
                refine (hc _).mono ?_
                rintro e w' ⟨rfl, hb⟩
                go_wp2
                go_ret
                exact ⟨rfl, (below_alloc _ _).trans (hb.mono (by simp))⟩
              | true =>
                rw [hm] at hc
                go_enter Tryd.func9, Tryd.ntmps9
                go_wp2_with fail
                refine (hc _).mono ?_
                rintro e w' ⟨rfl, hb⟩
                go_wp2
                go_ret
                exact ⟨rfl, (below_alloc _ _).trans (hb.mono (by simp))⟩

theorem i64_and1 (n : Int) : bits BinOp.and IntKind.i64 n 1 = n % 2 := by
  have h1 : (BitVec.ofInt 64 1).toNat = 2 ^ 1 - 1 := by decide
  have key : (BitVec.ofInt 64 n &&& BitVec.ofInt 64 1).toNat = (n % ((2 ^ 64 : Nat) : Int)).toNat % 2 ^ 1 := by
    rw [BitVec.toNat_and, BitVec.toNat_ofInt, h1, Nat.and_two_pow_sub_one_eq_mod]
  show IntKind.i64.wrap ((BitVec.ofInt 64 n &&& BitVec.ofInt 64 1).toNat : Nat) = n % 2
  rw [key, IntKind.wrap_i64]
  omega
theorem slot_any (s : Sb) (w : World) : Calls Tryd.prog 15 #[s.val] w fun e w' => e = .returned (.int .i64 (s.ser % 2)) ∧ Below w.heap.size w w' := by
  obtain ⟨key, ep, ser, siz, tail, num⟩ := s
  have ha := i64_and1 ser
  simp only [Sb.val]
  go_enter Tryd.func15, Tryd.ntmps15
  go_wp2
  go_ret
  exact ⟨rfl, below_alloc _ _⟩
end Su
end Go.Proofs.YtjopjffecnflkaaDoor
