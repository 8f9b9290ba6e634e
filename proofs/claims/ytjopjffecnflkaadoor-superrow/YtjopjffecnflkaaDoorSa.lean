/- A part of the proofs about package super: what its functions answer, call by call. -/
import Derived.Test.YtjopjffecnflkaaDoorWg
import Derived.Test.YtjopjffecnflkaaDoorXe
import Derived.Test.YtjopjffecnflkaaDoorXg
import Derived.Test.YtjopjffecnflkaaDoorLx
import Derived.Test.YtjopjffecnflkaaDoorXl
namespace Go.Proofs.YtjopjffecnflkaaDoor
open Go.RowKit
namespace Su
open Cr
/-- The block g holds these n bytes, and may be written. -/
structure Rowc (w : World) (g n : Nat) (f : Nat → Nat) : Prop where
  lt : g < w.heap.size
  cell : ∀ i, i < n → w.cell? ⟨g, i, none⟩ = some (.int .u8 (f i : Nat))
  frozen : ∀ i, i < n → w.frozen? ⟨g, i, none⟩ = false
theorem Rowc.later {w w' : World} {g n : Nat} {f : Nat → Nat} (h : Rowc w g n f) (hb : Below w.heap.size w w') : Rowc w' g n f :=
  ⟨Nat.lt_of_lt_of_le h.lt hb.size, fun i hi => (hb.cell h.lt).trans (h.cell i hi), fun i hi => (hb.frozen h.lt).trans (h.frozen i hi)⟩
theorem Rowc.set {w : World} {g n : Nat} {f : Nat → Nat} (h : Rowc w g n f) {k : Nat} (hk : k < n) (v : Nat) : Rowc (w.setCell ⟨g, k, none⟩ (.int .u8 (v : Nat))) g n (fun i => if i = k then v else f i) :=
  ⟨by simpa using h.lt, fun i hi => by
    by_cases e : i = k
    · subst e
      rw [if_pos rfl]
      exact World.cell?_setCell_same _ _ _ (h.cell i hi)
    · rw [if_neg e, World.cell?_setCell_other _ _ _ _ (fun e2 => e (by cases e2; rfl))]
      exact h.cell i hi, fun i hi => by rw [World.frozen?_setCell]; exact h.frozen i hi⟩
theorem Rowc.conv {w : World} {g n : Nat} {f : Nat → Nat} (h : Rowc w g n f) (cap : Nat) : (convert 47 9 (.slice (some ⟨g, 0, none⟩) n cap)).run Tryd.prog w = .ok (.string (str ((List.range n).map f))) w :=
  conv_bytes w g 0 n cap _ (by simp) fun i x hx => by
    have hi : i < n := by simpa using (List.getElem?_eq_some_iff.1 hx).1
    simp [hi] at hx
    subst hx
    rw [Nat.zero_add]
    exact h.cell i hi
theorem below_set {B : Nat} {a w : World} (h : Below B a w) {g : Nat} (hg : B ≤ g) (i : Nat) (u : Value) : Below B a (w.setCell ⟨g, i, none⟩ u) := h.setCell hg u
/-- The last k of m bytes of a number, from off on. -/
def pF (f : Nat → Nat) (off m x k : Nat) : Nat → Nat := fun i => if off + (m - k) ≤ i ∧ i < off + m then x / 256 ^ (off + m - 1 - i) % 256 else f i
theorem pF_zero (f : Nat → Nat) (off m x : Nat) : pF f off m x 0 = f := by
  funext i
  unfold pF
  rw [if_neg (by omega)]
theorem pF_step (f : Nat → Nat) (off m x : Nat) {k : Nat} (hk : k < m) : (fun i => if i = off + (m - 1 - k) then x / 256 ^ k % 256 else pF f off m x k i) = pF f off m x (k + 1) := by
  funext i
  unfold pF
  by_cases h : i = off + (m - 1 - k)
  · rw [if_pos h, if_pos (by omega), show off + m - 1 - i = k by omega]
  · rw [if_neg h]
    by_cases h2 : off + (m - k) ≤ i ∧ i < off + m
    · rw [if_pos h2, if_pos (by omega)]
    · rw [if_neg h2, if_neg (by omega)]

theorem bx64 : bits BinOp.xor IntKind.u64 IntKind.u64.max 0 = 18446744073709551615 := by decide +kernel
theorem bl64 : Lib.bitLen (18446744073709551615 : Int).toNat = 64 := by decide +kernel
theorem size64_any (w : World) : Calls Tryd.prog 36 #[] w fun e w' => e = .returned (.int .i64 8) ∧ w' = w := by
  have hc := len64_any 18446744073709551615 w (by decide) (by decide)
  rw [bl64] at hc
  go_enter Tryd.func36, Tryd.ntmps36
  go_wp2_with fail
  rw [bx64]
  refine hc.mono ?_
  rintro e w' ⟨rfl, rfl⟩
  go_wp2
  go_ret
  exact ⟨rfl, rfl⟩

theorem bx32 : bits BinOp.xor IntKind.u32 IntKind.u32.max 0 = 4294967295 := by decide +kernel
theorem bl32 : Lib.bitLen (4294967295 : Int).toNat = 32 := by decide +kernel
theorem size32_any (w : World) : Calls Tryd.prog 37 #[] w fun e w' => e = .returned (.int .i64 4) ∧ w' = w := by
  have hc := len64_any 4294967295 w (by decide) (by decide)
  rw [bl32] at hc
  go_enter Tryd.func37, Tryd.ntmps37
  go_wp2_with fail
  rw [bx32]
  refine hc.mono ?_
  rintro e w' ⟨rfl, rfl⟩
  go_wp2
  go_ret
  exact ⟨rfl, rfl⟩

set_option maxHeartbeats 1000000 in
theorem put64_any (x : Nat) (hx : x < 18446744073709551616) (g off m n : Nat) (f : Nat → Nat) (hm : 8 ≤ m) (hn : off + m = n) (_hn2 : n ≤ 1000) (B : Nat) (hB : B ≤ g) (w : World) (R : Rowc w g n f) :
    Calls Tryd.prog 31 #[.slice (some ⟨g, off, none⟩) m m, .int .u64 (x : Nat)] w fun e w' => e = .returned (.tuple #[]) ∧ Rowc w' g n (pF f off 8 x 8) ∧ Below B w w' := by
  have hc := size64_any w
  go_enter Tryd.func31, Tryd.ntmps31
  go_wp2_with fail
  refine hc.mono ?_
  clear hc
  rintro e w0 ⟨rfl, hw⟩
  replace hw := hw.symm
  subst hw
  go_wp2
  go_loopw [1, 4] (fun y i wr => ∃ k : Nat, k ≤ 8 ∧ i = .int .i64 (7 - (k : Int)) ∧ y = .int .u64 (x / 256 ^ k : Nat) ∧ Rowc wr g n (pF f off 8 x k) ∧ Below B w wr) (fun _ i _ => (intOf i + 1).toNat)
  case atStart => exact ⟨0, Nat.zero_le _, by go_num, by simp, by rw [pF_zero]; exact R, Below.refl _ _⟩
  case round =>
    obtain ⟨k, hk, rfl, rfl, r1, hbr⟩ := hrel
    by_cases hlt : k < 8
    · have HD := hide (div256 x k)
      have HS := hide (pF_step f off 8 x (k := k) hlt)
      have hxl : x / 256 ^ k < 18446744073709551616 := Nat.lt_of_le_of_lt (Nat.div_le_self _ _) hx
      have hat : off + (7 - k) < n := by omega
      obtain ⟨j, hj⟩ : ∃ j, j = 7 - k := ⟨_, rfl⟩
      rw [← hj] at HS hat
      have hji : (7 - (k : Int)) = (j : Int) := by omega
      have c1 := r1.cell _ hat
      have f1 := r1.frozen _ hat
      have R3 := hide (r1.set hat (x / 256 ^ k % 256))
      rw [HS.out] at R3
      have B3 := hide (below_set hbr hB (off + j) (.int .u8 ((x / 256 ^ k % 256 : Nat) : Int)))
      clear HS r1 hbr
      generalize pF f off 8 x k (off + j) = old at *
      generalize x / 256 ^ k = X at *
      rw [show ((X % 256 : Nat) : Int) = (X : Int) % 256 by omega] at R3 B3
      rw [hji]
      have hjm : j < m := by omega
      have hjk : j + k = 7 := by omega
      clear hj hji
      go_wp2
      go_roundw
      case rel => exact ⟨k + 1, by omega, by go_num, by rw [← HD.out]; go_num, R3.out, B3.out⟩
      case measure => simp [intOf]
    · obtain rfl : k = 8 := by omega
      rw [show (7 - ((8 : Nat) : Int)) = -1 from rfl]
      go_wp2
      exact bodyPost_end (results_none (by kernel_rfl) _ _ _) rfl ⟨rfl, r1, hbr⟩

set_option maxHeartbeats 1000000 in
theorem put32_any (x : Nat) (hx : x < 4294967296) (g off m n : Nat) (f : Nat → Nat) (hm : 4 ≤ m) (hn : off + m = n) (_hn2 : n ≤ 1000) (B : Nat) (hB : B ≤ g) (w : World) (R : Rowc w g n f) :
    Calls Tryd.prog 32 #[.slice (some ⟨g, off, none⟩) m m, .int .u32 (x : Nat)] w fun e w' => e = .returned (.tuple #[]) ∧ Rowc w' g n (pF f off 4 x 4) ∧ Below B w w' := by
  have hc := size32_any w
  go_enter Tryd.func32, Tryd.ntmps32
  go_wp2_with fail
  refine hc.mono ?_
  clear hc
  rintro e w0 ⟨rfl, hw⟩
  replace hw := hw.symm
  subst hw
  go_wp2
  go_loopw [1, 4] (fun y i wr => ∃ k : Nat, k ≤ 4 ∧ i = .int .i64 (3 - (k : Int)) ∧ y = .int .u32 (x / 256 ^ k : Nat) ∧ Rowc wr g n (pF f off 4 x k) ∧ Below B w wr) (fun _ i _ => (intOf i + 1).toNat)
  case atStart => exact ⟨0, Nat.zero_le _, by go_num, by simp, by rw [pF_zero]; exact R, Below.refl _ _⟩
  case round =>
    obtain ⟨k, hk, rfl, rfl, r1, hbr⟩ := hrel
    by_cases hlt : k < 4
    · have HD := hide (div256 x k)
      have HS := hide (pF_step f off 4 x (k := k) hlt)
      have hxl : x / 256 ^ k < 4294967296 := Nat.lt_of_le_of_lt (Nat.div_le_self _ _) hx
      have hat : off + (3 - k) < n := by omega
      obtain ⟨j, hj⟩ : ∃ j, j = 3 - k := ⟨_, rfl⟩
      rw [← hj] at HS hat
      have hji : (3 - (k : Int)) = (j : Int) := by omega
      have c1 := r1.cell _ hat
      have f1 := r1.frozen _ hat
      have R3 := hide (r1.set hat (x / 256 ^ k % 256))
      rw [HS.out] at R3
      have B3 := hide (below_set hbr hB (off + j) (.int .u8 ((x / 256 ^ k % 256 : Nat) : Int)))
      clear HS r1 hbr
      generalize pF f off 4 x k (off + j) = old at *
      generalize x / 256 ^ k = X at *
      rw [show ((X % 256 : Nat) : Int) = (X : Int) % 256 by omega] at R3 B3
      rw [hji]
      have hjm : j < m := by omega
      have hjk : j + k = 3 := by omega
      clear hj hji
      go_wp2
      go_roundw
      case rel => exact ⟨k + 1, by omega, by go_num, by rw [← HD.out]; go_num, R3.out, B3.out⟩
      case measure => simp [intOf]
    · obtain rfl : k = 4 := by omega
      rw [show (3 - ((4 : Nat) : Int)) = -1 from rfl]
      go_wp2
      exact bodyPost_end (results_none (by kernel_rfl) _ _ _) rfl ⟨rfl, r1, hbr⟩
end Su
end Go.Proofs.YtjopjffecnflkaaDoor
