/- A part of the proofs about package crc: what its functions answer, call by call. -/
import Derived.Test.YtjopjffecnflkaaDoorWd
namespace Go.Proofs.YtjopjffecnflkaaDoor
open Go.RowKit
namespace Cr

theorem key_mul {k b : Nat} (hk : k < 18446744073709551616) (hb : b < 256) : ∃ X Y : Nat, bits .xor .u64 (k : Int) (b : Int) = (X : Int) ∧ IntKind.u64.wrap ((X : Int) * 1099511628211) = (Y : Int) ∧ Hid (Y = key1 k b) := by
  refine ⟨k ^^^ b, key1 k b, u64_xor_nat _ _ hk (by omega), ?_, rfl⟩
  rw [IntKind.wrap_u64]
  unfold key1
  omega
theorem low_byte (x j : Nat) : (x : Int) / 2 ^ (8 * j) % 256 = ((x / 256 ^ j % 256 : Nat) : Int) := by
  rw [show (256 : Nat) ^ j = 2 ^ (8 * j) by rw [Nat.pow_mul]]
  rw [Int.natCast_emod, Int.natCast_ediv, Int.natCast_pow]
  rfl
theorem keyL_take_succ {xs : List ByteArray} {k : Nat} {s : ByteArray} (hs : xs[k]? = some s) (K : Nat) : keyP (keyL K (xs.take k)) s = keyL K (xs.take (k + 1)) := by
  rw [snoc_take _ _ _ hs, keyL_append]; rfl
end Cr
end Go.Proofs.YtjopjffecnflkaaDoor
