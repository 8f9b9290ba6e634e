/- A part of the proofs about package wire: what its functions answer, call by call. -/
import Derived.Test.YtnpbgjafahhadaaDoorProg
import Derived.Lib.Strings
import Derived.Lib.Small
import Derived.Lib.Walk
import Derived.Lib.BitFns
namespace Go.Proofs.YtnpbgjafahhadaaDoor
namespace Cr

/-- The bits of a number, told by its byte at place k, if that is its highest one. -/
theorem top_bits {x : Nat} {q : Int} (k p : Nat) (hp : p = 2 ^ k) (hq : q = ((x / p : Nat) : Int)) (hs : x / p < 256) (hk : k = 0 ∨ p ≤ x) (hx : x < 18446744073709551616) : 0 ≤ Lib.len8 q ∧ Lib.len8 q ≤ 8 ∧ Lib.len8 q + (k : Int) = (Lib.bitLen x : Int) := by
  have he : Lib.bitLen x = k + Lib.bitLen (x / p) := by
    rcases hk with h0 | hge
    · subst h0
      have : p = 1 := hp
      rw [this, Nat.div_one, Nat.zero_add]
    · rw [hp] at hge ⊢
      exact Lib.bitLen_shift k x hge hx
  generalize x / p = d at *
  have h8 := Lib.len8_of q (by omega) (by omega)
  have hl := Lib.bitLen_le8' q (by omega) (by omega)
  have hn : q.toNat = d := by omega
  rw [hn] at h8 hl
  omega
set_option maxHeartbeats 4000000 in
set_option maxRecDepth 100000 in
theorem len64_any (x : Int) (w : World) (h0 : 0 ≤ x) (h1 : x ≤ 18446744073709551615) :
    Calls Tryd.prog 86 #[.int .u64 x] w fun e w' => e = .returned (.int .i64 (Lib.bitLen x.toNat)) ∧ w' = w := by
  go_enter Tryd.func86, Tryd.ntmps86
  go_wp2
  all_goals
    go_ret
    refine ⟨congrArg (fun z => Ending.returned (Value.int IntKind.i64 z)) ?_, rfl⟩
  all_goals first
    | (obtain ⟨b0, b8, be⟩ := top_bits (x := x.toNat) (q := x / 4294967296 / 65536 / 256 % 256) 56 72057594037927936 rfl (by omega) (by omega) (by omega) (by omega); omega)
    | (obtain ⟨b0, b8, be⟩ := top_bits (x := x.toNat) (q := x / 4294967296 / 65536 % 256) 48 281474976710656 rfl (by omega) (by omega) (by omega) (by omega); omega)
    | (obtain ⟨b0, b8, be⟩ := top_bits (x := x.toNat) (q := x / 4294967296 / 256 % 256) 40 1099511627776 rfl (by omega) (by omega) (by omega) (by omega); omega)
    | (obtain ⟨b0, b8, be⟩ := top_bits (x := x.toNat) (q := x / 4294967296 % 256) 32 4294967296 rfl (by omega) (by omega) (by omega) (by omega); omega)
    | (obtain ⟨b0, b8, be⟩ := top_bits (x := x.toNat) (q := x / 65536 / 256 % 256) 24 16777216 rfl (by omega) (by omega) (by omega) (by omega); omega)
    | (obtain ⟨b0, b8, be⟩ := top_bits (x := x.toNat) (q := x / 65536 % 256) 16 65536 rfl (by omega) (by omega) (by omega) (by omega); omega)
    | (obtain ⟨b0, b8, be⟩ := top_bits (x := x.toNat) (q := x / 256 % 256) 8 256 rfl (by omega) (by omega) (by omega) (by omega); omega)
    | (obtain ⟨b0, b8, be⟩ := top_bits (x := x.toNat) (q := x % 256) 0 1 rfl (by omega) (by omega) (by omega) (by omega); omega)

theorem len8_any (x : Int) (w : World) (h0 : 0 ≤ x) (h1 : x ≤ 255) :
    Calls Tryd.prog 102 #[.int .u8 x] w fun e w' => e = .returned (.int .i64 (Lib.bitLen x.toNat)) ∧ w' = w := by
  obtain ⟨b0, b8, be⟩ := top_bits (x := x.toNat) (q := x) 0 1 rfl (by omega) (by omega) (by omega) (by omega)
  go_enter Tryd.func102, Tryd.ntmps102
  go_wp2
  go_ret
  refine ⟨congrArg (fun z => Ending.returned (Value.int IntKind.i64 z)) ?_, rfl⟩
  omega

end Cr
end Go.Proofs.YtnpbgjafahhadaaDoor
