/- How many sectors a head has. -/
import Derived.Test.YtnpbgjafahhadaaDoorRo
namespace Go.Proofs.YtnpbgjafahhadaaDoor
open Go.RowKit
namespace Re
open Cr
theorem rd3_kind (l : List Nat) (hb : ∀ b ∈ l, b < 256) : (rd3 l).1.2.2 = 0 ∨ (rd3 l).1.2.2 = 1 ∨ (rd3 l).1.2.2 = 2 ∨ (rd3 l).1.2.2 = 3 := by
  unfold rd3
  have := intP_val (l := l) (p := (intP l (intP l 0 0 4294967295).2.1 (intP l 0 0 4294967295).2.2 1099511627775).2.1) (e := (intP l (intP l 0 0 4294967295).2.1 (intP l 0 0 4294967295).2.2 1099511627775).2.2) (m := 3) (by omega) hb
  simp only
  omega
theorem readBody_any {b : Nat} {s : ByteArray} {w : World} (hI : InAt w b s 0 0) (hs : s.size ≤ 1000000) :
    Calls Tryd.prog 65 #[.pointer (some ⟨b, 0, none⟩)] w fun x w' => ∃ v', x = .returned (.agg #[.int .i64 (rdB (bs s)).1.ep, .int .i64 (rdB (bs s)).1.nu, .int .i64 (rdB (bs s)).1.ki, v', .string ⟨#[]⟩, .string (rdB (bs s)).1.tx, .int .u32 ((rdB (bs s)).2.1 : Nat)]) ∧ Own w' v' (rdB (bs s)).1.sp ∧ From w.heap.size v' ∧ (∃ p', InAt w' b s p' (rdB (bs s)).2.2) ∧ Keep (fun k => k = b) w w' := by
  rcases rd3_kind (bs s) (bs_lt s) with h | h | h | h
  · exact readBody0 hI hs h
  · exact readBody1 hI hs h
  · exact readBody2 hI hs h
  · exact readBody3 hI hs h
/-- How many sectors the head has, as it tells. -/
def cnt (s : ByteArray) : Nat := num (((bs s).drop 2).take 2)
/-- How many sectors the head has with which s begins, or what is wrong. -/
def hN (s : ByteArray) : Nat × Int :=
  if s.size < 64 then (0, 10)
  else if ¬ (bs s).take 2 = [76, 82] ∨ cnt s < 1 ∨ 40 < cnt s then (0, 12)
  else if s.size < 64 * cnt s then (0, 10)
  else if (opened (s.extract 0 (64 * cnt s))).2 = 0 then (cnt s, 0) else (0, (opened (s.extract 0 (64 * cnt s))).2)
theorem hN_ok {s : ByteArray} (h : (hN s).2 = 0) : 64 ≤ s.size ∧ (bs s).take 2 = [76, 82] ∧ 1 ≤ cnt s ∧ cnt s ≤ 40 ∧ 64 * cnt s ≤ s.size ∧ (opened (s.extract 0 (64 * cnt s))).2 = 0 ∧ (hN s).1 = cnt s := by
  unfold hN at h ⊢
  split at h
  · simp at h
  · rename_i h1
    split at h
    · simp at h
    · rename_i h2
      split at h
      · simp at h
      · rename_i h3
        split at h
        · rename_i h4
          rw [if_neg h1, if_neg h2, if_neg h3, if_pos h4]
          by_cases h5 : (bs s).take 2 = [76, 82]
          · exact ⟨by omega, h5, by omega, by omega, by omega, h4, rfl⟩
          · exact absurd (.inl h5) h2
        · contradiction
end Re
end Go.Proofs.YtnpbgjafahhadaaDoor
