/- Kinds and their letters; what names begin with. -/
import Derived.Laws.RangeString
import Derived.WalkSmall
import Derived.Test.YtnfakgdgjkgekaaDoorWf
import Derived.Test.YtnfakgdgjkgekaaDoorWe
namespace Go.Proofs.YtnfakgdgjkgekaaDoor
open Go.RowKit
namespace Wi

def Num (z : Int) : Prop := -9223372036854775808 ≤ z ∧ z ≤ 9223372036854775807
def L4 : ByteArray := { data := #[100, 99, 109, 101] }
theorem next4 (w : World) (k : Nat) (hk : k < 4) (ty : TypeId) : (Instr.next (.pointer (some ⟨w.heap.size, 0, none⟩)) true ty).run Tryd.prog (w.iter L4 k) = .ok (.tuple #[.bool true, .int .i64 (k : Nat), .int .i32 (ltr (k + 1) : Nat)]) (w.iter L4 (k + 1)) := by
  have hs : k < L4.size := hk
  have e : (L4[k]'hs).toNat = ltr (k + 1) := by
    match k, hk with
    | 0, _ => rfl
    | 1, _ => rfl
    | 2, _ => rfl
    | 3, _ => rfl
  have hl : (L4[k]'hs).toNat < 128 := by
    rw [e]
    unfold ltr
    split
    · omega
    · split
      · omega
      · split <;> omega
  rw [run_next_ascii w L4 k ty hs hl, e]
theorem next4_end (w : World) (ty : TypeId) : (Instr.next (.pointer (some ⟨w.heap.size, 0, none⟩)) true ty).run Tryd.prog (w.iter L4 4) = .ok (.tuple #[.bool false]) (w.iter L4 4) := run_next_end w L4 4 ty (by decide)
theorem iterPos_iter (w : World) (s : ByteArray) (k : Nat) : (w.iter s k).iterPos w.heap.size = k := by simp [World.iterPos, World.iter_heap]
theorem below_iter (w : World) (s : ByteArray) (k : Nat) : Below w.heap.size w (w.iter s k) := below_alloc _ _
/-- A kind's letter, or 0. -/
def kl (z : Int) : Int := if kindB z then (ltr z.toNat : Int) else 0
set_option maxHeartbeats 2000000 in
theorem letter_any (z : Int) (hz : Num z) (w : World) : Calls Tryd.prog 26 #[.int .i64 z] w fun e w' => e = .returned (.tuple #[.int .i32 (kl z), .bool (kindB z)]) ∧ Below w.heap.size w w' := by
  obtain ⟨z1, z2⟩ := hz
  have HB := hide (below_iter w L4)
  have HP := hide (iterPos_iter w L4)
  have h0 : w.iter { data := #[100, 99, 109, 101] } 0 = w.iter L4 0 := rfl
  have hE := next4_end w
  go_enter Tryd.func26, Tryd.ntmps26
  go_wp2
  go_loopw [4] (fun _ wr => ∃ k : Nat, k ≤ 4 ∧ wr = w.iter L4 k ∧ (z < 1 ∨ (k : Int) < z)) (fun _ wr => 4 - wr.iterPos w.heap.size)
  case atStart => exact ⟨0, by omega, rfl, by omega⟩
  case round =>
    obtain ⟨k, hk, rfl, hkz⟩ := hrel
    by_cases hlt : k < 4
    · have hx := next4 w k hlt
      by_cases he : z = (k : Int) + 1
      · have HF : Hid (kindB z = true ∧ z.toNat = k + 1) := ⟨by unfold kindB; rw [decide_eq_true_eq]; omega, by omega⟩
        have b1 : ((1 : Int) + (k : Int) == z) = true := by rw [beq_iff_eq]; omega
        clear he hE
        generalize hC : ltr (k + 1) = C at *
        have HC := hide hC
        clear hC
        go_wp2
        go_ret2
        exact ⟨by rw [show kl z = (C : Int) by unfold kl; rw [HF.out.1, HF.out.2, HC.out]; rfl, HF.out.1]; rfl, HB.out _⟩
      · have b1 : ((1 : Int) + (k : Int) == z) = false := by rw [beq_eq_false_iff_ne]; omega
        clear hE
        go_wp2
        go_roundw
        case rel => exact ⟨k + 1, by omega, rfl, by omega⟩
        case measure => rw [HP.out, HP.out]; omega
    · obtain rfl : k = 4 := by omega
      have HF : Hid (kindB z = false) := by show _ = _; unfold kindB; rw [decide_eq_false_iff_not]; omega
      go_wp2
      go_ret2
      exact ⟨by rw [show kl z = 0 by unfold kl; rw [HF.out]; rfl, HF.out]; rfl, HB.out 4⟩

end Wi
end Go.Proofs.YtnfakgdgjkgekaaDoor
