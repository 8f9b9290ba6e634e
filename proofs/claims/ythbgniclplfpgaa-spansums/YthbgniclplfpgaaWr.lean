/- A part of the proofs about package span: what its functions answer, call by call. -/
import Derived.Test.YthbgniclplfpgaaWq
import Derived.Test.YthbgniclplfpgaaPf
namespace Go.Proofs.Ythbgniclplfpgaa
open Go.RowKit
namespace Sp

/-- A slice's memory holds these bools. -/
structure Sb (w : World) (a : Option Addr) (n : Nat) (f : Nat → Bool) : Prop where
  most : n ≤ 65536
  cells : ∀ i, i < n → ∃ b off, a = some ⟨b, off, none⟩ ∧ b < w.heap.size ∧ w.cell? ⟨b, off + i, none⟩ = some (.bool (f i))
theorem Sb.later {w : World} {a : Option Addr} {n : Nat} {f : Nat → Bool} (h : Sb w a n f) {wr : World} (hb : Below w.heap.size w wr) : Sb wr a n f :=
  ⟨h.most, fun i hi => by
    obtain ⟨b, off, ha, hbl, c0⟩ := h.cells i hi
    exact ⟨b, off, ha, Nat.lt_of_lt_of_le hbl hb.size, (hb.cell hbl).trans c0⟩⟩

set_option maxHeartbeats 2000000 in
theorem set_any (a : Option Addr) (n cap : Nat) (f : Nat → Bool) (w : World) (h : Sb w a n f) :
    Calls Try.prog 24 #[.slice a n cap] w fun e w' => ∃ ys, SO f n ys ∧ RowPost ys w e w' := by
  have hn := h.most
  go_enter Try.func24, Try.ntmps24
  go_wp2
  go_loopw [3, 4] (fun v i wr => ∃ (k : Nat) (ys : List (Int × Int)), k ≤ n ∧ i = .int .i64 k ∧ Own wr v ys ∧ From w.heap.size v ∧ SO f k ys ∧ Below w.heap.size w wr) (fun _ i _ => n - (intOf i).toNat)
  case atStart => exact ⟨0, [], Nat.zero_le _, rfl, Own.nil _, From.nil _ _ _, SO.start f, Below.refl _ _⟩
  case round =>
    obtain ⟨k, ys, hk, rfl, hown, hfrom, hso, hbr⟩ := hrel
    by_cases hlt : k < n
    · obtain ⟨ba, off, rfl, hbl, c0⟩ := (h.later hbr).cells k hlt
      have hlen := set_length hso.set
      obtain ⟨i0, hi, hz0, hz1, hz2⟩ := info_parts info27
      cases hf : f k with
      | false =>
        have R1 := hide (hso.skip hf)
        rw [hf] at c0
        clear h hso hf
        go_wp2
        go_roundw
        case rel => exact ⟨k + 1, ys, by omega, by go_num, hown, hfrom, R1.out, hbr⟩
        case measure => simp [intOf]; omega
      | true =>
        rw [hf] at c0
        have hkk : ∀ o, (wr.alloc o).ownsRow 0 27 2 u3 ys.length (enc2 ys) := fun o => hown.later (below_alloc _ _)
        rcases Nat.eq_zero_or_pos k with h0 | h0
        · have R1 := hide (hso.fresh hf (fun j hj => by omega) (by omega))
          have hd : decide (0 < k) = false := by simp; omega
          clear h hso hf h0
          go_wp2_with (at_builtin; refine wpList_append_moved rfl (.tmp 39) (.tmp 42) 22 rfl 27 i0 _ 2 16 Try.underlying22 hi hz0 hz1 hz2 rfl (by decide) _ _ _ rfl (hkk _) ⟨wr.heap.size, 0, none⟩ 1 1 [.int .i64 k, .int .i64 1] rfl rfl (cells_two (by simp) (by simp)) (enc2_oneCell [((k : Int), 1)]) (by unfold maxLen; omega) (by omega) ?_; intro v' w' h1 h2 h3)
          have R2 := hide (below_grown (hbr.trans ((below_alloc _ _).mono hbr.size)) h2 (by have := hbr.size; simp; omega) hfrom)
          have R3 := hide (hfrom.moved h3 (by have := hbr.size; simp; omega))
          have R4 : Hid (Own w' v' (ys ++ [((k : Int), 1)])) := by
            show Own w' v' (ys ++ [((k : Int), 1)])
            unfold Own
            rw [enc2_append, show (ys ++ [((k : Int), (1 : Int))]).length = ys.length + 1 by simp]
            exact h1
          clear h1 h2 h3 hkk
          go_wp2
          go_roundw
          case rel => exact ⟨k + 1, _, by omega, by go_num, R4.out, R3.out, R1.out, R2.out⟩
          case measure => simp [intOf]; omega
        · obtain ⟨k, rfl⟩ : ∃ j, k = j + 1 := ⟨k - 1, by omega⟩
          obtain ⟨b', off', ha', hbl', d0⟩ := (h.later hbr).cells k (by omega)
          simp only [Option.some.injEq, Addr.mk.injEq, and_true] at ha'
          obtain ⟨rfl, rfl⟩ := ha'
          cases hf2 : f k with
          | false =>
            rw [hf2] at d0
            have R1 := hide (hso.fresh hf (fun j hj => by rw [show j = k by omega]; exact hf2) (by omega))
            clear h hso hf hf2 h0
            go_wp2_with (at_builtin; refine wpList_append_moved rfl (.tmp 39) (.tmp 42) 22 rfl 27 i0 _ 2 16 Try.underlying22 hi hz0 hz1 hz2 rfl (by decide) _ _ _ rfl (hkk _) ⟨wr.heap.size, 0, none⟩ 1 1 [.int .i64 ((k : Int) + 1), .int .i64 1] rfl rfl (cells_two (by simp) (by simp)) (enc2_oneCell [((k : Int) + 1, 1)]) (by unfold maxLen; omega) (by omega) ?_; intro v' w' h1 h2 h3)
            have R2 := hide (below_grown (hbr.trans ((below_alloc _ _).mono hbr.size)) h2 (by have := hbr.size; simp; omega) hfrom)
            have R3 := hide (hfrom.moved h3 (by have := hbr.size; simp; omega))
            have R4 : Hid (Own w' v' (ys ++ [(((k + 1 : Nat) : Int), 1)])) := by
              show Own w' v' (ys ++ [(((k + 1 : Nat) : Int), 1)])
              unfold Own
              rw [enc2_append, show (ys ++ [(((k + 1 : Nat) : Int), (1 : Int))]).length = ys.length + 1 by simp]
              exact h1
            clear h1 h2 h3 hkk
            go_wp2
            go_roundw
            case rel => exact ⟨k + 1 + 1, _, by omega, by go_num, R4.out, R3.out, R1.out, R2.out⟩
            case measure => simp [intOf]; omega
          | true =>
            rw [hf2] at d0
            obtain ⟨zs, x, rfl, hxe⟩ := hso.on k rfl hf2
            have R1 := hide (hso.more hf hxe (by omega))
            have mx := mayB_iff.1 (setB_lastMay hso.set)
            obtain ⟨g, cp, rfl, hgl, e0, e1, ef⟩ := hown.snocForm
            have hlz : zs.length + 1 ≤ 65536 := by simpa using hlen
            have hownq := hown.setLast (x.2 + 1)
            have R2 := hide (below_grown (v := .slice (some ⟨g, 0, none⟩) (zs.length + 1) cp) hbr hownq.2 hbr.size hfrom)
            have R4 := hide hownq.1
            clear h hso hf hf2 h0 hlen hxe hownq hkk
            go_wp2
            go_roundw
            case rel => exact ⟨k + 1 + 1, _, by omega, by go_num, R4.out, hfrom, R1.out, R2.out⟩
            case measure => simp [intOf]; omega
    · have R1 := hide (show SO f n ys by rwa [show n = k by omega])
      clear hso
      go_wp2
      go_ret
      exact ⟨ys, R1.out, _, rfl, hown, hfrom, hbr⟩

end Sp
end Go.Proofs.Ythbgniclplfpgaa
