/- Letters of kinds, and digits, read. -/
import Derived.Test.YtnfakgdgjkgekaaDoorWl
namespace Go.Proofs.YtnfakgdgjkgekaaDoor
open Go.RowKit
namespace Wi

/-- The kind of a letter; 0: there is none. -/
def kd (c : Nat) : Nat := if c = 100 then 1 else if c = 99 then 2 else if c = 109 then 3 else if c = 101 then 4 else 0
def isK (c : Nat) : Bool := decide (c = 100 ∨ c = 99 ∨ c = 109 ∨ c = 101)
theorem kd_ltr {k : Nat} (h1 : 1 ≤ k) (h2 : k ≤ 4) : kd (ltr k) = k ∧ isK (ltr k) = true := by
  rcases (show k = 1 ∨ k = 2 ∨ k = 3 ∨ k = 4 by omega) with rfl | rfl | rfl | rfl <;> exact ⟨rfl, rfl⟩
theorem isK_kd {c : Nat} (h : isK c = true) : 1 ≤ kd c ∧ kd c ≤ 4 ∧ ltr (kd c) = c := by
  unfold isK at h
  rw [decide_eq_true_eq] at h
  rcases h with rfl | rfl | rfl | rfl <;> exact ⟨by decide, by decide, rfl⟩
theorem not_isK {c : Nat} (h : ∀ j, j < 4 → ltr (j + 1) ≠ c) : isK c = false ∧ kd c = 0 := by
  have h0 : c ≠ 100 := fun e => h 0 (by omega) e.symm
  have h1 : c ≠ 99 := fun e => h 1 (by omega) e.symm
  have h2 : c ≠ 109 := fun e => h 2 (by omega) e.symm
  have h3 : c ≠ 101 := fun e => h 3 (by omega) e.symm
  simp [isK, kd, h0, h1, h2, h3]
set_option maxHeartbeats 2000000 in
theorem kind_any (c : Nat) (hc : c < 256) (w : World) : Calls Tryd.prog 29 #[.int .u8 (c : Nat)] w fun e w' => e = .returned (.tuple #[.int .i64 (kd c : Nat), .bool (isK c)]) ∧ Below w.heap.size w w' := by
  have HB := hide (below_iter w L4)
  have HP := hide (iterPos_iter w L4)
  have hE := next4_end w
  go_enter Tryd.func29, Tryd.ntmps29
  go_wp2
  go_loopw [4] (fun _ wr => ∃ k : Nat, k ≤ 4 ∧ wr = w.iter L4 k ∧ Hid (∀ j, j < k → ltr (j + 1) ≠ c)) (fun _ wr => 4 - wr.iterPos w.heap.size)
  case atStart => exact ⟨0, by omega, rfl, fun j hj => by omega⟩
  case round =>
    obtain ⟨k, hk, rfl, hA⟩ := hrel
    by_cases hlt : k < 4
    · have hx := next4 w k hlt
      obtain ⟨C, hC⟩ : ∃ C, ltr (k + 1) = C := ⟨_, rfl⟩
      rw [hC] at hx
      by_cases he : C = c
      · have HF := hide (kd_ltr (k := k + 1) (by omega) (by omega))
        rw [hC, he] at HF
        have b1 : ((C : Int) == (c : Int)) = true := by rw [beq_iff_eq]; omega
        clear he hE hC hA
        go_wp2
        go_ret2
        exact ⟨by rw [HF.out.1, HF.out.2, show ((k + 1 : Nat) : Int) = 1 + (k : Int) by omega]; rfl, HB.out _⟩
      · have b1 : ((C : Int) == (c : Int)) = false := by rw [beq_eq_false_iff_ne]; omega
        have HN : Hid (∀ j, j < k + 1 → ltr (j + 1) ≠ c) := fun j hj => by
          rcases Nat.lt_or_ge j k with h | h
          · exact hA.out j h
          · obtain rfl : j = k := by omega
            rw [hC]
            exact he
        clear hE hC hA
        go_wp2
        go_roundw
        case rel => exact ⟨k + 1, by omega, rfl, HN⟩
        case measure => rw [HP.out, HP.out]; omega
    · obtain rfl : k = 4 := by omega
      have HF := hide (not_isK hA.out)
      clear hA
      go_wp2
      go_ret2
      exact ⟨by rw [HF.out.1, HF.out.2]; rfl, HB.out 4⟩
def numB (s : ByteArray) : Bool := (bs s).all isD
def numN (s : ByteArray) : Nat := if numB s then numL (bs s) else 0
theorem w36 (n : Int) (h0 : 0 ≤ n) (h1 : n < 2 ^ 40) : IntKind.i64.wrap n = n := by rw [IntKind.wrap_i64]; omega
theorem or16 (m d : Nat) (hm : m < 68719476736) (hd : d < 16) : bits .or .i64 ((m : Int) * 16) (d : Int) = ((16 * m + d : Nat) : Int) :=
  (bits_join .i64 40 (by decide) w36 4 ((m : Int) * 16) (d : Int) (by omega) (by omega) (by omega) (by omega) (by omega) (by omega)).trans (by omega)
set_option maxHeartbeats 2000000 in
theorem number_any (s : ByteArray) (hs : s.size ≤ 10) (w : World) : Calls Tryd.prog 30 #[.string s] w fun e w' => e = .returned (.tuple #[.int .i64 (numN s : Nat), .bool (numB s)]) ∧ w' = w := by
  go_enter Tryd.func30, Tryd.ntmps30
  go_wp2
  go_loop [4, 10] (fun x i => ∃ k m : Nat, k ≤ s.size ∧ i = .int .i64 k ∧ x = .int .i64 m ∧ Hid (m = numL ((bs s).take k)) ∧ Hid (∀ b ∈ (bs s).take k, isD b = true)) (fun _ i => s.size - (intOf i).toNat)
  case atStart => exact ⟨0, 0, Nat.zero_le _, rfl, rfl, by show _ = _; simp [numL], by show ∀ b ∈ _, _; simp⟩
  case round =>
    obtain ⟨k, m, hk, rfl, rfl, HM, HA⟩ := hrel
    by_cases hlt : k < s.size
    · have hg := bs_get s k hlt
      have hlt256 : s[k].toNat < 256 := s[k].toNat_lt
      have HS := hide (snoc_take _ _ _ hg)
      have HMM := hide (List.mem_of_getElem? hg)
      clear hg
      cases hb : isD s[k].toNat with
      | true =>
        have hc := digit_yes s[k].toNat hlt256 hb w
        have hd := dg_lt hb
        have hm : m < 68719476736 := by
          have h1 := numL_lt HA.out
          rw [← HM.out, List.length_take, bs_length] at h1
          have h2 : 16 ^ min k s.size ≤ 16 ^ 9 := Nat.pow_le_pow_right (by omega) (by omega)
          omega
        have HN : Hid (16 * m + dg s[k].toNat = numL ((bs s).take (k + 1))) := by show _ = _; rw [HS.out, numL_snoc, HM.out]
        have HA2 : Hid (∀ b ∈ (bs s).take (k + 1), isD b = true) := fun b hb' => by
          rw [HS.out] at hb'
          rcases List.mem_append.1 hb' with h | h
          · exact HA.out b h
          · rw [List.mem_singleton.1 h]; exact hb
        have hor := or16 m (dg s[k].toNat) hm hd
        have hmx : 16 * m + dg s[k].toNat ≤ 9223372036854775807 := by omega
        generalize hD : dg s[k].toNat = DD at *
        clear hb HM HA HS HMM hD
        go_wp2_with fail
        refine hc.mono ?_
        rintro e w' ⟨rfl, rfl⟩
        clear hc
        go_wp2
        go_round
        case rel => exact ⟨k + 1, 16 * m + DD, by omega, by go_num, by first | rfl | go_num, HN, HA2⟩
        case measure => simp [intOf]; omega
      | false =>
        have hc := digit_no s[k].toNat hlt256 hb w
        have HN : Hid (numB s = false) := by
          show _ = _
          unfold numB
          rw [List.all_eq_false]
          exact ⟨_, HMM.out, by simp [hb]⟩
        clear hb HM HA HS HMM
        go_wp2_with fail
        refine hc.mono ?_
        rintro e w' ⟨rfl, rfl⟩
        clear hc
        go_wp2
        go_ret2
        exact ⟨by rw [show numN s = 0 by unfold numN; rw [HN.out]; rfl, HN.out]; rfl, rfl⟩
    · obtain rfl : k = s.size := by omega
      have HN : Hid (numB s = true ∧ m = numL (bs s)) := by
        have h1 := HM.out
        have h2 := HA.out
        rw [← bs_length s, List.take_length] at h1 h2
        exact ⟨by unfold numB; rw [List.all_eq_true]; exact h2, h1⟩
      clear HM HA
      go_wp2
      go_ret2
      exact ⟨by rw [show numN s = m by unfold numN; rw [HN.out.1]; exact HN.out.2.symm, HN.out.1]; rfl, rfl⟩

end Wi
end Go.Proofs.YtnfakgdgjkgekaaDoor
