/- Names: which texts are one, how two stand to each other, where one is found. -/
import Derived.Test.YthnhapjjgaicdaaWc
import Derived.Test.YthnhapjjgaicdaaMb
import Derived.Laws.Externs
namespace Go.Proofs.Ythnhapjjgaicdaa
open Go.RowKit
namespace Wi

/-- May a byte stand in a name? -/
def nb (c : Nat) : Bool := decide (c = 46 ∨ c = 45 ∨ c = 95 ∨ c = 47 ∨ (97 ≤ c ∧ c ≤ 122) ∨ (48 ≤ c ∧ c ≤ 57))
def nameB (s : ByteArray) : Bool := decide (1 ≤ s.size ∧ s.size ≤ 64) && (bs s).all nb
set_option maxHeartbeats 2000000 in
theorem namebyte_any (c : Nat) (hc : c < 256) (w : World) : Calls Try.prog 55 #[.int .u8 (c : Nat)] w fun e w' => e = .returned (.bool (nb c)) ∧ w' = w := by
  by_cases h0 : c = 46 ∨ c = 45 ∨ c = 95 ∨ c = 47
  · have e1 : nb c = true := by unfold nb; simp; omega
    rw [e1]
    clear e1
    rcases h0 with rfl | rfl | rfl | rfl
    all_goals
      go_enter Try.func55, Try.ntmps55
      go_wp2
      go_ret
      exact ⟨rfl, rfl⟩
  · have b1 : ((c : Int) == 46) = false := by simp; omega
    have b2 : ((c : Int) == 45) = false := by simp; omega
    have b3 : ((c : Int) == 95) = false := by simp; omega
    have b4 : ((c : Int) == 47) = false := by simp; omega
    by_cases h1 : 97 ≤ c
    · by_cases h2 : c ≤ 122
      · have e1 : nb c = true := by unfold nb; simp; omega
        rw [e1]
        clear h0 e1
        go_enter Try.func55, Try.ntmps55
        go_wp2
        go_ret
        exact ⟨rfl, rfl⟩
      · have e1 : nb c = false := by unfold nb; simp; omega
        rw [e1]
        clear h0 e1
        have h3 : decide ((c : Int) ≤ 57) = false := by simp; omega
        have h4 : decide ((c : Int) ≤ 122) = false := by simp; omega
        go_enter Try.func55, Try.ntmps55
        go_wp2
        go_ret
        exact ⟨rfl, rfl⟩
    · by_cases h2 : 48 ≤ c
      · by_cases h3 : c ≤ 57
        · have e1 : nb c = true := by unfold nb; simp; omega
          rw [e1]
          clear h0 e1
          have h4 : decide ((c : Int) ≤ 57) = true := by simp; omega
          go_enter Try.func55, Try.ntmps55
          go_wp2
          go_ret
          exact ⟨rfl, rfl⟩
        · have e1 : nb c = false := by unfold nb; simp; omega
          rw [e1]
          clear h0 e1
          have h4 : decide ((c : Int) ≤ 57) = false := by simp; omega
          go_enter Try.func55, Try.ntmps55
          go_wp2
          go_ret
          exact ⟨rfl, rfl⟩
      · have e1 : nb c = false := by unfold nb; simp; omega
        rw [e1]
        clear h0 e1
        go_enter Try.func55, Try.ntmps55
        go_wp2
        go_ret
        exact ⟨rfl, rfl⟩
set_option maxHeartbeats 2000000 in
theorem name_any (s : ByteArray) (hs : s.size ≤ 9223372036854775807) (w : World) : Calls Try.prog 42 #[.string s] w fun e w' => e = .returned (.bool (nameB s)) ∧ w' = w := by
  by_cases h1 : s.size < 1
  · have e1 : nameB s = false := by unfold nameB; simp; omega
    rw [e1]
    clear e1
    go_enter Try.func42, Try.ntmps42
    go_wp2
    go_ret
    exact ⟨rfl, rfl⟩
  · by_cases h2 : 64 < s.size
    · have e1 : nameB s = false := by unfold nameB; simp; omega
      rw [e1]
      clear e1
      go_enter Try.func42, Try.ntmps42
      go_wp2
      go_ret
      exact ⟨rfl, rfl⟩
    · have HE : Hid (nameB s = (bs s).all nb) := by
        show _ = _
        unfold nameB
        rw [decide_eq_true (by omega), Bool.true_and]
      go_enter Try.func42, Try.ntmps42
      go_wp2
      go_loop [14] (fun i => ∃ k : Nat, k ≤ s.size ∧ i = .int .i64 k ∧ Hid (((bs s).take k).all nb = true)) (fun i => s.size - (intOf i).toNat)
      case atStart => exact ⟨0, Nat.zero_le _, rfl, by show _ = _; simp⟩
      case round =>
        obtain ⟨k, hk, rfl, hA⟩ := hrel
        by_cases hlt : k < s.size
        · have hg := bs_get s k hlt
          have hlt256 : s[k].toNat < 256 := s[k].toNat_lt
          have hc := namebyte_any s[k].toNat hlt256 w
          have HS := hide (snoc_take _ _ _ hg)
          have HM := hide (List.mem_of_getElem? hg)
          clear hg
          cases hb : nb s[k].toNat with
          | true =>
            rw [hb] at hc
            have HN : Hid (((bs s).take (k + 1)).all nb = true) := by
              show _ = _
              rw [HS.out, List.all_append, hA.out]
              simp [hb]
            clear hb
            go_wp2_with fail
            refine hc.mono ?_
            rintro e w' ⟨rfl, rfl⟩
            clear hc
            go_wp2
            go_round
            case rel => exact ⟨k + 1, by omega, by go_num, HN⟩
            case measure => simp [intOf]; omega
          | false =>
            rw [hb] at hc
            have HN : Hid (nameB s = false) := by
              show _ = _
              rw [HE.out, List.all_eq_false]
              exact ⟨_, HM.out, by simp [hb]⟩
            clear hb
            go_wp2_with fail
            refine hc.mono ?_
            rintro e w' ⟨rfl, rfl⟩
            clear hc
            go_wp2
            go_ret
            exact ⟨by rw [HN.out]; rfl, rfl⟩
        · obtain rfl : k = s.size := by omega
          have HN : Hid (nameB s = true) := by
            have := hA.out
            rw [← bs_length s, List.take_length] at this
            exact HE.out.trans this
          go_wp2
          go_ret
          exact ⟨by rw [HN.out]; rfl, rfl⟩
theorem cmpstring_any (a b : ByteArray) (w : World) : Calls Try.prog 66 #[.string a, .string b] w fun e w' => e = .returned (.int .i64 (cmpB a b)) ∧ w' = w := by
  go_enter Try.func66, Try.ntmps66
  go_wp2
  rw [run_callFunc_extern Try.func68 (by kernel_rfl) (by kernel_rfl) (by kernel_rfl) (e := Extern.BytealgCompare.compare) (by kernel_rfl), Lib.run_compareString]
  simp only [Result.andThen]
  rw [Oper.upon_value]
  go_wp2
  go_ret
  exact ⟨rfl, rfl⟩
theorem compare_any (a b : ByteArray) (w : World) : Calls Try.prog 62 #[.string a, .string b] w fun e w' => e = .returned (.int .i64 (cmpB a b)) ∧ w' = w := by
  have hc := cmpstring_any a b w
  obtain ⟨n1, n2⟩ := cmpB_num a b
  generalize cmpB a b = C at *
  go_enter Try.func62, Try.ntmps62
  go_wp2_with fail
  refine hc.mono ?_
  rintro e w' ⟨rfl, rfl⟩
  go_wp2
  go_ret
  exact ⟨rfl, rfl⟩
theorem closure_any (a d b : ByteArray) (w : World) : Calls Try.prog 61 #[.agg #[.string a, .string d], .string b] w fun e w' => e = .returned (.int .i64 (cmpB a b)) ∧ Below w.heap.size w w' := by
  have hc := compare_any a b (w.alloc (.cells #[.string a, .string d] 76))
  have hb := hide (below_alloc w (.cells #[.string a, .string d] 76))
  generalize cmpB a b = C at *
  go_enter Try.func61, Try.ntmps61
  go_wp2_with fail
  refine hc.mono ?_
  rintro e w' ⟨rfl, rfl⟩
  go_wp2
  go_ret
  exact ⟨rfl, hb.out⟩

end Wi
end Go.Proofs.Ythnhapjjgaicdaa
