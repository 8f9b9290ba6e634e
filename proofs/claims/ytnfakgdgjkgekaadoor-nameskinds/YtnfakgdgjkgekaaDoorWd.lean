/- Names of volumes: which texts are one. -/
import Derived.Test.YtnfakgdgjkgekaaDoorWb
namespace Go.Proofs.YtnfakgdgjkgekaaDoor
open Go.RowKit
namespace Wi

/-- May a byte stand in a volume's name? -/
def vb (c : Nat) : Bool := decide ((97 ≤ c ∧ c ≤ 122) ∨ (48 ≤ c ∧ c ≤ 57) ∨ c = 45)
def volB (s : ByteArray) : Bool := decide (1 ≤ s.size ∧ s.size ≤ 32) && (bs s).all vb
def volE (s : ByteArray) : Int := if volB s then 0 else 1
set_option maxHeartbeats 2000000 in
theorem volbyte_any (c : Nat) (hc : c < 256) (w : World) : Calls Tryd.prog 28 #[.int .u8 (c : Nat)] w fun e w' => e = .returned (.bool (vb c)) ∧ w' = w := by
  by_cases h1 : 97 ≤ c
  · by_cases h2 : c ≤ 122
    · skip
      have e1 : vb c = true := by unfold vb; simp; omega
      rw [e1]
      clear e1
      go_enter Tryd.func28, Tryd.ntmps28
      go_wp2
      go_ret
      exact ⟨rfl, rfl⟩
    · have b4 : ((c : Int) == 45) = false := by simp; omega
      have e1 : vb c = false := by unfold vb; simp; omega
      rw [e1]
      clear e1
      have h57 : decide ((c : Int) ≤ 57) = false := by simp; omega
      have h122 : decide ((c : Int) ≤ 122) = false := by simp; omega
      go_enter Tryd.func28, Tryd.ntmps28
      go_wp2
      go_ret
      exact ⟨rfl, rfl⟩
  · by_cases h2 : 48 ≤ c
    · by_cases h3 : c ≤ 57
      · skip
        have e1 : vb c = true := by unfold vb; simp; omega
        rw [e1]
        clear e1
        have h57 : decide ((c : Int) ≤ 57) = true := by simp; omega
        go_enter Tryd.func28, Tryd.ntmps28
        go_wp2
        go_ret
        exact ⟨rfl, rfl⟩
      · have b4 : ((c : Int) == 45) = false := by simp; omega
        have e1 : vb c = false := by unfold vb; simp; omega
        rw [e1]
        clear e1
        have h57 : decide ((c : Int) ≤ 57) = false := by simp; omega
        go_enter Tryd.func28, Tryd.ntmps28
        go_wp2
        go_ret
        exact ⟨rfl, rfl⟩
    · by_cases h4 : c = 45
      · subst h4
        rw [show vb 45 = true from rfl]
        go_enter Tryd.func28, Tryd.ntmps28
        go_wp2
        go_ret
        exact ⟨rfl, rfl⟩
      · have b4 : ((c : Int) == 45) = false := by simp; omega
        have e1 : vb c = false := by unfold vb; simp; omega
        rw [e1]
        clear e1
        go_enter Tryd.func28, Tryd.ntmps28
        go_wp2
        go_ret
        exact ⟨rfl, rfl⟩
set_option maxHeartbeats 2000000 in
theorem volume_any (s : ByteArray) (hs : s.size ≤ 9223372036854775807) (w : World) : Calls Tryd.prog 15 #[.string s] w fun e w' => e = .returned (.int .i64 (volE s)) ∧ w' = w := by
  by_cases h1 : s.size < 1
  · have e1 : volB s = false := by unfold volB; simp; omega
    rw [volE, e1]
    clear e1
    go_enter Tryd.func15, Tryd.ntmps15
    go_wp2
    go_ret
    exact ⟨rfl, rfl⟩
  · by_cases h2 : 32 < s.size
    · have e1 : volB s = false := by unfold volB; simp; omega
      rw [volE, e1]
      clear e1
      go_enter Tryd.func15, Tryd.ntmps15
      go_wp2
      go_ret
      exact ⟨rfl, rfl⟩
    · have HE : Hid (volB s = (bs s).all vb) := by
        show _ = _
        unfold volB
        rw [decide_eq_true (by omega), Bool.true_and]
      go_enter Tryd.func15, Tryd.ntmps15
      go_wp2
      go_loop [14] (fun i => ∃ k : Nat, k ≤ s.size ∧ i = .int .i64 k ∧ Hid (((bs s).take k).all vb = true)) (fun i => s.size - (intOf i).toNat)
      case atStart => exact ⟨0, Nat.zero_le _, rfl, by show _ = _; simp⟩
      case round =>
        obtain ⟨k, hk, rfl, hA⟩ := hrel
        by_cases hlt : k < s.size
        · have hg := bs_get s k hlt
          have hlt256 : s[k].toNat < 256 := s[k].toNat_lt
          have hc := volbyte_any s[k].toNat hlt256 w
          have HS := hide (snoc_take _ _ _ hg)
          have HM := hide (List.mem_of_getElem? hg)
          clear hg
          cases hb : vb s[k].toNat with
          | true =>
            rw [hb] at hc
            have HN : Hid (((bs s).take (k + 1)).all vb = true) := by
              show _ = _
              rw [HS.out, List.all_append, hA.out]
              simp [hb]
            clear hb
            go_wp2_with fail
            refine hc.mono ?_
            rintro e w' ⟨rfl, rfl⟩
            clear hc
            go_wp2
            go_round
            case rel => exact ⟨k + 1, by omega, by go_num, HN⟩
            case measure => simp [intOf]; omega
          | false =>
            rw [hb] at hc
            have HN : Hid (volB s = false) := by
              show _ = _
              rw [HE.out, List.all_eq_false]
              exact ⟨_, HM.out, by simp [hb]⟩
            clear hb
            go_wp2_with fail
            refine hc.mono ?_
            rintro e w' ⟨rfl, rfl⟩
            clear hc
            go_wp2
            go_ret
            exact ⟨by rw [volE, HN.out]; rfl, rfl⟩
        · obtain rfl : k = s.size := by omega
          have HN : Hid (volB s = true) := by
            have := hA.out
            rw [← bs_length s, List.take_length] at this
            exact HE.out.trans this
          go_wp2
          go_ret
          exact ⟨by rw [volE, HN.out]; rfl, rfl⟩

end Wi
end Go.Proofs.YtnfakgdgjkgekaaDoor
