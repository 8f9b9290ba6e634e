/- The document's answer: which texts are a volume's name. -/
import Derived.Test.YtnfakgdgjkgekaaDoorWd
namespace Go.Proofs.YtnfakgdgjkgekaaDoor
open Go.RowKit
namespace Wi

set_option maxHeartbeats 4000000 in
theorem refvol_any (s : ByteArray) (hs : s.size ≤ 9223372036854775807) (w : World) : Calls Tryd.prog 16 #[.string s] w fun e w' => e = .returned (.bool (volB s)) ∧ w' = w := by
  go_enter Tryd.func16, Tryd.ntmps16
  go_wp2
  go_loop [3] (fun i => ∃ k : Nat, k ≤ s.size ∧ i = .int .i64 k ∧ Hid (((bs s).take k).all vb = true)) (fun i => s.size - (intOf i).toNat)
  case atStart => exact ⟨0, Nat.zero_le _, rfl, by show _ = _; simp⟩
  case round =>
    obtain ⟨k, hk, rfl, hA⟩ := hrel
    by_cases hlt : k < s.size
    · have hg := bs_get s k hlt
      have hlt256 : s[k].toNat < 256 := s[k].toNat_lt
      have HS := hide (snoc_take _ _ _ hg)
      have HM := hide (List.mem_of_getElem? hg)
      clear hg
      cases hb : vb s[k].toNat with
      | true =>
        have HN : Hid (((bs s).take (k + 1)).all vb = true) := by
          show _ = _
          rw [HS.out, List.all_append, hA.out]
          simp [hb]
        unfold vb at hb
        simp only [decide_eq_true_eq] at hb
        rcases hb with ⟨h1, h2⟩ | ⟨h1, h2⟩ | h1
        · skip
          go_wp2
          go_round
          case rel => exact ⟨k + 1, by omega, by go_num, HN⟩
          case measure => simp [intOf]; omega
        · skip
          go_wp2
          go_round
          case rel => exact ⟨k + 1, by omega, by go_num, HN⟩
          case measure => simp [intOf]; omega
        · have b4 : ((s[k].toNat : Int) != 45) = false := by rw [h1]; rfl
          have b5 : ((s[k].toNat : Int) == 45) = true := by rw [h1]; rfl
          have l1 : s[k].toNat < 48 := by omega
          clear h1
          go_wp2
          go_round
          case rel => exact ⟨k + 1, by omega, by go_num, HN⟩
          case measure => simp [intOf]; omega
      | false =>
        have HN : Hid (volB s = false) := by
          show _ = _
          unfold volB
          rw [show (bs s).all vb = false by rw [List.all_eq_false]; exact ⟨_, HM.out, by simp [hb]⟩, Bool.and_false]
        unfold vb at hb
        simp only [decide_eq_false_iff_not] at hb
        have b4 : ((s[k].toNat : Int) == 45) = false := by simp; omega
        have b5 : ((s[k].toNat : Int) != 45) = true := by simp; omega
        by_cases h1 : s[k].toNat < 97
        · by_cases h2 : s[k].toNat < 48
          · clear hb
            go_wp2
            go_ret
            exact ⟨by rw [HN.out]; rfl, rfl⟩
          · have h3 : 57 < s[k].toNat := by omega
            clear hb
            go_wp2
            go_ret
            exact ⟨by rw [HN.out]; rfl, rfl⟩
        · have h3 : 122 < s[k].toNat := by omega
          have h4 : 57 < s[k].toNat := by omega
          clear hb
          go_wp2
          go_ret
          exact ⟨by rw [HN.out]; rfl, rfl⟩
    · obtain rfl : k = s.size := by omega
      have HA : Hid ((bs s).all vb = true) := by
        have := hA.out
        rw [← bs_length s, List.take_length] at this
        exact this
      clear hA
      by_cases h1 : s.size < 1
      · have HN : Hid (volB s = false) := by show _ = _; unfold volB; rw [decide_eq_false (by omega), Bool.false_and]
        go_wp2
        go_ret
        exact ⟨by rw [HN.out]; rfl, rfl⟩
      · have HN : Hid (volB s = decide ((s.size : Int) ≤ 32)) := by
          show _ = _
          unfold volB
          rw [HA.out, Bool.and_true, decide_eq_decide]
          omega
        go_wp2
        go_ret
        exact ⟨ret_bool HN.out.symm, rfl⟩

end Wi
end Go.Proofs.YtnfakgdgjkgekaaDoor
