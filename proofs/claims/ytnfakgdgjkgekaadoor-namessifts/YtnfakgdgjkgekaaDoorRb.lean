/- The document's answer: texts of names, and names of texts. -/
import Derived.Test.YtnfakgdgjkgekaaDoorRa
namespace Go.Proofs.YtnfakgdgjkgekaaDoor
open Go.RowKit
namespace Wi

theorem pre_size' {v : ByteArray} {z : Int} (h : preE v z = 0) : (preS v z).size ≤ 35 := by
  have hvs := vol_size (pre_ok h).1
  rw [← bs_length, bs_preS h, List.length_append, bs_length]
  show v.size + 3 ≤ _
  omega
set_option maxHeartbeats 2000000 in
set_option maxRecDepth 20000 in
theorem rprint_any (v : ByteArray) (hv : v.size ≤ 9223372036854775807) (z q : Int) (hz : Num z) (hq : Num q) (w : World) : Calls Tryd.prog 12 #[.string v, .int .i64 z, .int .i64 q] w fun e w' => e = .returned (.tuple #[.string (prnS v z q), .int .i64 (prnE v z q)]) ∧ Below w.heap.size w w' := by
  have hpr := rprefix_any v hv z hz w
  obtain ⟨q1, q2⟩ := hq
  have HB0 := hide (Below.refl w.heap.size w)
  by_cases hE : preE v z = 0
  · have hpz := pre_size' hE
    rw [hE] at hpr
    by_cases hr : 0 ≤ q ∧ q < 1099511627776
    · have e1 : prnE v z q = 0 := by simp [prnE, hE, hr]
      have e2 : prnS v z q = preS v z ++ str (dgs 10 q.toNat) := by
        rw [show prnS v z q = str (prnL v z q) by simp [prnS, e1], prnL, str_append, (pre_ok hE).2.2.2]
      rw [e1, e2]
      obtain ⟨hr1, hr2⟩ := hr
      obtain ⟨n, rfl⟩ := Int.eq_ofNat_of_zero_le hr1
      rw [show ((n : Int)).toNat = n by omega]
      have hn : n < 1099511627776 := by omega
      have hdg := rdigits_any n hn w
      have hdz : (str (dgs 10 n)).size = 10 := by rw [str_size, dgs_length]
      clear e1 e2 hE hr1 hr2 q1 q2
      generalize preS v z = PS at *
      generalize str (dgs 10 n) = DS at *
      go_enter Tryd.func12, Tryd.ntmps12
      go_wp2_with fail
      refine hpr.mono ?_
      rintro e w1 ⟨rfl, hww⟩
      subst hww
      clear hpr
      go_wp2_with fail
      refine hdg.mono ?_
      rintro e w2 ⟨rfl, hb2⟩
      clear hdg
      go_wp2
      go_ret2
      exact ⟨rfl, hb2⟩
    · have e1 : prnE v z q = 31 := by simp [prnE, hE, hr]
      have e2 : prnS v z q = { data := #[] } := by simp [prnS, e1]
      rw [e1, e2]
      clear e1 e2 hE
      generalize preS v z = PS at *
      by_cases hq0 : q < 0
      · clear hr
        go_enter Tryd.func12, Tryd.ntmps12
        go_wp2_with fail
        refine hpr.mono ?_
        rintro e w1 ⟨rfl, hww⟩
        subst hww
        clear hpr
        go_wp2
        go_ret2
        exact ⟨rfl, HB0.out⟩
      · have hq1 : 1099511627776 ≤ q := by omega
        clear hr
        go_enter Tryd.func12, Tryd.ntmps12
        go_wp2_with fail
        refine hpr.mono ?_
        rintro e w1 ⟨rfl, hww⟩
        subst hww
        clear hpr
        go_wp2
        go_ret2
        exact ⟨rfl, HB0.out⟩
  · have e1 : prnE v z q = preE v z := by simp [prnE, hE]
    have e2 : prnS v z q = { data := #[] } := by simp [prnS, e1, hE]
    rw [e1, e2]
    have hor := pre_num v z
    clear e1 e2
    generalize preS v z = PS at *
    generalize preE v z = E at *
    have b1 : (E != 0) = true := by simp; omega
    have b0 : (E == 0) = false := by simp; omega
    clear hE hor
    go_enter Tryd.func12, Tryd.ntmps12
    go_wp2_with fail
    refine hpr.mono ?_
    rintro e w1 ⟨rfl, hww⟩
    subst hww
    clear hpr
    go_wp2
    go_ret2
    exact ⟨rfl, HB0.out⟩
def numI (s : ByteArray) : Int := if numB s then (numL (bs s) : Nat) else -1
set_option maxHeartbeats 4000000 in
theorem rnumber_any (s : ByteArray) (hs : s.size ≤ 10) (w : World) : Calls Tryd.prog 31 #[.string s] w fun e w' => e = .returned (.int .i64 (numI s)) ∧ w' = w := by
  go_enter Tryd.func31, Tryd.ntmps31
  go_wp2
  go_loop [3, 4] (fun x i => ∃ k m : Nat, k ≤ s.size ∧ i = .int .i64 k ∧ x = .int .i64 m ∧ Hid (m = numL ((bs s).take k)) ∧ Hid (∀ b ∈ (bs s).take k, isD b = true)) (fun _ i => s.size - (intOf i).toNat)
  case atStart => exact ⟨0, 0, Nat.zero_le _, rfl, rfl, by show _ = _; simp [numL], by show ∀ b ∈ _, _; simp⟩
  case round =>
    obtain ⟨k, m, hk, rfl, rfl, HM, HA⟩ := hrel
    by_cases hlt : k < s.size
    · have hg := bs_get s k hlt
      have hlt256 : s[k].toNat < 256 := s[k].toNat_lt
      have HS := hide (snoc_take _ _ _ hg)
      have HMM := hide (List.mem_of_getElem? hg)
      clear hg
      cases hb : isD s[k].toNat with
      | true =>
        have hd := dg_lt hb
        have hm : m < 68719476736 := by
          have h1 := numL_lt HA.out
          rw [← HM.out, List.length_take, bs_length] at h1
          have h2 : 16 ^ min k s.size ≤ 16 ^ 9 := Nat.pow_le_pow_right (by omega) (by omega)
          omega
        have HN : Hid (16 * m + dg s[k].toNat = numL ((bs s).take (k + 1))) := by show _ = _; rw [HS.out, numL_snoc, HM.out]
        have HA2 : Hid (∀ b ∈ (bs s).take (k + 1), isD b = true) := fun b hb' => by
          rw [HS.out] at hb'
          rcases List.mem_append.1 hb' with h | h
          · exact HA.out b h
          · rw [List.mem_singleton.1 h]; exact hb
        have HDG := hide (show dg s[k].toNat = if s[k].toNat ≤ 57 then s[k].toNat - 48 else s[k].toNat - 87 from rfl)
        unfold isD at hb
        rw [decide_eq_true_eq] at hb
        generalize dg s[k].toNat = DD at *
        clear HM HA HS HMM
        by_cases h57 : s[k].toNat ≤ 57
        · have hD : (DD : Int) = (s[k].toNat : Int) - 48 := by have := HDG.out; rw [if_pos h57] at this; omega
          have h48 : 48 ≤ s[k].toNat := by omega
          have HD := hide hD
          clear hb HDG hD
          go_wp2
          go_round
          case rel => exact ⟨k + 1, 16 * m + DD, by omega, by go_num, by first | rfl | (have := HD.out; congr 1; omega) | go_num, HN, HA2⟩
          case measure => simp [intOf]; omega
        · have hD : (DD : Int) = (s[k].toNat : Int) - 97 + 10 := by have := HDG.out; rw [if_neg h57] at this; omega
          have h97 : 97 ≤ s[k].toNat := by omega
          have h102 : s[k].toNat ≤ 102 := by omega
          have HD := hide hD
          clear hb HDG hD
          go_wp2
          go_round
          case rel => exact ⟨k + 1, 16 * m + DD, by omega, by go_num, by first | rfl | (have := HD.out; congr 1; omega) | go_num, HN, HA2⟩
          case measure => simp [intOf]; omega
      | false =>
        have HN : Hid (numI s = -1) := by
          show _ = _
          unfold numI numB
          rw [show (bs s).all isD = false by rw [List.all_eq_false]; exact ⟨_, HMM.out, by simp [hb]⟩]
          rfl
        unfold isD at hb
        rw [decide_eq_false_iff_not] at hb
        clear HM HA HS HMM
        by_cases h48 : s[k].toNat < 48
        · clear hb
          go_wp2
          go_ret
          exact ⟨ret_int HN.out.symm, rfl⟩
        · by_cases h97 : s[k].toNat < 97
          · have h57 : 57 < s[k].toNat := by omega
            clear hb
            go_wp2
            go_ret
            exact ⟨ret_int HN.out.symm, rfl⟩
          · have h57 : 57 < s[k].toNat := by omega
            have h102 : 102 < s[k].toNat := by omega
            clear hb
            go_wp2
            go_ret
            exact ⟨ret_int HN.out.symm, rfl⟩
    · obtain rfl : k = s.size := by omega
      have HN : Hid (numI s = (m : Nat)) := by
        have h1 := HM.out
        have h2 := HA.out
        rw [← bs_length s, List.take_length] at h1 h2
        show _ = _
        unfold numI numB
        rw [show (bs s).all isD = true by rw [List.all_eq_true]; exact h2, h1]
        rfl
      clear HM HA
      go_wp2
      go_ret
      exact ⟨ret_int HN.out.symm, rfl⟩
def ofI (s v : ByteArray) (z : Int) : Int := if preE v z = 0 ∧ s.size = (preS v z).size + 10 ∧ s.extract 0 (preS v z).size = preS v z then numI (s.extract (preS v z).size s.size) else -1
set_option maxHeartbeats 4000000 in
theorem rof_any (s v : ByteArray) (_hs : s.size ≤ 9223372036854775807) (hv : v.size ≤ 9223372036854775807) (z : Int) (hz : Num z) (w : World) : Calls Tryd.prog 19 #[.string s, .string v, .int .i64 z] w fun e w' => e = .returned (.int .i64 (ofI s v z)) ∧ w' = w := by
  have hpr := rprefix_any v hv z hz w
  by_cases hE : preE v z = 0
  · have hpz := pre_size' hE
    by_cases hsz : s.size = (preS v z).size + 10
    · obtain ⟨X, hX⟩ : ∃ X, s.extract 0 (preS v z).size = X := ⟨_, rfl⟩
      by_cases he : X = preS v z
      · have e1 : ofI s v z = numI (s.extract (preS v z).size s.size) := by unfold ofI; rw [if_pos ⟨hE, hsz, hX.trans he⟩]
        rw [e1]
        rw [hE] at hpr
        have hnu := rnumber_any (s.extract (preS v z).size s.size) (by rw [ByteArray.size_extract]; omega) w
        have v1 : (X.toList == (preS v z).toList) = true := beq_lists he
        have b5 : ((s.size : Int) != ((preS v z).size : Int) + 10) = false := by simp; omega
        have hsl := run_from9 s (preS v z).size (by omega)
        have hle : (preS v z).size ≤ s.size := by omega
        clear e1 hE he hsz
        generalize preS v z = PS at *
        generalize s.extract PS.size s.size = RS at *
        generalize numI RS = N at *
        go_enter Tryd.func19, Tryd.ntmps19
        go_wp2_with fail
        refine hpr.mono ?_
        rintro e w1 ⟨rfl, hww⟩
        subst hww
        clear hpr
        go_wp2_with fail
        refine hnu.mono ?_
        rintro e w2 ⟨rfl, hww⟩
        subst hww
        clear hnu
        go_wp2
        go_ret
        exact ⟨rfl, rfl⟩
      · have e1 : ofI s v z = -1 := by unfold ofI; rw [if_neg fun h => he (hX.symm.trans h.2.2)]
        rw [e1]
        rw [hE] at hpr
        have v1 : (X.toList == (preS v z).toList) = false := bne_lists he
        have b5 : ((s.size : Int) != ((preS v z).size : Int) + 10) = false := by simp; omega
        have hle : (preS v z).size ≤ s.size := by omega
        clear e1 hE he hsz
        generalize preS v z = PS at *
        go_enter Tryd.func19, Tryd.ntmps19
        go_wp2_with fail
        refine hpr.mono ?_
        rintro e w1 ⟨rfl, hww⟩
        subst hww
        clear hpr
        go_wp2
        go_ret
        exact ⟨rfl, rfl⟩
    · have e1 : ofI s v z = -1 := by unfold ofI; rw [if_neg fun h => hsz h.2.1]
      rw [e1]
      rw [hE] at hpr
      have b5 : ((s.size : Int) != ((preS v z).size : Int) + 10) = true := by simp; omega
      clear e1 hE hsz
      generalize preS v z = PS at *
      go_enter Tryd.func19, Tryd.ntmps19
      go_wp2_with fail
      refine hpr.mono ?_
      rintro e w1 ⟨rfl, hww⟩
      subst hww
      clear hpr
      go_wp2
      go_ret
      exact ⟨rfl, rfl⟩
  · have e1 : ofI s v z = -1 := by unfold ofI; rw [if_neg fun h => hE h.1]
    rw [e1]
    have hor := pre_num v z
    clear e1
    generalize preS v z = PS at *
    generalize preE v z = E at *
    have b1 : (E != 0) = true := by simp; omega
    have b0 : (E == 0) = false := by simp; omega
    clear hE hor
    go_enter Tryd.func19, Tryd.ntmps19
    go_wp2_with fail
    refine hpr.mono ?_
    rintro e w1 ⟨rfl, hww⟩
    subst hww
    clear hpr
    go_wp2
    go_ret
    exact ⟨rfl, rfl⟩

end Wi
end Go.Proofs.YtnfakgdgjkgekaaDoor
