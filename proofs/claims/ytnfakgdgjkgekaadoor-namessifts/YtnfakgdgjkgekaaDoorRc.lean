/- The document's answer: Parse. -/
import Derived.Test.YtnfakgdgjkgekaaDoorRb
namespace Go.Proofs.YtnfakgdgjkgekaaDoor
open Go.RowKit
namespace Wi

theorem of_parse {s : ByteArray} (h14 : 14 ≤ s.size) {k : Nat} (h1 : 1 ≤ k) (h2 : k ≤ 4) : ofI s (parV s) (k : Nat) = if okP s = true ∧ kd (rb s 1) = k then (numN (parD s) : Int) else -1 := by
  have h13 : 13 ≤ s.size := by omega
  cases hv : volB (parV s) with
  | false =>
    have hE : ¬ preE (parV s) (k : Nat) = 0 := by unfold preE; rw [hv]; simp
    have hok : okP s = false := by unfold okP; rw [hv]; simp
    unfold ofI
    rw [if_neg fun h => hE h.1, if_neg fun h => by rw [hok] at h; cases h.1]
  | true =>
    have hE : preE (parV s) (k : Nat) = 0 := by
      unfold preE kindB
      rw [hv, decide_eq_true (by omega)]
      rfl
    have hbs := bs_preS hE
    rw [show ((k : Int)).toNat = k by omega] at hbs
    have hVs : (parV s).size = s.size - 13 := by unfold parV; rw [ByteArray.size_extract]; omega
    have hps : (preS (parV s) (k : Nat)).size = s.size - 10 := by
      rw [← bs_length, hbs, List.length_append, bs_length, hVs]
      show _ + 3 = _
      omega
    have hD : s.extract (s.size - 10) s.size = parD s := by
      apply bs_inj
      have e1 : bs s = (bs (parV s) ++ [rb s 0, rb s 1, rb s 2]) ++ bs (parD s) := by
        rw [List.append_assoc, ← bs_parR h13, ← bs_parts h13]
      rw [bs_cut, e1, List.drop_left' (by rw [List.length_append, bs_length, hVs]; show _ + 3 = _; omega)]
      exact List.take_of_length_le (by rw [bs_length, parD_size h13]; omega)
    have hX : s.extract 0 (s.size - 10) = preS (parV s) (k : Nat) ↔ rb s 0 = 47 ∧ rb s 1 = ltr k ∧ rb s 2 = 47 := by
      have e1 : bs (s.extract 0 (s.size - 10)) = bs (parV s) ++ [rb s 0, rb s 1, rb s 2] := by
        have e2 : bs s = (bs (parV s) ++ [rb s 0, rb s 1, rb s 2]) ++ bs (parD s) := by
          rw [List.append_assoc, ← bs_parR h13, ← bs_parts h13]
        rw [bs_cut, List.drop_zero, e2, List.take_left' (by rw [List.length_append, bs_length, hVs]; show _ + 3 = _; omega)]
      constructor
      · intro h
        have := congrArg bs h
        rw [e1, hbs] at this
        simpa using List.append_cancel_left this
      · rintro ⟨a, b, c⟩
        apply bs_inj
        rw [e1, hbs, a, b, c]
    unfold ofI
    rw [hps, hD]
    by_cases hc : rb s 0 = 47 ∧ rb s 1 = ltr k ∧ rb s 2 = 47
    · rw [if_pos ⟨hE, by omega, hX.2 hc⟩]
      obtain ⟨a, b, c⟩ := hc
      have hk := kd_ltr h1 h2
      rw [← b] at hk
      unfold numI numN
      cases hn : numB (parD s) with
      | true =>
        have hok : okP s = true := by unfold okP; rw [decide_eq_true h13, hv, a, c, hk.2, hn]; rfl
        rw [if_pos (c := okP s = true ∧ kd (rb s 1) = k) ⟨hok, hk.1⟩]
        rfl
      | false =>
        have hok : okP s = false := by unfold okP; rw [hn]; simp
        rw [if_neg (c := okP s = true ∧ kd (rb s 1) = k) fun h => by rw [hok] at h; cases h.1]
        rfl
    · rw [if_neg fun h => hc (hX.1 h.2.2), if_neg fun h => hc ?_]
      obtain ⟨_, _, a, b, c, _⟩ := ok_parts h.1
      have := (isK_kd b).2.2
      rw [h.2] at this
      exact ⟨a, this.symm, c⟩
set_option maxHeartbeats 4000000 in
theorem rparse_any (s : ByteArray) (hs : s.size ≤ 9223372036854775807) (w : World) : Calls Tryd.prog 18 #[.string s] w fun e w' => e = .returned (.tuple #[.string (parS s), .int .i64 (parK s : Nat), .int .i64 (parQ s : Nat), .bool (okP s)]) ∧ w' = w := by
  by_cases h14 : s.size < 14
  · have e0 : okP s = false := by
      cases ho : okP s with
      | false => rfl
      | true =>
        obtain ⟨a, b, _⟩ := ok_parts ho
        unfold volB at b
        simp only [Bool.and_eq_true, decide_eq_true_eq] at b
        have : (parV s).size = s.size - 13 := by unfold parV; rw [ByteArray.size_extract]; omega
        omega
    rw [show parS s = { data := #[] } by simp [parS, e0], show parK s = 0 by simp [parK, e0], show parQ s = 0 by simp [parQ, e0], e0]
    clear e0
    go_enter Tryd.func18, Tryd.ntmps18
    go_wp2
    exact bodyPost_ret (v := .tuple #[.string { data := #[] }, .int .i64 0, .int .i64 0, .bool false]) (by simp [results, Tryd.results18, go_sem]) rfl ⟨rfl, rfl⟩
  · have h14' : 14 ≤ s.size := by omega
    have hVz : (parV s).size ≤ 9223372036854775807 := by unfold parV; rw [ByteArray.size_extract]; omega
    have hsl : ∀ w, (Instr.slice 9 (.string s) none (some (.int .i64 ((s.size : Int) - 13))) none).run Tryd.prog w = .ok (.string (parV s)) w := fun w => by
      have := run_upto9 s (s.size - 13) (by omega) w
      rw [show ((s.size - 13 : Nat) : Int) = (s.size : Int) - 13 by omega] at this
      exact this
    have HOF := hide fun k h1 h2 => of_parse (s := s) h14' (k := k) h1 h2
    have HRO := hide fun (k : Nat) (h : k ≤ 4) => rof_any s (parV s) hs hVz (k : Nat) (by unfold Num; omega) w
    have HPS : Hid (okP s = true → parS s = parV s ∧ parK s = kd (rb s 1) ∧ parQ s = numN (parD s)) := fun h => ⟨by simp [parS, h], by simp [parK, h], by simp [parQ, h]⟩
    have HPN : Hid (okP s = false → parS s = { data := #[] } ∧ parK s = 0 ∧ parQ s = 0) := fun h => ⟨by simp [parS, h], by simp [parK, h], by simp [parQ, h]⟩
    have HKD : Hid (okP s = true → 1 ≤ kd (rb s 1) ∧ kd (rb s 1) ≤ 4) := fun h => by
      obtain ⟨_, _, _, a, _⟩ := ok_parts h
      exact ⟨(isK_kd a).1, (isK_kd a).2.1⟩
    generalize parS s = PS at *
    generalize parK s = PK at *
    generalize parQ s = PQ at *
    generalize okP s = OK at *
    generalize kd (rb s 1) = KD at *
    generalize numN (parD s) = QN at *
    generalize parV s = V at *
    clear hVz
    go_enter Tryd.func18, Tryd.ntmps18
    go_wp2
    go_loop [7] (fun i => ∃ k : Nat, 1 ≤ k ∧ k ≤ 5 ∧ i = .int .i64 k ∧ Hid (∀ j, 1 ≤ j → j < k → ¬ (OK = true ∧ KD = j))) (fun i => 5 - (intOf i).toNat)
    case atStart => exact ⟨1, by omega, by omega, rfl, fun j h1 h2 => by omega⟩
    case round =>
      obtain ⟨k, hk1, hk5, rfl, HA⟩ := hrel
      by_cases hlt : k ≤ 4
      · have hro := HRO.out k hlt
        have hof := HOF.out k hk1 hlt
        by_cases hc : OK = true ∧ KD = k
        · rw [if_pos hc] at hof
          rw [hof] at hro
          obtain ⟨hc1, hc2⟩ := hc
          obtain ⟨p1, p2, p3⟩ := HPS.out hc1
          have HP : Hid (PS = V ∧ PK = k ∧ PQ = QN ∧ OK = true) := ⟨p1, p2.trans hc2, p3, hc1⟩
          clear hof hc1 hc2 p1 p2 p3 HA HPS HPN HKD HRO HOF
          go_wp2_with fail
          refine hro.mono ?_
          rintro e w1 ⟨rfl, hww⟩
          subst hww
          clear hro
          go_wp2
          exact bodyPost_ret (v := .tuple #[.string V, .int .i64 (k : Nat), .int .i64 (QN : Nat), .bool true]) (by simp [results, Tryd.results18, go_sem]) rfl ⟨by rw [HP.out.1, HP.out.2.1, HP.out.2.2.1, HP.out.2.2.2], rfl⟩
        · rw [if_neg hc] at hof
          rw [hof] at hro
          have HA2 : Hid (∀ j, 1 ≤ j → j < k + 1 → ¬ (OK = true ∧ KD = j)) := fun j h1 h2 => by
            rcases Nat.lt_or_ge j k with h | h
            · exact HA.out j h1 h
            · obtain rfl : j = k := by omega
              exact hc
          clear hof hc HA
          go_wp2_with fail
          refine hro.mono ?_
          rintro e w1 ⟨rfl, hww⟩
          subst hww
          clear hro
          go_wp2
          go_round
          case rel => exact ⟨k + 1, by omega, by omega, by go_num, HA2⟩
          case measure => simp [intOf]; omega
      · have hOK : OK = false := by
          cases OK with
          | false => rfl
          | true =>
            obtain ⟨a, b⟩ := HKD.out rfl
            exact absurd ⟨rfl, rfl⟩ (HA.out KD a (by omega))
        obtain ⟨p1, p2, p3⟩ := HPN.out hOK
        have HP : Hid (PS = { data := #[] } ∧ PK = 0 ∧ PQ = 0 ∧ OK = false) := ⟨p1, p2, p3, hOK⟩
        clear hOK p1 p2 p3 HA HPS HPN HKD HRO HOF
        go_wp2
        exact bodyPost_ret (v := .tuple #[.string { data := #[] }, .int .i64 0, .int .i64 0, .bool false]) (by simp [results, Tryd.results18, go_sem]) rfl ⟨by rw [HP.out.1, HP.out.2.1, HP.out.2.2.1, HP.out.2.2.2]; rfl, rfl⟩

end Wi
end Go.Proofs.YtnfakgdgjkgekaaDoor
