/- A part of the proofs about package ssd: what its functions answer, call by call. -/
import Derived.Test.YtdcnjaomocehmaaLx
namespace Go.Proofs.Ytdcnjaomocehmaa
open Go.RowKit
namespace Wi

theorem parts_facts (s : ByteArray) (A C n : Nat) (hn : 64 * n = s.size) (h10 : n ≤ 10) (hA : A ≤ 10) (hC : C ≤ n) : ∃ (D b1 : Dv) (S X Y s1 s2 : ByteArray), (dv0 20).write A (bs s) = D ∧ (dv0 20).writeA A (bs s) = 0 ∧ s.extract 0 (64 * C) = s1 ∧ s.extract (64 * C) s.size = s2 ∧
    (dv0 20).write A (bs s1) = b1 ∧ (dv0 20).writeA A (bs s1) = 0 ∧ b1.write ((A : Int) + (C : Int)) (bs s2) = D ∧ b1.writeA ((A : Int) + (C : Int)) (bs s2) = 0 ∧
    D.readE 0 20 = 0 ∧ str (D.readS 0 20) = S ∧ D.readE 0 ((A : Int) + (C : Int)) = 0 ∧ str (D.readS 0 ((A : Int) + (C : Int))) = X ∧ D.readE ((A : Int) + (C : Int)) (20 - (A : Int) - (C : Int)) = 0 ∧ str (D.readS ((A : Int) + (C : Int)) (20 - (A : Int) - (C : Int))) = Y ∧
    X ++ Y = S ∧ S.size = 1280 ∧ S.extract (64 * A) (64 * (A + n)) = s ∧ b1.pend.length ≤ 10 ∧ D.pend.length ≤ 10 ∧ s1.size ≤ 640 ∧ s2.size ≤ 640 := by
  have hbl := bs_length s
  have e1 : bs (s.extract 0 (64 * C)) = (bs s).take (64 * C) := by rw [bs_cut]; simp
  have e2 : bs (s.extract (64 * C) s.size) = (bs s).drop (64 * C) := by rw [bs_cut, List.take_of_length_le]; rw [List.length_drop, bs_length]; exact Nat.le_refl _
  obtain ⟨w1, w2⟩ := write_fits (d := dv0 20) rfl rfl (A := A) (n := n) (data := bs s) (by omega) (by simp [dv0]; omega)
  obtain ⟨w3, w4⟩ := write_fits (d := dv0 20) rfl rfl (A := A) (n := C) (data := (bs s).take (64 * C)) (by rw [List.length_take]; omega) (by simp [dv0]; omega)
  obtain ⟨w5, w6⟩ := write_fits (d := (dv0 20).plus (puts A ((bs s).take (64 * C)) C)) rfl rfl (A := A + C) (n := n - C) (data := (bs s).drop (64 * C)) (by rw [List.length_drop]; omega) (by simp [dv0, Dv.plus]; omega)
  have hD : (dv0 20).plus (puts A (bs s) n) = ((dv0 20).plus (puts A ((bs s).take (64 * C)) C)).plus (puts (A + C) ((bs s).drop (64 * C)) (n - C)) := by
    unfold Dv.plus
    rw [List.append_assoc, ← puts_add, Nat.add_sub_cancel' hC]
  rw [Int.natCast_add] at w5 w6
  have hg : ((dv0 20).plus (puts A (bs s) n)).gone = false := rfl
  have hll : ((dv0 20).plus (puts A (bs s) n)).last.length = 20 := by simp [dv0, Dv.plus]
  have hok : ((dv0 20).plus (puts A (bs s) n)).Ok := (dv0_ok (by omega)).add (by simp [dv0]; omega) (by omega) _
  have hsp := secs_puts (d := dv0 20) (A := A) (n := n) (data := bs s) (by omega)
  have hpl : (((dv0 20).plus (puts A (bs s) n))).pend.length = n := by simp [dv0, puts_length, Dv.plus]
  refine ⟨_, (dv0 20).plus (puts A ((bs s).take (64 * C)) C), str (((dv0 20).plus (puts A (bs s) n)).readS 0 20), str (((dv0 20).plus (puts A (bs s) n)).readS 0 ((A : Int) + (C : Int))), str (((dv0 20).plus (puts A (bs s) n)).readS ((A : Int) + (C : Int)) (20 - (A : Int) - (C : Int))), _, _, w2, w1, rfl, rfl, by rw [e1]; exact w4, by rw [e1]; exact w3, ?_, by rw [e2]; exact w5, ?_⟩
  · rw [e2, w6]
    exact hD.symm
  · generalize ((dv0 20).plus (puts A (bs s) n)) = D at *
    obtain ⟨r1, r2⟩ := read_fits (d := D) hg (a := 0) (n := 20) (A := 0) (N := 20) rfl rfl (by omega)
    obtain ⟨r3, r4⟩ := read_fits (d := D) hg (a := 0) (n := (A : Int) + (C : Int)) (A := 0) (N := A + C) rfl (by omega) (by omega)
    obtain ⟨r5, r6⟩ := read_fits (d := D) hg (a := (A : Int) + (C : Int)) (n := 20 - (A : Int) - (C : Int)) (A := A + C) (N := 20 - (A + C)) (by omega) (by omega) (by omega)
    have t20 : D.secs 0 20 = D.secs 0 (A + C) ++ D.secs (A + C) (20 - (A + C)) := by
      have := D.secs_add 0 (A + C) (20 - (A + C))
      rwa [Nat.add_sub_cancel' (by omega), Nat.zero_add] at this
    have t3 : D.secs 0 20 = D.secs 0 A ++ (D.secs A n ++ D.secs (A + n) (20 - (A + n))) := by
      have h1 := D.secs_add 0 A (20 - A)
      have h2 := D.secs_add A n (20 - A - n)
      rw [Nat.add_sub_cancel' (by omega), Nat.zero_add] at h1
      rw [Nat.add_sub_cancel' (by omega)] at h2
      rw [h1, h2, show 20 - A - n = 20 - (A + n) by omega]
    have l1 := Dv.secs_length hok 0 A (by omega)
    refine ⟨r1, rfl, r3, rfl, r5, rfl, ?_, ?_, ?_, ?_, by omega, ?_, ?_⟩
    · rw [r2, r4, r6, t20, str_append]
    · rw [r2, str_size, Dv.secs_length hok 0 20 (by omega)]
    · rw [r2, str_cut, t3, List.drop_left' l1, show 64 * (A + n) - 64 * A = (D.secs A n).length by rw [hsp, hbl]; omega, List.take_left, hsp, str_bs]
    · show List.length (_ ++ _) ≤ _; rw [List.length_append, puts_length]; simp [dv0]; omega
    · rw [ByteArray.size_extract]; omega
    · rw [ByteArray.size_extract]; omega

set_option maxHeartbeats 4000000 in
set_option maxRecDepth 20000 in
theorem ssdParts_walk (s : ByteArray) (at_ cut : Int) (W : World) (hs : s.size ≤ 9223372036854775807) (hat : Num at_) (hcut : Num cut) : Calls Try.prog 9 #[.string s, .int .i64 at_, .int .i64 cut] W fun e w' => e = .returned (.bool true) ∧ Below W.heap.size W w' := by
  obtain ⟨ha1, ha2⟩ := hat
  obtain ⟨hc1, hc2⟩ := hcut
  obtain ⟨n, hn⟩ : ∃ n : Nat, n = s.size / 64 := ⟨_, rfl⟩
  have hq : (s.size : Int).tdiv 64 = (n : Int) := by rw [Int.tdiv_eq_ediv_of_nonneg (by omega)]; omega
  have hm1 : (s.size : Int).tmod 64 = ((s.size % 64 : Nat) : Int) := by rw [Int.tmod_eq_emod_of_nonneg (by omega)]; omega
  by_cases k1 : s.size % 64 = 0
  · have hsn : 64 * n = s.size := by omega
    rw [k1] at hm1
    have hnl : n ≤ 9223372036854775807 := by omega
    clear hn k1
    by_cases k2 : n ≤ 10
    · by_cases k3 : at_ < 0
      · go_enter Try.func9, Try.ntmps9
        go_wp2_with fail
        refine (new_any 20 (by omega) (by omega) W).mono ?_
        rintro e w1 ⟨rfl, hN1⟩
        have hM := hN1.my (Below.refl _ _)
        clear hN1
        go_wp2_with fail
        refine (new_any 20 (by omega) (by omega) w1).mono ?_
        rintro e w2 ⟨rfl, hN2⟩
        have hT := hM.two hN2
        clear hN2 hM
        have hb2 := hide hT.below
        clear hT
        go_wp2_with fail
        refine (awake_any _).mono ?_
        rintro e w3 ⟨rfl, hb3⟩
        go_wp2
        go_ret
        exact ⟨rfl, hb2.out.trans (hb3.mono hb2.out.size)⟩
      · by_cases k4 : 10 < at_
        · go_enter Try.func9, Try.ntmps9
          go_wp2_with fail
          refine (new_any 20 (by omega) (by omega) W).mono ?_
          rintro e w1 ⟨rfl, hN1⟩
          have hM := hN1.my (Below.refl _ _)
          clear hN1
          go_wp2_with fail
          refine (new_any 20 (by omega) (by omega) w1).mono ?_
          rintro e w2 ⟨rfl, hN2⟩
          have hT := hM.two hN2
          clear hN2 hM
          have hb2 := hide hT.below
          clear hT
          go_wp2_with fail
          refine (awake_any _).mono ?_
          rintro e w3 ⟨rfl, hb3⟩
          go_wp2
          go_ret
          exact ⟨rfl, hb2.out.trans (hb3.mono hb2.out.size)⟩
        · by_cases k5 : cut < 0
          · go_enter Try.func9, Try.ntmps9
            go_wp2_with fail
            refine (new_any 20 (by omega) (by omega) W).mono ?_
            rintro e w1 ⟨rfl, hN1⟩
            have hM := hN1.my (Below.refl _ _)
            clear hN1
            go_wp2_with fail
            refine (new_any 20 (by omega) (by omega) w1).mono ?_
            rintro e w2 ⟨rfl, hN2⟩
            have hT := hM.two hN2
            clear hN2 hM
            have hb2 := hide hT.below
            clear hT
            go_wp2_with fail
            refine (awake_any _).mono ?_
            rintro e w3 ⟨rfl, hb3⟩
            go_wp2
            go_ret
            exact ⟨rfl, hb2.out.trans (hb3.mono hb2.out.size)⟩
          · by_cases k6 : (n : Int) < cut
            · go_enter Try.func9, Try.ntmps9
              go_wp2_with fail
              refine (new_any 20 (by omega) (by omega) W).mono ?_
              rintro e w1 ⟨rfl, hN1⟩
              have hM := hN1.my (Below.refl _ _)
              clear hN1
              go_wp2_with fail
              refine (new_any 20 (by omega) (by omega) w1).mono ?_
              rintro e w2 ⟨rfl, hN2⟩
              have hT := hM.two hN2
              clear hN2 hM
              have hb2 := hide hT.below
              clear hT
              go_wp2_with fail
              refine (awake_any _).mono ?_
              rintro e w3 ⟨rfl, hb3⟩
              go_wp2
              go_ret
              exact ⟨rfl, hb2.out.trans (hb3.mono hb2.out.size)⟩
            · obtain ⟨A, rfl⟩ := Int.eq_ofNat_of_zero_le (show 0 ≤ at_ by omega)
              obtain ⟨C, rfl⟩ := Int.eq_ofNat_of_zero_le (show 0 ≤ cut by omega)
              have k4' : A ≤ 10 := by omega
              have k6' : C ≤ n := by omega
              clear k3 k4 k5 k6
              obtain ⟨D, b1, S, X, Y, s1, s2, F1, F2, g1, g2, F3, F4, F5, F6, F7, F8, F9, F10, F11, F12, F13, F14, F15, p1, p2, z1, z2⟩ := parts_facts s A C n hsn k2 k4' k6'
              have G1 := hide F1
              have G2 := hide F2
              have G3 := hide F3
              have G4 := hide F4
              have G5 := hide F5
              have G6 := hide F6
              have G7 := hide F7
              have G8 := hide F8
              have G9 := hide F9
              have G10 := hide F10
              have G11 := hide F11
              have G12 := hide F12
              clear F1 F2 F3 F4 F5 F6 F7 F8 F9 F10 F11 F12
              have q1 : (S.toList == S.toList) = true := beq_lists rfl
              have q2 : ((X ++ Y).toList == S.toList) = true := beq_lists F13
              have q3 : ((S.extract (64 * A) (64 * (A + n))).toList == s.toList) = true := beq_lists F15
              have q4 : 64 * (A + n) ≤ 1280 := by omega
              have q5 : X.size + Y.size ≤ 1280 := by rw [← ByteArray.size_append, F13, F14]; exact Nat.le_refl _
              clear F13 F15
              go_enter Try.func9, Try.ntmps9
              go_wp2_with fail
              refine (new_any 20 (by omega) (by omega) W).mono ?_
              rintro e w1 ⟨rfl, hN1⟩
              have hM := hN1.my (Below.refl _ _)
              clear hN1
              go_wp2_with fail
              refine (new_any 20 (by omega) (by omega) w1).mono ?_
              rintro e w2 ⟨rfl, hN2⟩
              have hT := hM.two hN2
              clear hN2 hM
              obtain ⟨X_, hD, hX, hgo⟩ := hT.go
              have hc := write_any hD (A : Int) s (by omega) (by omega) (by show 0 + _ ≤ _; omega)
              rw [G1.out, G2.out] at hc
              go_wp2_with fail
              refine hc.mono ?_
              rintro e w3 ⟨rfl, hl⟩
              replace hT := (hgo hl).symm
              clear hl hgo hD hX X_ hc
              obtain ⟨X_, hD, hX, hgo⟩ := hT.go
              have hc := write_any hD (A : Int) s1 (by omega) (by omega) (by show 0 + _ ≤ _; omega)
              rw [G3.out, G4.out] at hc
              go_wp2_with fail
              refine hc.mono ?_
              rintro e w4 ⟨rfl, hl⟩
              replace hT := hgo hl
              clear hl hgo hD hX X_ hc
              obtain ⟨X_, hD, hX, hgo⟩ := hT.go
              have hc := write_any hD ((A : Int) + (C : Int)) s2 (by omega) (by omega) (by omega)
              rw [G5.out, G6.out] at hc
              go_wp2_with fail
              refine hc.mono ?_
              rintro e w5 ⟨rfl, hl⟩
              replace hT := (hgo hl).symm
              clear hl hgo hD hX X_ hc
              obtain ⟨X_, hD, hX, hgo⟩ := hT.go
              have hc := read_any hD 0 20 (by omega) (by omega)
              rw [G7.out, G8.out] at hc
              go_wp2_with fail
              refine hc.mono ?_
              rintro e w6 ⟨rfl, hl⟩
              replace hT := (hT.later hl).symm
              clear hl hgo hD hX X_ hc
              obtain ⟨X_, hD, hX, hgo⟩ := hT.go
              have hc := read_any hD 0 20 (by omega) (by omega)
              rw [G7.out, G8.out] at hc
              go_wp2_with fail
              refine hc.mono ?_
              rintro e w7 ⟨rfl, hl⟩
              replace hT := (hT.later hl).symm
              clear hl hgo hD hX X_ hc
              obtain ⟨X_, hD, hX, hgo⟩ := hT.go
              have hc := read_any hD 0 ((A : Int) + (C : Int)) (by omega) (by omega)
              rw [G9.out, G10.out] at hc
              go_wp2_with fail
              refine hc.mono ?_
              rintro e w8 ⟨rfl, hl⟩
              replace hT := hT.later hl
              clear hl hgo hD hX X_ hc
              obtain ⟨X_, hD, hX, hgo⟩ := hT.go
              have hc := read_any hD ((A : Int) + (C : Int)) (20 - (A : Int) - (C : Int)) (by omega) (by omega)
              rw [G11.out, G12.out] at hc
              go_wp2_with fail
              refine hc.mono ?_
              rintro e w9 ⟨rfl, hl⟩
              replace hT := hT.later hl
              clear hl hgo hD hX X_ hc
              obtain ⟨X_, hD, hX, hgo⟩ := hT.go
              obtain ⟨Y_, hE, hY, hgo2⟩ := hT.symm.go
              have hpa := pending_any hD
              have hpb := pending_any hE
              have hbb := hide hT.below
              clear hT hgo hgo2 hX hY hD hE
              go_wp2_with fail
              refine hpa.mono ?_
              rintro e w' ⟨rfl, rfl⟩
              go_wp2_with fail
              refine hpb.mono ?_
              rintro e w' ⟨rfl, rfl⟩
              go_wp2_with fail
              refine (awake_any _).mono ?_
              rintro e w10 ⟨rfl, hb10⟩
              go_wp2
              go_ret
              exact ⟨rfl, hbb.out.trans (hb10.mono hbb.out.size)⟩
    · go_enter Try.func9, Try.ntmps9
      go_wp2_with fail
      refine (new_any 20 (by omega) (by omega) W).mono ?_
      rintro e w1 ⟨rfl, hN1⟩
      have hM := hN1.my (Below.refl _ _)
      clear hN1
      go_wp2_with fail
      refine (new_any 20 (by omega) (by omega) w1).mono ?_
      rintro e w2 ⟨rfl, hN2⟩
      have hT := hM.two hN2
      clear hN2 hM
      have hb2 := hide hT.below
      clear hT
      go_wp2_with fail
      refine (awake_any _).mono ?_
      rintro e w3 ⟨rfl, hb3⟩
      go_wp2
      go_ret
      exact ⟨rfl, hb2.out.trans (hb3.mono hb2.out.size)⟩
  · have hm2 : ((s.size % 64 : Nat) : Int) ≠ 0 := by omega
    generalize s.size % 64 = m at *
    go_enter Try.func9, Try.ntmps9
    go_wp2_with fail
    refine (new_any 20 (by omega) (by omega) W).mono ?_
    rintro e w1 ⟨rfl, hN1⟩
    have hM := hN1.my (Below.refl _ _)
    clear hN1
    go_wp2_with fail
    refine (new_any 20 (by omega) (by omega) w1).mono ?_
    rintro e w2 ⟨rfl, hN2⟩
    have hT := hM.two hN2
    clear hN2 hM
    have hb2 := hide hT.below
    clear hT
    go_wp2_with fail
    refine (awake_any _).mono ?_
    rintro e w3 ⟨rfl, hb3⟩
    go_wp2
    go_ret
    exact ⟨rfl, hb2.out.trans (hb3.mono hb2.out.size)⟩

end Wi
end Go.Proofs.Ytdcnjaomocehmaa
