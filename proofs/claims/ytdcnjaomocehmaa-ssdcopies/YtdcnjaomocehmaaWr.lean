/- A part of the proofs about package ssd: what its functions answer, call by call. -/
import Derived.Test.YtdcnjaomocehmaaWq
namespace Go.Proofs.Ytdcnjaomocehmaa
open Go.RowKit
namespace Wi

theorem awake_facts : ∃ (SA SB R1 : ByteArray) (d1 d2 d3 : Dv), SA.size = 64 ∧ SB.size = 64 ∧ SA = str (List.replicate 64 97) ∧ SB = str (List.replicate 64 98) ∧ (SB.extract 0 32 ++ SA.extract 32 64 = R1) ∧ (dv0 1).write 0 (bs SA) = d1 ∧ d1.barrier = d2 ∧ d2.write 0 (bs SB) = d3 ∧
    (d3.crash [2]).readE 0 1 = 0 ∧ str ((d3.crash [2]).readS 0 1) = R1 ∧ (d3.crash []).readE 0 1 = 0 ∧ str ((d3.crash []).readS 0 1) = SA ∧ d2.pend.length = 0 ∧ d3.pend.length = 1 := by
  obtain ⟨r1, r2, r3, r4⟩ := aw_read
  have hs : (str (List.replicate 64 97)).size = 64 := by rw [str_size, List.length_replicate]
  refine ⟨_, _, str (List.replicate 32 98 ++ List.replicate 32 97), _, _, aw, hs, by rw [str_size, List.length_replicate], rfl, rfl, ?_, rfl, rfl, rfl, r1, by rw [r2], r3, by rw [r4], ?_, ?_⟩
  · have := aw_str
    rwa [hs] at this
  · rw [bs_full (by omega)]; rfl
  · rw [aw_eq]; rfl
set_option maxHeartbeats 4000000 in
theorem awake_any (W : World) : Calls Try.prog 11 #[] W fun e w' => e = .returned (.bool true) ∧ Below W.heap.size W w' := by
  obtain ⟨SA, SB, R1, d1, d2, d3, hsA, hsB, eA, eB, hR, e1, e2, e3, r1, r2, r3, r4, p2, p3⟩ := awake_facts
  have hfA : ∀ w, _ := fun w => full_any 97 (by omega) w
  have hfB : ∀ w, _ := fun w => full_any 98 (by omega) w
  rw [← eA] at hfA
  rw [← eB] at hfB
  have hn := new_any 1 (by omega) (by omega) W
  have E1 := hide e1
  have E2 := hide e2
  have E3 := hide e3
  have P2 := hide p2
  have P3 := hide p3
  have A1 := hide r1
  have A2 := hide r2
  have A3 := hide r3
  have A4 := hide r4
  clear eA eB e1 e2 e3 p2 p3 r1 r2 r3 r4
  go_enter Try.func11, Try.ntmps11
  go_wp2_with fail
  refine hn.mono ?_
  rintro e w1 ⟨rfl, hN⟩
  have hM := hN.my (Below.refl _ _)
  clear hn hN
  go_wp2_with fail
  refine (hfA _).mono ?_
  rintro e w2 ⟨rfl, hb2⟩
  replace hM := hM.later hb2
  obtain ⟨X, hD, hX, hgo⟩ := hM.go
  clear hb2
  go_wp2_with fail
  refine (write_any hD 0 SA (by omega) (by omega) (by show 0 + _ ≤ _; omega)).mono ?_
  rintro e w3 ⟨rfl, hl⟩
  replace hM := hgo hl
  rw [E1.out] at hM
  clear hl hgo hD hX X
  obtain ⟨X, hD, hX, hgo⟩ := hM.go
  go_wp2_with fail
  refine (barrier_any hD).mono ?_
  rintro e w4 ⟨rfl, hl⟩
  replace hM := hgo hl
  rw [E2.out] at hM
  clear hl hgo hD hX X
  go_wp2_with fail
  refine (hfB _).mono ?_
  rintro e w5 ⟨rfl, hb2⟩
  replace hM := hM.later hb2
  obtain ⟨X, hD, hX, hgo⟩ := hM.go
  clear hb2
  go_wp2_with fail
  refine (write_any hD 0 SB (by omega) (by omega) (by rw [P2.out]; omega)).mono ?_
  rintro e w6 ⟨rfl, hl⟩
  replace hM := hgo hl
  rw [E3.out] at hM
  clear hl hgo hD hX X
  obtain ⟨X, hD, hX, hgo⟩ := hM.go
  go_wp2_with fail
  refine (copy_any hD (by rw [P3.out]; omega)).mono ?_
  rintro e w7 ⟨rfl, hN⟩
  have hT := hM.two hN
  clear hN hM hgo hD hX X
  have hb8 := below_alloc w7 (.cells #[.int .i64 2] 3)
  have hN8 := heap_alloc_new w7 (.cells #[.int .i64 2] 3)
  obtain ⟨X, hD, hX, hgo⟩ := hT.go
  have hK : Ks (w7.alloc (.cells #[.int .i64 2] 3)) X (some ⟨w7.heap.size, 0, none⟩) 1 [2] := ⟨rfl, by omega, by simp, fun i x hi => by
    match i, hi with
    | 0, hi =>
      simp at hi
      subst hi
      exact ⟨_, _, rfl, lt_of_block hN8, fun e => by have := hD.lt _ e; omega, by rw [cell_of_row _ _ _ _ _ _ hN8]; rfl⟩
    | i + 1, hi => simp at hi⟩
  have hc1 := crash_any (hD.later hb8) (cap := 1) hK
  clear hN8 hK
  go_wp2_with fail
  refine hc1.mono ?_
  rintro e w8 ⟨rfl, hl⟩
  replace hT := (hgo (hl.first hb8)).symm
  clear hl hgo hD hX X hc1 hb8
  obtain ⟨X, hD, hX, hgo⟩ := hT.go
  have hc2 := crash_any hD (a := none) (n := 0) (cap := 0) (keep := []) ⟨rfl, by omega, by simp, by simp⟩
  go_wp2_with fail
  refine hc2.mono ?_
  rintro e w9 ⟨rfl, hl⟩
  replace hT := (hgo hl).symm
  clear hl hgo hD hX X hc2
  obtain ⟨X, hD, hX, hgo⟩ := hT.go
  have hr1 := read_any hD 0 1 (by omega) (by omega)
  rw [A1.out, A2.out] at hr1
  go_wp2_with fail
  refine hr1.mono ?_
  rintro e w10 ⟨rfl, hb10⟩
  replace hT := (hT.later hb10).symm
  clear hgo hD hX X hr1 hb10
  obtain ⟨X, hD, hX, hgo⟩ := hT.go
  have hr1 := read_any hD 0 1 (by omega) (by omega)
  rw [A3.out, A4.out] at hr1
  go_wp2_with fail
  refine hr1.mono ?_
  rintro e w11 ⟨rfl, hb11⟩
  have hbb := hide (hT.later hb11).below
  clear hgo hD hX X hr1 hb11 hT
  have hq1 : (R1.toList == (SB.extract 0 32 ++ SA.extract 32 64).toList) = true := beq_lists hR.symm
  have hq2 : (SA.toList == SA.toList) = true := beq_lists rfl
  have hne := later_ne w11
  go_wp2
  refine wp_region_later (by kernel_rfl) (by kernel_rfl) ?_
  (repeat (first | go_big_quiet_skip | (go_big_quiet_want; go_big_quiet_op; go_big_quiet_on)))
  (go_big_quiet_want; go_big_quiet_op; apply Exists.intro; refine ⟨fun p => ?_, ?_⟩; (· exact later_of (hfB _)); go_big_quiet_on)
  (repeat (first | go_big_quiet_skip | (go_big_quiet_want; go_big_quiet_op; go_big_quiet_on)))
  (go_big_quiet_want; go_big_quiet_op; apply Exists.intro; refine ⟨fun p => ?_, ?_⟩; (· exact later_of (hfA _)); go_big_quiet_on)
  (repeat (first | go_big_quiet_skip | (go_big_quiet_want; go_big_quiet_op; go_big_quiet_on)))
  (go_big_quiet_want; go_big_quiet_op; apply Exists.intro; refine ⟨fun p => ?_, ?_⟩; (· exact later_of (hfA _)); go_big_quiet_on)
  (repeat (first | go_big_quiet_skip | (go_big_quiet_want; go_big_quiet_op; go_big_quiet_on)))
  refine wpQuiet_nil ?_
  rintro _ ⟨p, rfl⟩
  go_wp2
  go_ret
  exact ⟨rfl, hbb.out.trans (p.below.mono hbb.out.size)⟩

end Wi
end Go.Proofs.Ytdcnjaomocehmaa
