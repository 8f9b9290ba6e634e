/- A part of the proofs about package ssd: what its functions answer, call by call. -/
import Derived.Test.YtdcnjaomocehmaaLx
import Derived.Test.YtdcnjaomocehmaaLc
import Derived.Test.YtdcnjaomocehmaaRq
import Derived.Test.YtdcnjaomocehmaaWr
namespace Go.Proofs.Ytdcnjaomocehmaa
open Go.RowKit
namespace Wi

theorem Mine.both {W w : World} {A B : Th} (h : Mine W w (A.and B)) : ∃ X Y, A w X ∧ B w Y := by
  obtain ⟨Z, ⟨X, Y, h1, h2, _⟩, _⟩ := h
  exact ⟨X, Y, h1, h2⟩
theorem run_small {N : Nat} {xs : List OpV} (hg : ∀ o ∈ xs, o.data.size ≤ 640) (hn : xs.length ≤ 50) (k : Nat) : ((dv0 N).run (xs.take k)).pend.length ≤ 500 := by
  have h1 := run_pend (xs.take k) (dv0 N) fun o ho => hg o (List.mem_of_mem_take ho)
  rw [List.length_take] at h1
  have : (dv0 N).pend.length = 0 := rfl
  omega
theorem My.mine {W w : World} {b : Nat} {d : Dv} (h : My W w b d) : Mine W w (devT b d) := h
set_option maxHeartbeats 8000000 in
set_option maxRecDepth 20000 in
theorem ssdPlays_walk (sec : Int) (a : Option Addr) (n cap : Nat) (xs : List OpV) (W : World) (hnum : Num sec) (hO : Os W a n xs) : Calls Try.prog 3 #[.int .i64 sec, .slice a n cap] W fun e w' => e = .returned (.bool true) ∧ Below W.heap.size W w' := by
  obtain ⟨m1, m2⟩ := hnum
  have hn := hO.most
  have HL := hide hO.len
  by_cases h40 : 40 < sec
  · by_cases h65 : sec ≤ 65536
    · go_enter Try.func3, Try.ntmps3
      go_wp2_with fail
      refine (awake_any _).mono ?_
      rintro e w3 ⟨rfl, hb3⟩
      go_wp2
      go_ret
      exact ⟨rfl, hb3⟩
    · cases hB : fewB xs with
      | false =>
        have hf := few_any (cap := cap) hO
        rw [hB] at hf
        go_enter Try.func3, Try.ntmps3
        go_wp2_with fail
        refine hf.mono ?_
        rintro e w' ⟨rfl, rfl⟩
        clear hf
        go_wp2_with fail
        refine (awake_any _).mono ?_
        rintro e w3 ⟨rfl, hb3⟩
        go_wp2
        go_ret
        exact ⟨rfl, hb3⟩
      | true =>
        have hf := few_any (cap := cap) hO
        rw [hB] at hf
        go_enter Try.func3, Try.ntmps3
        go_wp2_with fail
        refine hf.mono ?_
        rintro e w' ⟨rfl, rfl⟩
        clear hf
        go_wp2_with fail
        refine (new_no sec (by omega) _).mono ?_
        rintro e w2 ⟨rfl, rfl⟩
        go_wp2_with fail
        refine (awake_any _).mono ?_
        rintro e w3 ⟨rfl, hb3⟩
        go_wp2
        go_ret
        exact ⟨rfl, hb3⟩
  · cases hB : fewB xs with
    | false =>
      have hf := few_any (cap := cap) hO
      rw [hB] at hf
      go_enter Try.func3, Try.ntmps3
      go_wp2_with fail
      refine hf.mono ?_
      rintro e w' ⟨rfl, rfl⟩
      clear hf
      go_wp2_with fail
      refine (awake_any _).mono ?_
      rintro e w3 ⟨rfl, hb3⟩
      go_wp2
      go_ret
      exact ⟨rfl, hb3⟩
    | true =>
      by_cases h1 : sec < 1
      · skip
        have hf := few_any (cap := cap) hO
        rw [hB] at hf
        go_enter Try.func3, Try.ntmps3
        go_wp2_with fail
        refine hf.mono ?_
        rintro e w' ⟨rfl, rfl⟩
        clear hf
        go_wp2_with fail
        refine (new_no sec (by omega) _).mono ?_
        rintro e w2 ⟨rfl, rfl⟩
        go_wp2_with fail
        refine (awake_any _).mono ?_
        rintro e w3 ⟨rfl, hb3⟩
        go_wp2
        go_ret
        exact ⟨rfl, hb3⟩
      · obtain ⟨N, rfl⟩ := Int.eq_ofNat_of_zero_le (show 0 ≤ sec by omega)
        obtain ⟨hgood, h50⟩ := fewB_iff.1 hB
        have hgood' : ∀ o ∈ xs, o.data.size ≤ 640 := fun o ho => (hgood o ho).1
        have HG := hide hgood'
        clear hgood hgood'
        have hf := few_any (cap := cap) hO
        rw [hB] at hf
        go_enter Try.func3, Try.ntmps3
        go_wp2_with fail
        refine hf.mono ?_
        rintro e w' ⟨rfl, rfl⟩
        clear hf
        have HB := hide hB
        clear hB
        go_wp2_with fail
        refine (new_any N (by omega) (by omega) _).mono ?_
        rintro e w1 ⟨rfl, hN1⟩
        have hM := (hN1.my (Below.refl _ _)).mine
        clear hN1
        go_wp2_with fail
        refine (rnew_any N (by omega) w1).mono ?_
        rintro e w2 ⟨rfl, hR, hb2⟩
        have hT := (hM.new (devT_good _ _) hb2 hR).swap
        clear hM hR hb2
        obtain ⟨X, Y, hD, hR⟩ := hT.both
        have hsm := sameD_any hD hR (by show 0 ≤ _; omega)
        go_wp2_with fail
        refine hsm.mono ?_
        rintro e w3 ⟨rfl, hb3⟩
        have HT : Hid (Mine w' w3 ((devT (w'.heap.size + 1) ((dv0 N).run (xs.take 0))).and (refT w1.heap.size ((dv0 N).run (xs.take 0))))) := hT.later ((devT_good _ _).and (refT_good _ _)) hb3
        clear hT hsm hD hR hb3 X Y
        generalize w1.heap.size = rb at *
        go_wp2
        go_loopw [8] (fun i wr => ∃ k : Nat, k ≤ n ∧ i = .int .i64 k ∧ Mine w' wr ((devT (w'.heap.size + 1) ((dv0 N).run (xs.take k))).and (refT rb ((dv0 N).run (xs.take k))))) (fun i _ => n - (intOf i).toNat)
        case atStart => exact ⟨0, Nat.zero_le _, rfl, HT.out⟩
        case round =>
          clear HT
          obtain ⟨k, hk, rfl, hM⟩ := hrel
          by_cases hlt : k < n
          · obtain ⟨o, ho⟩ : ∃ o, xs[k]? = some o := ⟨_, List.getElem?_eq_getElem (by have := HL.out; omega)⟩
            have hmem := List.mem_of_getElem? ho
            have hsz := HG.out o hmem
            have hok := hO.ok o hmem
            have hp1 := run_small (N := N) HG.out h50 k
            have hp2 := run_small (N := N) HG.out h50 (k + 1)
            have hrun : (dv0 N).run (xs.take (k + 1)) = ((dv0 N).run (xs.take k)).step o := by rw [snoc_take _ _ _ ho, run_snoc]
            have HRUN := hide hrun
            rw [hrun] at hp2
            clear hrun
            obtain ⟨g, off, rfl, c0, c1, c2, c3, c4⟩ := hO.at hM.below ho
            obtain ⟨X, hD, hX, hgo⟩ := hM.go (refT_good _ _)
            have hc := does_any hD o (hok.to hM.below hX) hsz (by omega)
            have HO := hide ho
            clear ho hmem
            generalize (dv0 N).run (xs.take k) = d at *
            obtain ⟨ask, pl, nn, data, ka, kn, kc, keep⟩ := o
            have hca : ∀ {w : World} {Y : Nat → Prop}, refT rb d w Y → OpOk w Y ⟨ask, pl, nn, data, ka, kn, kc, keep⟩ → _ := fun hR ho => asked_any hR ⟨ask, pl, nn, data, ka, kn, kc, keep⟩ ho hsz (by omega)
            unfold OpV.cells at *
            simp only at *
            generalize d.stepE ⟨ask, pl, nn, data, ka, kn, kc, keep⟩ = E at *
            generalize str (d.stepS ⟨ask, pl, nn, data, ka, kn, kc, keep⟩) = S at *
            generalize d.step ⟨ask, pl, nn, data, ka, kn, kc, keep⟩ = d' at *
            go_wp2_with fail
            refine hc.mono ?_
            rintro e w4 ⟨rfl, hl⟩
            have hM2 := (hgo hl.t).swap
            clear hl hgo hD hX X hc c0 c1 c2 c3 c4 hM
            obtain ⟨Y, hR, hY, hgo⟩ := hM2.go (devT_good _ _)
            have hc := hca hR (hok.to hM2.below hY)
            obtain ⟨g', off', hbo, c0, c1, c2, c3, c4⟩ := hO.at hM2.below HO.out
            obtain ⟨rfl, rfl⟩ : g = g' ∧ off = off' := by simpa using hbo
            unfold OpV.cells at hc
            simp only at hc c0 c1 c2 c3 c4
            clear hbo hca
            go_wp2_with fail
            refine hc.mono ?_
            rintro e w5 ⟨rfl, hl⟩
            have hM3 := (hgo hl).swap
            clear hl hgo hR hY Y hc c0 c1 c2 c3 c4 hM2
            obtain ⟨X, Y, hD, hR⟩ := hM3.both
            have hsm := sameD_any hD hR (by omega)
            have q1 : (S.toList == S.toList) = true := beq_lists rfl
            have q2 : (E == E) = true := beq_self_eq_true E
            go_wp2_with fail
            refine hsm.mono ?_
            rintro e w6 ⟨rfl, hb6⟩
            have HM := hide (hM3.later ((devT_good _ _).and (refT_good _ _)) hb6)
            rw [← HRUN.out] at HM
            clear hM3 hD hR X Y hsm hb6
            go_wp2
            go_roundw
            case rel => exact ⟨k + 1, by omega, by go_num, HM.out⟩
            case measure => simp [intOf]; omega
          · obtain rfl : k = n := by omega
            have hbb := hide hM.below
            clear hM
            go_wp2_with fail
            refine (awake_any _).mono ?_
            rintro e w14 ⟨rfl, hb14⟩
            go_wp2
            go_ret
            exact ⟨rfl, hbb.out.trans (hb14.mono hbb.out.size)⟩

end Wi
end Go.Proofs.Ytdcnjaomocehmaa
