/- How many sectors a head has, as the program tells. -/
import Derived.Test.YtnpbgjafahhadaaDoorRu
namespace Go.Proofs.YtnpbgjafahhadaaDoor
open Go.RowKit
namespace Re
open Cr
theorem cnt_lt (s : ByteArray) : cnt s < 65536 := by
  unfold cnt
  have h1 : (((bs s).drop 2).take 2).length ≤ 2 := by rw [List.length_take]; omega
  have h2 := num_lt (((bs s).drop 2).take 2) (fun b hb => bs_lt s b (List.mem_of_mem_drop (List.mem_of_mem_take hb)))
  have h3 : 256 ^ (((bs s).drop 2).take 2).length ≤ 256 ^ 2 := Nat.pow_le_pow_right (by omega) h1
  omega
theorem raw2 {s : ByteArray} (h : 64 ≤ s.size) : rawR ((bs s).drop 0) 2 = ((bs s).take 2, 2, 0) := by
  rw [List.drop_zero, rawR_ok (by omega) (by rw [bs_length]; omega)]
  rfl
theorem fix2 {s : ByteArray} (h : 64 ≤ s.size) : fixR ((bs s).drop 2) 2 = (cnt s, 2, 0) := by
  rw [fixR_ok (by omega) (by rw [List.length_drop, bs_length]; omega)]
  rfl
theorem str_two {l : List Nat} (hl : ∀ b ∈ l, b < 256) : str l = ⟨#[76, 82]⟩ ↔ l = [76, 82] := by
  constructor
  · intro h
    rw [← bs_str hl, h]
    rfl
  · intro h
    rw [h]
    rfl
set_option maxHeartbeats 4000000 in
theorem headSectors_any (s : ByteArray) (hs : s.size ≤ 1000000) (w : World) (T : Tab w) :
    Calls Tryd.prog 63 #[.string s] w fun e w' => e = .returned (.tuple #[.int .i64 ((hN s).1 : Nat), .int .i64 (hN s).2]) ∧ Below w.heap.size w w' := by
  obtain ⟨qn, qe, hq⟩ : ∃ qn qe, Hid (hN s = (qn, qe)) := ⟨_, _, rfl⟩
  rw [hq.out]
  by_cases h0 : s.size < 64
  · have h0' : (s.size : Int) < 64 := by omega
    have e1 : Hid (qn = 0 ∧ qe = 10) := by
      have := hq.out
      rw [hN, if_pos h0] at this
      cases this
      exact ⟨rfl, rfl⟩
    obtain ⟨rfl, rfl⟩ := e1.out
    clear e1 hq
    go_enter Tryd.func63, Tryd.ntmps63
    go_wp2
    go_ret2
    exact ⟨rfl, Below.refl _ _⟩
  · have h0' : ¬ (s.size : Int) < 64 := by omega
    have hrd := read_any s w
    have hr2 := hide (raw2 (s := s) (by omega))
    have hf2 := hide (fix2 (s := s) (by omega))
    have hst := str_two (l := (bs s).take 2) (fun b hb => bs_lt s b (List.mem_of_mem_take hb))
    have hq2 : Hid ((if ¬ (bs s).take 2 = [76, 82] ∨ cnt s < 1 ∨ 40 < cnt s then (0, 12)
      else if s.size < 64 * cnt s then (0, 10)
      else if (opened (s.extract 0 (64 * cnt s))).2 = 0 then (cnt s, 0) else (0, (opened (s.extract 0 (64 * cnt s))).2)) = (qn, qe)) := by
      have := hq.out
      rw [hN, if_neg h0] at this
      exact this
    have hop := fun hz w T => open_big (s.extract 0 (64 * cnt s)) hz w T
    have hcl := cnt_lt s
    simp only [Hid] at hq2
    simp only [← hst] at hq2
    clear hst hq
    have hxe : s.extract 0 (cnt s * 64) = s.extract 0 (64 * cnt s) := by rw [Nat.mul_comm]
    have S2 : (s.extract 0 (64 * cnt s)).size ≤ 1000000 := by rw [ByteArray.size_extract]; omega
    replace hop := hop S2
    rw [← hxe] at hop hq2
    replace hq2 := hide hq2
    clear S2 hxe
    generalize cnt s = k at *
    generalize hoo : opened (s.extract 0 (k * 64)) = oo at *
    obtain ⟨o1, o2⟩ := oo
    simp only at hop hq2
    replace hoo := hide hoo
    generalize hX : str ((bs s).take 2) = X at *
    replace hX := hide hX
    go_enter Tryd.func63, Tryd.ntmps63
    go_wp2_with fail
    refine hrd.mono ?_
    rintro x w1 ⟨rfl, hI1, b1⟩
    have hd2 := rraw_ok 2 hI1 (by omega) (by omega) (by omega)
    rw [hr2.out] at hd2
    simp only [Nat.zero_add] at hd2
    rw [hX.out] at hd2
    clear hrd hI1
    go_wp2_with fail
    refine hd2.mono ?_
    rintro x w2 ⟨rfl, hd2⟩
    have hf3 := rfix_ok 2 hd2.inn (by omega) (by omega) (by omega)
    rw [hf2.out] at hf3
    simp only at hf3
    have BA := b1.trans (hd2.below (B := w.heap.size) b1.size (Nat.le_refl _))
    clear hd2 b1 hr2
    go_wp2_with fail
    refine hf3.mono ?_
    rintro x w3 ⟨rfl, hd3⟩
    have BB := BA.trans (hd3.below (B := w.heap.size) BA.size (Nat.le_refl _))
    clear hd3 hf3 BA hf2
    have T3 := T.later BB
    by_cases hx : X = ⟨#[76, 82]⟩
    · subst hx
      by_cases hk1 : k < 1
      · obtain rfl : k = 0 := by omega
        have e1 : Hid (qn = 0 ∧ qe = 12) := by
          have := hq2.out
          rw [if_pos (.inr (.inl hk1))] at this
          cases this
          exact ⟨rfl, rfl⟩
        obtain ⟨rfl, rfl⟩ := e1.out
        clear e1 hq2
        go_wp2
        go_ret2
        exact ⟨rfl, BB⟩
      · by_cases hk2 : 40 < k
        · skip
          have e1 : Hid (qn = 0 ∧ qe = 12) := by
            have := hq2.out
            rw [if_pos (.inr (.inr hk2))] at this
            cases this
            exact ⟨rfl, rfl⟩
          obtain ⟨rfl, rfl⟩ := e1.out
          clear e1 hq2
          go_wp2
          go_ret2
          exact ⟨rfl, BB⟩
        · have hko : ¬ (¬ (⟨#[76, 82]⟩ : ByteArray) = ⟨#[76, 82]⟩ ∨ k < 1 ∨ 40 < k) := by
            rintro (h | h | h)
            · exact h rfl
            · omega
            · omega
          by_cases hk3 : s.size < 64 * k
          · have hk3b : (s.size : Int) < (k : Int) * 64 := by omega
            have e1 : Hid (qn = 0 ∧ qe = 10) := by
              have := hq2.out
              rw [if_neg hko, if_pos hk3] at this
              cases this
              exact ⟨rfl, rfl⟩
            obtain ⟨rfl, rfl⟩ := e1.out
            clear e1 hq2
            go_wp2
            go_ret2
            exact ⟨rfl, BB⟩
          · have hk3b : ¬ (s.size : Int) < (k : Int) * 64 := by omega
            have hk4 : k * 64 ≤ s.size := by omega
            have hc := hop w3 T3
            replace hq2 : Hid ((if o2 = 0 then (k, 0) else (0, o2)) = (qn, qe)) := by
              have := hq2.out
              rw [if_neg hko, if_neg hk3] at this
              exact this
            clear hko hop hoo hX hk3
            go_wp2_with fail
            refine hc.mono ?_
            rintro x w4 ⟨rfl, b4⟩
            have BF := BB.trans (b4.mono BB.size)
            clear hc b4 BB T3
            by_cases ho : o2 = 0
            · skip
              have e1 : Hid (qn = k ∧ qe = 0) := by
                have := hq2.out
                rw [if_pos ho] at this
                cases this
                exact ⟨rfl, rfl⟩
              obtain ⟨rfl, rfl⟩ := e1.out
              clear e1 hq2
              go_wp2
              go_ret2
              exact ⟨rfl, BF⟩
            · skip
              have e1 : Hid (qn = 0 ∧ qe = o2) := by
                have := hq2.out
                rw [if_neg ho] at this
                cases this
                exact ⟨rfl, rfl⟩
              obtain ⟨rfl, rfl⟩ := e1.out
              clear e1 hq2
              go_wp2
              go_ret2
              exact ⟨rfl, BF⟩
    · have hb : ¬ X.toList = [76, 82] := fun h => by
        have h2 := bne_lists hx
        rw [h, show (⟨#[76, 82]⟩ : ByteArray).toList = [76, 82] by decide +kernel] at h2
        simp at h2
      have e1 : Hid (qn = 0 ∧ qe = 12) := by
        have := hq2.out
        rw [if_pos (.inl hx)] at this
        cases this
        exact ⟨rfl, rfl⟩
      obtain ⟨rfl, rfl⟩ := e1.out
      clear e1 hq2
      go_wp2
      go_ret2
      exact ⟨rfl, BB⟩
end Re
end Go.Proofs.YtnpbgjafahhadaaDoor
