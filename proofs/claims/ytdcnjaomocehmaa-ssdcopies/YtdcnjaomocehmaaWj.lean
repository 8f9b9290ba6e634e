/- A part of the proofs about package ssd: what its functions answer, call by call. -/
import Derived.Test.YtdcnjaomocehmaaWh
namespace Go.Proofs.Ytdcnjaomocehmaa
open Go.RowKit
namespace Wi

theorem write_any {w : World} {b : Nat} {X : Nat → Prop} {d : Dv} (h : Dev w b X d) (a : Int) (s : ByteArray) (ha : -9223372036854775808 ≤ a ∧ a ≤ 9223372036854775807) (hs : s.size ≤ 9223372036854775807) (hp : d.pend.length + s.size / 64 ≤ 1000000000) :
    Calls Try.prog 18 #[.pointer (some ⟨b, 0, none⟩), .int .i64 a, .string s] w fun e w' => e = .returned (.int .i64 (d.writeA a (bs s))) ∧ Left w b X (d.write a (bs s)) w' := by
  have h0 := h
  have hdiv : (s.size : Int).tdiv 64 = ((s.size / 64 : Nat) : Int) := by rw [Int.tdiv_eq_ediv_of_nonneg (by omega)]; omega
  obtain ⟨sv, pv, z, h, rfl⟩ := h
  cases hd : d.dead with
  | true =>
    have ht := turn_dead h hd
    have e1 : d.writeA a (bs s) = 17 := by simp [Dv.writeA, hd]
    have e2 : d.write a (bs s) = d := by simp [Dv.write, hd]
    rw [e1, e2]
    go_enter Try.func18, Try.ntmps18
    go_wp2_with fail
    refine ht.mono ?_
    rintro e w' ⟨rfl, rfl⟩
    go_wp2
    go_ret
    exact ⟨rfl, _, Does.refl h0⟩
  | false =>
    have e0 : d.writeA a (bs s) = d.writeE a (bs s) := by simp [Dv.writeA, hd]
    rw [e0]
    by_cases h1 : a < 0
    · have ht := turn_ok h hd
      have e1 : d.writeE a (bs s) = 1 := by simp [Dv.writeE, h1]
      have e2 : d.write a (bs s) = d.tick := by simp [Dv.write, hd, e1]
      rw [e1, e2]
      go_enter Try.func18, Try.ntmps18
      go_wp2_with fail
      refine ht.mono ?_
      rintro e w' ⟨rfl, ⟨z', h'⟩, hk⟩
      go_wp2
      go_ret
      exact ⟨rfl, _, does_same hk h'⟩
    · obtain ⟨A, rfl⟩ := Int.eq_ofNat_of_zero_le (show 0 ≤ a by omega)
      by_cases h2 : s.size % 64 = 0
      · by_cases h3 : A + s.size / 64 ≤ d.last.length
        · have e1 : d.writeE A (bs s) = 0 := by
            have : ¬ ((d.last.length : Int) - A < ((s.size / 64 : Nat) : Int)) := by omega
            unfold Dv.writeE Dv.beyond
            rw [bs_length, if_neg (by omega), if_neg (by omega), if_neg (by simpa using this)]
          have e2 : d.write A (bs s) = { d.tick with pend := d.pend ++ puts A (bs s) (s.size / 64) } := by simp [Dv.write, hd, e1, bs_length]
          rw [e1, e2]
          exact write_ok h0 A s (s.size / 64) (by omega) h3 hp hd
        · have e1 : d.writeE A (bs s) = 31 := by
            have : ((d.last.length : Int) - A < ((s.size / 64 : Nat) : Int)) := by omega
            unfold Dv.writeE Dv.beyond
            rw [bs_length, if_neg (by omega), if_neg (by omega), if_pos (by simpa using this)]
          have e2 : d.write A (bs s) = d.tick := by simp [Dv.write, hd, e1]
          have ht := turn_ok h hd
          have hal : ((s.size / 64 : Nat) : Int) * 64 = (s.size : Int) := by omega
          have hll : ((s.size / 64 : Nat) : Int) ≤ 9223372036854775807 := by omega
          rw [e1, e2]
          generalize s.size / 64 = N at *
          go_enter Try.func18, Try.ntmps18
          go_wp2_with fail
          refine ht.mono ?_
          rintro e w1 ⟨rfl, ⟨z', h'⟩, hk⟩
          have hf := fits_any h'.raw (A : Int) (N : Int) (by omega) (by omega)
          rw [d.tick.now_length, show d.tick.last.length = d.last.length from rfl, decide_eq_false (by omega)] at hf
          go_wp2_with fail
          refine hf.mono ?_
          rintro e w' ⟨rfl, rfl⟩
          go_wp2
          go_ret
          exact ⟨rfl, _, does_same hk h'⟩
      · have ht := turn_ok h hd
        have e1 : d.writeE A (bs s) = 30 := by
          unfold Dv.writeE
          rw [bs_length, if_neg (by omega), if_pos h2]
        have e2 : d.write A (bs s) = d.tick := by simp [Dv.write, hd, e1]
        have hne : ((((s.size / 64 : Nat) : Int) * 64) != (s.size : Int)) = true := by rw [bne_iff_ne]; omega
        have hll : ((s.size / 64 : Nat) : Int) * 64 ≤ 9223372036854775807 := by omega
        rw [e1, e2]
        generalize s.size / 64 = N at *
        go_enter Try.func18, Try.ntmps18
        go_wp2_with fail
        refine ht.mono ?_
        rintro e w' ⟨rfl, ⟨z', h'⟩, hk⟩
        go_wp2
        go_ret
        exact ⟨rfl, _, does_same hk h'⟩

end Wi
end Go.Proofs.Ytdcnjaomocehmaa
