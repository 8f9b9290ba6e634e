/- A part of the proofs about package ssd: what its functions answer, call by call. -/
import Derived.Test.YtjbgojccfkmlnaaWe
namespace Go.Proofs.Ytjbgojccfkmlnaa
open Go.RowKit
namespace Wi

section
variable (a : Option Addr) (n cap lo hi mx : Nat) (w : World)
theorem run_sl3 (h1 : lo ≤ hi) (h3 : hi ≤ mx) (h4 : mx ≤ cap) : (Instr.slice 30 (.slice a n cap) (some (.int .i64 (lo : Nat))) (some (.int .i64 (hi : Nat))) (some (.int .i64 (mx : Nat)))).run Try.prog w = .ok (.slice (if mx = lo then a else a.map (·.add (lo * 4))) (hi - lo) (mx - lo)) w := by
  have b4 : (mx - lo = 0) ↔ mx = lo := by omega
  simp [Instr.slice, Instr.sliceBounds, Instr.sliceBound, run_underlying Try.underlying30, asIntOf, h1, h3, h4]
theorem run_slu3 (h3 : hi ≤ mx) (h4 : mx ≤ cap) : (Instr.slice 30 (.slice a n cap) none (some (.int .i64 (hi : Nat))) (some (.int .i64 (mx : Nat)))).run Try.prog w = .ok (.slice (if mx = 0 then a else a.map (·.add (0 * 4))) (hi - 0) (mx - 0)) w := by
  simp [Instr.slice, Instr.sliceBounds, Instr.sliceBound, run_underlying Try.underlying30, asIntOf, h3, h4]
theorem run_slf (h1 : lo ≤ n) (h4 : n ≤ cap) : (Instr.slice 30 (.slice a n cap) (some (.int .i64 (lo : Nat))) none none).run Try.prog w = .ok (.slice (if cap = lo then a else a.map (·.add (lo * 4))) (n - lo) (cap - lo)) w := by
  have b1 : ¬ n < lo := by omega
  have b4 : (cap - lo = 0) ↔ cap = lo := by omega
  simp [Instr.slice, Instr.sliceBounds, Instr.sliceBound, run_underlying Try.underlying30, asIntOf, b1]
theorem run_slu (h4 : hi ≤ cap) : (Instr.slice 30 (.slice a n cap) none (some (.int .i64 (hi : Nat))) none).run Try.prog w = .ok (.slice (if cap = 0 then a else a.map (·.add (0 * 4))) (hi - 0) (cap - 0)) w := by
  have b1 : ¬ cap < hi := by omega
  simp [Instr.slice, Instr.sliceBounds, Instr.sliceBound, run_underlying Try.underlying30, asIntOf, b1]
end
section
variable {w : World} {a : Option Addr} {n cap : Nat} {l : List Xt}
theorem Xs.len {v : Value} (h : Xs w v l) : ∃ a cap, v = .slice a l.length cap ∧ l.length ≤ cap ∧ cap ≤ 9223372036854775807 := by
  rcases h.2 with ⟨rfl, h0⟩ | ⟨g, off, cap, cur, rfl, hg, k1, k2, k3, k4⟩
  · exact ⟨none, 0, by rw [h0], by omega, by omega⟩
  · exact ⟨_, cap, rfl, k1, by unfold maxLen at k2; omega⟩
theorem Xs.sl3 (h : Xs w (.slice a l.length cap) l) {lo hi mx : Nat} (h1 : lo ≤ hi) (h2 : hi ≤ l.length) (h3 : hi ≤ mx) (h4 : mx ≤ cap) : ∃ a', (∀ w', (Instr.slice 30 (.slice a l.length cap) (some (.int .i64 (lo : Nat))) (some (.int .i64 (hi : Nat))) (some (.int .i64 (mx : Nat)))).run Try.prog w' = .ok (.slice a' (hi - lo) (mx - lo)) w') ∧ Xs w (.slice a' (hi - lo) (mx - lo)) ((l.drop lo).take (hi - lo)) ∧ (Value.slice a' (hi - lo) (mx - lo)).ownBlock = (Value.slice a l.length cap).ownBlock := by
  refine ⟨_, fun w' => run_sl3 a l.length cap lo hi mx w' h1 h3 h4, ?_, sub_own⟩
  have hs := Rw.sub h h1 h2 h3 h4
  have e1 : ((encXs l).drop (lo * 4)).take ((hi - lo) * 4) = encXs ((l.drop lo).take (hi - lo)) := by
    rw [(encXs_parts l lo (by omega)).2, (encXs_parts (l.drop lo) (hi - lo) (by rw [List.length_drop]; omega)).1]
  rw [e1] at hs
  unfold Xs
  rw [show ((l.drop lo).take (hi - lo)).length = hi - lo by rw [List.length_take, List.length_drop]; omega]
  exact hs
theorem Xs.slu3 (h : Xs w (.slice a l.length cap) l) {hi : Nat} (h2 : hi ≤ l.length) (h4 : l.length ≤ cap) : ∃ a', (∀ w', (Instr.slice 30 (.slice a l.length cap) none (some (.int .i64 (hi : Nat))) (some (.int .i64 (hi : Nat)))).run Try.prog w' = .ok (.slice a' hi hi) w') ∧ Xs w (.slice a' hi hi) (l.take hi) ∧ (Value.slice a' hi hi).ownBlock = (Value.slice a l.length cap).ownBlock := by
  refine ⟨_, fun w' => run_slu3 a l.length cap hi hi w' (Nat.le_refl _) (by omega), ?_, sub_own⟩
  have hs := Rw.sub h (Nat.zero_le hi) h2 (Nat.le_refl hi) (by omega)
  rw [Nat.zero_mul, List.drop_zero, Nat.sub_zero, (encXs_parts l hi h2).1] at hs
  unfold Xs
  rw [show (l.take hi).length = hi by rw [List.length_take]; omega]
  rw [← Nat.zero_mul 4] at hs
  exact hs
theorem Xs.slf (h : Xs w (.slice a l.length cap) l) {lo : Nat} (h2 : lo ≤ l.length) (h4 : l.length ≤ cap) : ∃ a', (∀ w', (Instr.slice 30 (.slice a l.length cap) (some (.int .i64 (lo : Nat))) none none).run Try.prog w' = .ok (.slice a' (l.length - lo) (cap - lo)) w') ∧ Xs w (.slice a' (l.length - lo) (cap - lo)) (l.drop lo) ∧ (Value.slice a' (l.length - lo) (cap - lo)).ownBlock = (Value.slice a l.length cap).ownBlock := by
  refine ⟨_, fun w' => run_slf a l.length cap lo w' h2 h4, ?_, sub_own⟩
  have hs := Rw.sub h h2 (Nat.le_refl _) h4 (Nat.le_refl _)
  rw [(encXs_parts l lo h2).2, List.take_of_length_le (by rw [encXs_length, List.length_drop]; omega)] at hs
  unfold Xs
  rw [List.length_drop]
  exact hs
end

end Wi
end Go.Proofs.Ytjbgojccfkmlnaa
