/- Rows that are the same. -/
import Derived.Test.YtgdfmoehbgmfkaaLp
namespace Go.Proofs.Ytgdfmoehbgmfkaa
open Go.RowKit
namespace Li
open Wi
set_option maxHeartbeats 8000000 in
set_option maxRecDepth 100000 in
/-- Same, of rows that are the same. -/
theorem same_any {w : World} {a b : Option Addr} {n cap cap2 : Nat} {xs : List Ro} (hE : Er w a n xs) (hF : Er w b n xs) (hn : n ≤ 1000000) : Calls Try.prog 16 #[.slice a n cap, .slice b n cap2] w fun e w' => e = .returned (.bool true) ∧ Below w.heap.size w w' := by
  have hp := plain_any (cap := cap) hE hn
  have HF := hide hF
  have HL := hide hE.len
  have HRNG := hide hE.rng
  clear hE hF
  go_enter Try.func16, Try.ntmps16
  go_wp2_with fail
  refine hp.mono ?_
  rintro e w1 ⟨v, rfl, hrow, hb1⟩
  obtain ⟨a3, cap3, rfl⟩ := row_slice (own_base hrow (Nat.zero_le _))
  have HE := hide (er_own35 hrow HL.out HRNG.out)
  have HB1 := hide hb1
  have HF1 := hide (HF.out.later hb1)
  clear hp hrow hb1
  go_wp2
  go_loopw [6] (fun i wr => ∃ k : Nat, k ≤ n ∧ i = .int .i64 k ∧ Below w1.heap.size w1 wr) (fun i _ => n - (intOf i).toNat)
  case atStart => exact ⟨0, Nat.zero_le _, rfl, Below.refl _ _⟩
  case round =>
    obtain ⟨k, hk, rfl, hb⟩ := hrel
    by_cases hlt : k < n
    · obtain ⟨x, hx⟩ : ∃ x, xs[k]? = some x := ⟨_, List.getElem?_eq_getElem (by have := HL.out; omega)⟩
      obtain ⟨g, off, rfl, hg, c0, c1, c2⟩ := (HE.out.later hb).cells k x hx
      obtain ⟨g2, off2, rfl, hg2, d0, d1, d2⟩ := (HF1.out.later hb).cells k x hx
      obtain ⟨x1, x2, x3⟩ := x
      simp only at *
      have HB := hide hb
      clear hx hb
      go_wp2
      go_region
      all_goals go_wp2
      all_goals exact ⟨⟨k + 1, by omega, by go_num, HB.out.drew⟩, by simp [intOf]; omega⟩
    · obtain rfl : k = n := by omega
      have HB := hide hb
      clear hb
      go_wp2
      go_ret
      exact ⟨rfl, HB1.out.trans (HB.out.mono HB1.out.size)⟩
end Li
end Go.Proofs.Ytgdfmoehbgmfkaa
