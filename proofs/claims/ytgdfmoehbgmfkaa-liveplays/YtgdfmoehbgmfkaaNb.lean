/- Sum of a table. -/
import Derived.Test.YtgdfmoehbgmfkaaNa
import Derived.Test.YtgdfmoehbgmfkaaLf
namespace Go.Proofs.Ytgdfmoehbgmfkaa
open Go.RowKit
namespace Li
open Wi
def sumI : List Int → Int
  | [] => 0
  | x :: r => x + sumI r
theorem sumI_snoc (x : Int) : ∀ l : List Int, sumI (l ++ [x]) = sumI l + x
  | [] => by simp [sumI]
  | y :: r => by simp only [List.cons_append, sumI, sumI_snoc x r]; omega
theorem sumI_bnd : ∀ l : List Int, (∀ x ∈ l, 0 ≤ x ∧ x ≤ 65536) → 0 ≤ sumI l ∧ sumI l ≤ 65536 * l.length
  | [], _ => by simp [sumI]
  | x :: r, h => by
    have h1 := h x (List.mem_cons_self ..)
    have h2 := sumI_bnd r fun y hy => h y (List.mem_cons_of_mem _ hy)
    simp only [sumI, List.length_cons]
    omega
set_option maxHeartbeats 8000000 in
set_option maxRecDepth 100000 in
theorem sum_any {w : World} {tb mb : Nat} {rs : Rows} (hT : Tab w tb mb rs) (hmay : ∀ x ∈ rs, mayRo x = true) (hlen : rs.length ≤ 1000000) :
    Calls Try.prog 15 #[.pointer (some ⟨tb, 0, none⟩)] w fun e w' => e = .returned (.tuple #[.int .i64 (sumI (rs.map (·.2.1))), .int .i64 (sumI (rs.map (·.2.2)))]) ∧ Below w.heap.size w w' := by
  have hr := rows_any hT.at hlen
  have HLEN := hide hlen
  have HM := hide hmay
  clear hT hmay hlen
  go_enter Try.func15, Try.ntmps15
  go_wp2_with fail
  refine hr.mono ?_
  rintro e w1 ⟨v, rfl, hrow, hb1⟩
  obtain ⟨a3, cap3, rfl⟩ := row_slice (own_base hrow (Nat.zero_le _))
  have HE := hide (er_own hrow rfl (fun x hx => may_rng (HM.out x hx)))
  have HB1 := hide hb1
  clear hr hrow hb1
  generalize hN : rs.length = N at *
  have HN := hide hN
  have hN2 := HLEN.out
  clear hN
  go_wp2
  go_loopw [4, 5, 11] (fun p q i wr => ∃ k : Nat, k ≤ N ∧ i = .int .i64 k ∧ p = .int .i64 (sumI ((rs.take k).map (·.2.1))) ∧ q = .int .i64 (sumI ((rs.take k).map (·.2.2))) ∧ Below w1.heap.size w1 wr) (fun _ _ i _ => N - (intOf i).toNat)
  case atStart => exact ⟨0, Nat.zero_le _, rfl, rfl, rfl, Below.refl _ _⟩
  case round =>
    obtain ⟨k, hk, rfl, rfl, rfl, hb⟩ := hrel
    by_cases hlt : k < N
    · obtain ⟨x, hx⟩ : ∃ x, rs[k]? = some x := ⟨_, List.getElem?_eq_getElem (by have := HN.out; omega)⟩
      obtain ⟨g, off, rfl, hg, c0, c1, c2⟩ := (HE.out.later hb).cells k x hx
      have hb1 := sumI_bnd ((rs.take k).map (·.2.1)) (fun y hy => by
        obtain ⟨z, hz, rfl⟩ := List.mem_map.1 hy
        have := mayR_get (HM.out z (List.mem_of_mem_take hz))
        omega)
      have hb2 := sumI_bnd ((rs.take k).map (·.2.2)) (fun y hy => by
        obtain ⟨z, hz, rfl⟩ := List.mem_map.1 hy
        have := mayR_get (HM.out z (List.mem_of_mem_take hz))
        omega)
      rw [List.length_map, List.length_take] at hb1 hb2
      have hx5 := mayR_get (HM.out x (List.mem_of_getElem? hx))
      have HX := hide (snoc_take _ _ _ hx)
      obtain ⟨x1, x2, x3⟩ := x
      simp only at *
      have HS1 : Hid (sumI ((rs.take (k + 1)).map (·.2.1)) = sumI ((rs.take k).map (·.2.1)) + x2) := by show _ = _; rw [HX.out, List.map_append]; exact sumI_snoc _ _
      have HS2 : Hid (sumI ((rs.take (k + 1)).map (·.2.2)) = sumI ((rs.take k).map (·.2.2)) + x3) := by show _ = _; rw [HX.out, List.map_append]; exact sumI_snoc _ _
      generalize sumI ((rs.take k).map (·.2.1)) = s1 at *
      generalize sumI ((rs.take k).map (·.2.2)) = s2 at *
      have q1 : -9223372036854775808 ≤ s1 + x2 ∧ s1 + x2 ≤ 9223372036854775807 := by omega
      have q2 : -9223372036854775808 ≤ s2 + x3 ∧ s2 + x3 ≤ 9223372036854775807 := by omega
      obtain ⟨q1, q1'⟩ := q1
      obtain ⟨q2, q2'⟩ := q2
      have HB := hide (hb.alloc hb.size (.cells #[.int .i64 x1, .int .i64 x2, .int .i64 x3] 58))
      clear hx hb hb1 hb2 hx5
      go_wp2
      go_roundw
      case rel => exact ⟨k + 1, by omega, by go_num, by rw [HS1.out], by rw [HS2.out], HB.out⟩
      case measure => simp [intOf]; omega
    · obtain rfl : k = N := by omega
      have htk : rs.take k = rs := List.take_of_length_le (by have := HN.out; omega)
      rw [htk]
      have HB := hide hb
      clear hb htk
      go_wp2
      go_ret2
      exact ⟨rfl, HB1.out.trans (HB.out.mono HB1.out.size)⟩
end Li
end Go.Proofs.Ytgdfmoehbgmfkaa
