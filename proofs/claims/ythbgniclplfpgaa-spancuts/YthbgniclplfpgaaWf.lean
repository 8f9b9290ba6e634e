/- A part of the proofs about package span: what its functions answer, call by call. -/
import Derived.Test.YthbgniclplfpgaaWk
import Derived.Test.YthbgniclplfpgaaPc
namespace Go.Proofs.Ythbgniclplfpgaa
open Go.RowKit
namespace Sp

theorem info27 : (Try.prog.info? 27).map (fun i => (i.zero, i.size, i.bytes)) = some (some (.agg #[.int .i64 0, .int .i64 0]), 2, 16) := by kernel_rfl

theorem cells_two {w : World} {b : Nat} {u v : Value} (h0 : w.cell? ⟨b, 0, none⟩ = some u) (h1 : w.cell? ⟨b, 1, none⟩ = some v) : ∀ j x, [u, v][j]? = some x → w.cell? ((⟨b, 0, none⟩ : Addr).add j) = some x
  | 0, x, h => by simp at h; subst h; exact h0
  | 1, x, h => by simp at h; subst h; exact h1
  | j + 2, x, h => by simp at h

set_option maxHeartbeats 1000000 in
theorem add_any (v : Value) (xs : List (Int × Int)) (a e : Int) (w : World) (h : Own w v xs) (hn : xs.length ≤ 1000000) (ha : 0 ≤ a ∧ a ≤ 65536) (he : 0 ≤ e ∧ e ≤ 65536) :
    Calls Try.prog 39 #[v, .int .i64 a, .int .i64 e] w fun r w' => ∃ v', r = .returned v' ∧ Own w' v' (addF xs a e) ∧ w.grownBy w' v.ownBlock ∧ Moved w v v' := by
  by_cases hc : e ≤ a
  · have HA : Hid (addF xs a e = xs) := addF_no hc
    go_enter Try.func39, Try.ntmps39
    go_wp2
    go_ret
    exact ⟨v, rfl, by rw [HA.out]; exact h, ⟨rfl, rfl, rfl, Nat.le_refl _, fun _ _ _ => rfl⟩, Moved.refl _ _⟩
  · have HA : Hid (addF xs a e = xs ++ [(a, e - a)]) := addF_yes hc
    obtain ⟨i0, hi, hz0, hz1, hz2⟩ := info_parts info27
    have hk : ∀ o, Own (w.alloc o) v xs := fun o => h.later (below_alloc _ _)
    go_enter Try.func39, Try.ntmps39
    go_wp2_with (at_builtin; refine wpList_append_moved rfl (.tmp 11) (.tmp 17) 22 rfl 27 i0 _ 2 16 Try.underlying22 hi hz0 hz1 hz2 rfl (by decide) v _ _ rfl (hk _) ⟨w.heap.size, 0, none⟩ 1 1 [.int .i64 a, .int .i64 (e - a)] rfl rfl (cells_two (by simp) (by simp)) (enc2_oneCell [(a, e - a)]) (by unfold maxLen; omega) (by omega) ?_; intro v' w' h1 h2 h3)
    go_ret
    refine ⟨v', rfl, ?_, ?_, ?_⟩
    · rw [HA.out]; unfold Own; rw [enc2_append, List.length_append]; exact h1
    · exact grownBy_trans (v := v) (v' := v) (below_grownBy (below_alloc _ _) _) h2 (Moved.refl _ _)
    · rcases h3 with h3 | h3
      · exact .inl h3
      · exact .inr fun k hk => by have := h3 k hk; simp at this; omega

end Sp
end Go.Proofs.Ythbgniclplfpgaa
