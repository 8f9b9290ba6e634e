/- The chapter's examples. -/
import Derived.Test.YtnfakgdgjkgekaaDoorWq
namespace Go.Proofs.YtnfakgdgjkgekaaDoor
open Go.RowKit
namespace Wi

def vol3 : ByteArray := { data := #[118, 111, 108] }
theorem prn_ex : prnS vol3 1 255 = { data := #[118, 111, 108, 47, 100, 47, 48, 48, 48, 48, 48, 48, 48, 48, 102, 102] } := by decide
theorem prn_ex0 : prnE vol3 1 255 = 0 := by decide
theorem run_ex {m : Nat} (h : RunOk [1, 2, 4] 1 m) : m = 2 := h.uniq ⟨fun j hj => by
  rcases (show j = 0 ∨ j = 1 by omega) with rfl | rfl <;> decide, by decide⟩
theorem Is.new (w : World) (l : List Int) (hl : ∀ x ∈ l, Num x) (cs : Array Value) (hc : cs = (encI l).toArray) : Is (w.alloc (.cells cs 3)) (some ⟨w.heap.size, 0, none⟩) l.length l := by
  subst hc
  refine ⟨rfl, hl, fun i x hi => ⟨w.heap.size, 0, rfl, by simp, ?_⟩⟩
  rw [cell_of_row _ _ _ _ _ _ (heap_alloc_new w _), Nat.zero_add]
  simpa using encI_get hi
set_option maxHeartbeats 2000000 in
theorem awake_any (w : World) (T : Tz w) : Calls Tryd.prog 10 #[] w fun e w' => e = .returned (.bool true) ∧ Below w.heap.size w w' := by
  have hp := print_any vol3 (by decide) 1 255 (by unfold Num; omega) (by unfold Num; omega) w T
  rw [prn_ex, prn_ex0] at hp
  unfold vol3 at hp
  have v1 : (({ data := #[118, 111, 108, 47, 100, 47, 48, 48, 48, 48, 48, 48, 48, 48, 102, 102] } : ByteArray).toList == ({ data := #[118, 111, 108, 47, 100, 47, 48, 48, 48, 48, 48, 48, 48, 48, 102, 102] } : ByteArray).toList) = true := beq_lists rfl
  go_enter Tryd.func10, Tryd.ntmps10
  go_wp2_with fail
  refine hp.mono ?_
  rintro e w1 ⟨rfl, hb1⟩
  have HB1 := hide hb1
  clear hp hb1
  have B1 := below_alloc w1 (.cells #[.int .i64 1, .int .i64 2, .int .i64 4] 3)
  have hr := run_any (cap := 3) (Is.new w1 [1, 2, 4] (by unfold Num; simp) #[.int .i64 1, .int .i64 2, .int .i64 4] rfl) (by decide) 1 (by unfold Num; omega)
  have HB2 := hide (HB1.out.trans (B1.mono HB1.out.size))
  clear HB1 B1
  go_wp2_with fail
  refine hr.mono ?_
  rintro e w2 ⟨v2, rfl, m, hm, hN⟩
  obtain rfl := run_ex hm
  have HB3 := hide (HB2.out.trans (hN.below.mono HB2.out.size))
  obtain ⟨a2, c2, rfl⟩ := hN.row.form
  have hI : Is w2 a2 2 [1, 2] := hN.row.is rfl (by unfold Num; simp [runL]; omega)
  have B2 := below_alloc w2 (.cells #[.int .i64 1, .int .i64 2] 3)
  have hi := ints_same (c := c2) (d := 2) (hI.later B2) (Is.new w2 [1, 2] (by unfold Num; simp) #[.int .i64 1, .int .i64 2] rfl) (by omega)
  have HB4 := hide (HB3.out.trans (B2.mono HB3.out.size))
  clear hr hm hN HB2 HB3 hI B2
  go_wp2_with fail
  refine hi.mono ?_
  rintro e w3 ⟨rfl, hb3⟩
  have HB5 := hide (HB4.out.trans (hb3.mono HB4.out.size))
  clear hi hb3
  go_wp2
  go_ret
  exact ⟨rfl, HB5.out⟩

end Wi
end Go.Proofs.YtnfakgdgjkgekaaDoor
