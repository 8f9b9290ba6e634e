/- The chapter's example. -/
import Derived.Test.YtbgadcofjhgmiaaWf
import Derived.Test.YtbgadcofjhgmiaaWg
namespace Go.Proofs.Ytbgadcofjhgmiaa
open Go.RowKit
namespace Sp

theorem sl_new {w : World} {k : Nat} {L : List (Int × Int)} (hf : ∀ x ∈ L, Fit x) (hn : L.length ≤ 1000000) (h : w.heap[k]? = some (.cells (enc2 L).toArray 43 (0, 0))) : Sl w (some ⟨k, 0, none⟩) L.length L :=
  ⟨rfl, by omega, hf, fun i hi => ⟨k, 0, rfl, lt_of_block h, by
    rw [Nat.zero_add, cell_of_row _ _ _ _ _ _ h, List.getElem?_toArray]
    exact enc2_get0 L i hi, by
    rw [Nat.zero_add, cell_of_row _ _ _ _ _ _ h, List.getElem?_toArray]
    exact enc2_get1 L i hi⟩⟩
theorem own_slot {w : World} {v : Value} {L : List (Int × Int)} (h : Own w v L) (hf : ∀ x ∈ L, Fit x) : ∃ a c, v = .slice a L.length c ∧ ∀ w', Below w.heap.size w w' → Sl w' a L.length L := by
  obtain ⟨a, c, e, _, hs⟩ := h.sl' hf
  exact ⟨a, c, e, fun w' hb => hs.later hb⟩
theorem sec_fits {s p n : Nat} (hs : 1 ≤ s) (hs2 : s ≤ 65536) (hn : n ≤ s) : ∀ x ∈ secL s p n, Fit x := fun x hx => by
  have := sec_fit hs hs2 hn x hx
  unfold Fit
  omega
theorem sec_allB {s p n : Nat} (hs : 1 ≤ s) (hs2 : s ≤ 65536) (hn : n ≤ s) : allB (secL s p n) = true := by
  unfold allB
  rw [List.all_eq_true]
  intro x hx
  have := sec_fit hs hs2 hn x hx
  exact mayB_ok (by omega)
set_option maxRecDepth 100000 in
set_option maxHeartbeats 8000000 in
theorem awake_any (w : World) : Calls Try.prog 15 #[] w fun e w' => e = .returned (.bool true) ∧ Below w.heap.size w w' := by
  have hc := new_any 4 w
  rw [if_pos (show mayR 4 0 0 = true by decide)] at hc
  go_enter Try.func15, Try.ntmps15
  go_wp2_with fail
  refine hc.mono ?_
  rintro e w1 ⟨rfl, hb1⟩
  have HB1 := hide (hb1.alloc hb1.size (.cells #[.int .i64 4, .int .i64 0, .int .i64 0] 23))
  have HR1 : Hid (∀ w', Below (w1.alloc (.cells #[.int .i64 4, .int .i64 0, .int .i64 0] 23)).heap.size (w1.alloc (.cells #[.int .i64 4, .int .i64 0, .int .i64 0] 23)) w' → Rc w' w1.heap.size 4 0 0) := fun w' hb => (Rc.new w1 4 0 0).later hb
  obtain ⟨W1, hW1⟩ : ∃ W1, W1 = w1.alloc (.cells #[.int .i64 4, .int .i64 0, .int .i64 0] 23) := ⟨_, rfl⟩
  have HW1 := hide hW1
  have hc := push_ok 4 0 0 3 (by decide) (by decide) (by decide) (w1.alloc (.cells #[.int .i64 4, .int .i64 0, .int .i64 0] 23))
  rw [show secL 4 0 3 = [(0, 3)] by decide] at hc
  rw [← hW1] at HB1 HR1
  clear hb1 hW1
  go_wp2_with fail
  refine hc.mono ?_
  rintro e w2 ⟨v2, rfl, ho, hfr, hb2⟩
  rw [← HW1.out] at hb2
  have HB2 := hide (HB1.out.trans (hb2.mono HB1.out.size))
  obtain ⟨a2, c2, rfl, hs2⟩ := own_slot ho (fun x hx => by simp at hx; subst hx; unfold Fit; simp only; omega)
  have HS2 := hide hs2
  simp only [List.length_cons, List.length_nil, Nat.zero_add] at HS2
  clear hc ho hfr hb2 hs2
  obtain ⟨r0, r1, r2, _⟩ := Rc.new w2 4 3 0
  have hc := pop_ok 4 3 0 2 (by decide) (by decide) (w2.alloc (.cells #[.int .i64 4, .int .i64 3, .int .i64 0] 23))
  have HB2' := hide (HB2.out.alloc HB2.out.size (.cells #[.int .i64 4, .int .i64 3, .int .i64 0] 23))
  go_wp2_with fail
  refine hc.mono ?_
  rintro e w3 ⟨v3, rfl, _, _, hb3⟩
  have HB3 := hide (HB2'.out.trans (hb3.mono HB2'.out.size))
  have HS3 : Hid (∀ w', Below w3.heap.size w3 w' → Sl w' a2 1 [(0, 3)]) := fun w' hb => HS2.out w' ((below_alloc w2 (.cells #[.int .i64 4, .int .i64 3, .int .i64 0] 23)).trans ((hb3.trans (hb.mono hb3.size)).mono (below_alloc w2 (.cells #[.int .i64 4, .int .i64 3, .int .i64 0] 23)).size))
  clear hc hb3 r0 r1 r2 HS2
  obtain ⟨r0, r1, r2, _⟩ := Rc.new w3 4 3 2
  have hc := push_ok 4 3 2 3 (by decide) (by decide) (by decide) (w3.alloc (.cells #[.int .i64 4, .int .i64 3, .int .i64 2] 23))
  rw [show secL 4 3 3 = [(3, 1), (0, 2)] by decide] at hc
  have HB3' := hide (HB3.out.alloc HB3.out.size (.cells #[.int .i64 4, .int .i64 3, .int .i64 2] 23))
  go_wp2_with fail
  refine hc.mono ?_
  rintro e w4 ⟨v4, rfl, ho, hfr, hb4⟩
  have HB4 := hide (HB3'.out.trans (hb4.mono HB3'.out.size))
  obtain ⟨a4, c4, rfl, hs4⟩ := own_slot ho (fun x hx => by simp at hx; rcases hx with rfl | rfl <;> (unfold Fit; simp only; omega))
  have HS3' : Hid (∀ w', Below w4.heap.size w4 w' → Sl w' a2 1 [(0, 3)]) := fun w' hb => HS3.out w' ((below_alloc w3 (.cells #[.int .i64 4, .int .i64 3, .int .i64 2] 23)).trans ((hb4.trans (hb.mono hb4.size)).mono (below_alloc w3 (.cells #[.int .i64 4, .int .i64 3, .int .i64 2] 23)).size))
  have HS4 := hide hs4
  simp only [List.length_cons, List.length_nil, Nat.zero_add] at HS4
  clear hc ho hfr hb4 hs4 r0 r1 r2 HS3
  have b0 := below_alloc w4 (.cells #[.int .i64 4, .int .i64 6, .int .i64 2] 23)
  have b1 := b0.alloc b0.size (.cells #[.int .i64 0, .int .i64 3] 43)
  have hh1 := heap_alloc_new (w4.alloc (.cells #[.int .i64 4, .int .i64 6, .int .i64 2] 23)) (.cells #[.int .i64 0, .int .i64 3] 43)
  rw [show (w4.alloc (.cells #[.int .i64 4, .int .i64 6, .int .i64 2] 23)).heap.size = w4.heap.size + 1 by simp] at hh1
  have hL := sl_new (L := [(0, 3)]) (fun x hx => by simp at hx; subst hx; unfold Fit; simp only; omega) (by simp) hh1
  have hc := same_any a2 (some ⟨w4.heap.size + 1, 0, none⟩) 1 1 c2 1 [(0, 3)] [(0, 3)] _ (HS3'.out _ b1) hL
  rw [decide_eq_true rfl] at hc
  have HR4 : Hid (∀ w', Below ((w4.alloc (.cells #[.int .i64 4, .int .i64 6, .int .i64 2] 23)).alloc (.cells #[.int .i64 0, .int .i64 3] 43)).heap.size ((w4.alloc (.cells #[.int .i64 4, .int .i64 6, .int .i64 2] 23)).alloc (.cells #[.int .i64 0, .int .i64 3] 43)) w' → Rc w' w4.heap.size 4 6 2) := fun w' hb => ((Rc.new w4 4 6 2).later (below_alloc _ _)).later hb
  have HBB := hide (HB4.out.trans (b1.mono HB4.out.size))
  have HS4' : Hid (∀ w', Below ((w4.alloc (.cells #[.int .i64 4, .int .i64 6, .int .i64 2] 23)).alloc (.cells #[.int .i64 0, .int .i64 3] 43)).heap.size ((w4.alloc (.cells #[.int .i64 4, .int .i64 6, .int .i64 2] 23)).alloc (.cells #[.int .i64 0, .int .i64 3] 43)) w' → Sl w' a4 2 [(3, 1), (0, 2)]) := fun w' hb => HS4.out w' (b1.trans (hb.mono b1.size))
  clear b0 b1 hh1 hL HS3' HS4
  go_wp2_with fail
  refine hc.mono ?_
  rintro e w5 ⟨rfl, hb5⟩
  have HB5 := hide (HBB.out.trans (hb5.mono HBB.out.size))
  have HR5 : Hid (∀ w', Below w5.heap.size w5 w' → Rc w' w4.heap.size 4 6 2) := fun w' hb => HR4.out w' (hb5.trans (hb.mono hb5.size))
  have HS5 : Hid (∀ w', Below w5.heap.size w5 w' → Sl w' a4 2 [(3, 1), (0, 2)]) := fun w' hb => HS4'.out w' (hb5.trans (hb.mono hb5.size))
  clear hc hb5 HR4 HS4' HBB
  have hb := below_alloc w5 (.cells #[.int .i64 3, .int .i64 1, .int .i64 0, .int .i64 2] 43)
  have hL := sl_new (L := [(3, 1), (0, 2)]) (fun x hx => by simp at hx; rcases hx with rfl | rfl <;> (unfold Fit; simp only; omega)) (by simp) (heap_alloc_new w5 (.cells #[.int .i64 3, .int .i64 1, .int .i64 0, .int .i64 2] 43))
  have hc := same_any a4 (some ⟨w5.heap.size, 0, none⟩) 2 2 c4 2 [(3, 1), (0, 2)] [(3, 1), (0, 2)] _ (HS5.out _ hb) hL
  rw [decide_eq_true rfl] at hc
  have HB6 := hide (HB5.out.trans (hb.mono HB5.out.size))
  have HR6 : Hid (∀ w', Below (w5.alloc (.cells #[.int .i64 3, .int .i64 1, .int .i64 0, .int .i64 2] 43)).heap.size (w5.alloc (.cells #[.int .i64 3, .int .i64 1, .int .i64 0, .int .i64 2] 43)) w' → Rc w' w4.heap.size 4 6 2) := fun w' h2 => HR5.out w' (hb.trans (h2.mono hb.size))
  clear hb hL HS5
  go_wp2_with fail
  refine hc.mono ?_
  rintro e w6 ⟨rfl, hb6⟩
  have HB7 := hide (HB6.out.trans (hb6.mono HB6.out.size))
  obtain ⟨r0, r1, r2, _⟩ := HR6.out w6 hb6
  have HR7 : Hid (∀ w', Below w6.heap.size w6 w' → Rc w' w4.heap.size 4 6 2) := fun w' h2 => HR6.out w' (hb6.trans (h2.mono hb6.size))
  have hc := free_any 4 6 2 ⟨by decide, by decide⟩ ⟨by decide, by decide⟩ w6
  rw [show freeR 4 6 2 = 0 by decide] at hc
  clear hb6 HR6
  go_wp2_with fail
  refine hc.mono ?_
  rintro e w7 ⟨rfl, hb7⟩
  have HB8 := hide (HB7.out.trans (hb7.mono HB7.out.size))
  clear r0 r1 r2
  obtain ⟨r0, r1, r2, _⟩ := HR7.out w7 hb7
  clear hc hb7 HR7
  go_wp2
  go_ret
  exact ⟨rfl, HB8.out⟩

end Sp
end Go.Proofs.Ytbgadcofjhgmiaa
