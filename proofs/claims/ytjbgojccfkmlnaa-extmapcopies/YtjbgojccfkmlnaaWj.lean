/- What of rising extents is ahead of a sector, and what from it on. -/
import Derived.Test.YtjbgojccfkmlnaaWh
namespace Go.Proofs.Ytjbgojccfkmlnaa
open Go.RowKit
namespace Wi

set_option maxHeartbeats 4000000 in
set_option maxRecDepth 20000 in
theorem cut_end {w : World} {v : Value} {l : List Xt} (h : Xs w v l) (hr : Ris l) (hs : Sm l) (hn : l.length ≤ 1000000) (a : Nat) (_ha : a ≤ 70000) (hi : idx (endsP a) l = l.length) :
    Calls Try.prog 51 #[v, .int .i64 (a : Nat)] w fun e w' => ∃ v1 v2, e = .returned (.tuple #[v1, v2]) ∧ Xs w' v1 (aheadL l a) ∧ Xs w' v2 (behindL l a) ∧ Below w.heap.size w w' := by
  have hp := idx_le (endsP a) l
  obtain ⟨a0, cap, rfl, hlc, hcm⟩ := h.len
  obtain ⟨w2, hw2⟩ : ∃ w2, w2 = (w.alloc (.cells #[.slice a0 l.length cap] 30)).alloc (.cells #[.int .i64 (a : Nat)] 3) := ⟨_, rfl⟩
  have hb2 : Below w.heap.size w w2 := by
    rw [hw2]
    have B0 := below_alloc w (.cells #[.slice a0 l.length cap] 30)
    exact B0.alloc B0.size _
  have x0 : Box1 w2 w.heap.size (.slice a0 l.length cap) := by rw [hw2]; exact (Box1.first w _ 30).more _
  have x1 : Box1 w2 (w.heap.size + 1) (.int .i64 (a : Nat)) := by rw [hw2, show w.heap.size + 1 = (w.alloc (.cells #[.slice a0 l.length cap] 30)).heap.size by simp]; exact Box1.first _ _ 3
  have h2 := h.later hb2
  have hc1 := search62 (w := w2) (c1 := .pointer (some ⟨w.heap.size, 0, none⟩)) (c2 := .pointer (some ⟨w.heap.size + 1, 0, none⟩)) l.length (idx (endsP a) l) (pI (endsP a) l) hn (idx_le _ _) (fun i hi => pI_no hi) (fun i h1 h2 => pI_yes (endsP_mono a) hr h1 h2)
    (fun i hi w' hb => by
      obtain ⟨x, hx⟩ : ∃ x, l[i]? = some x := ⟨_, List.getElem?_eq_getElem hi⟩
      rw [pI_some hx]
      exact cl62 (h2.later hb) (x0.later hb) (x1.later hb) hx (hs.get hx))
  have K0 : Hid (∀ w3, Below w2.heap.size w2 w3 → w3.cell? ⟨w.heap.size, 0, none⟩ = some (.slice a0 l.length cap)) := fun w3 hb => (x0.later hb).1
  have K1 : Hid (∀ w3, Below w2.heap.size w2 w3 → w3.cell? ⟨w.heap.size + 1, 0, none⟩ = some (.int .i64 (a : Nat))) := fun w3 hb => (x1.later hb).1
  have e0 := K0.out w2 (Below.refl _ _)
  have HL : Hid (∀ w3 : World, w2.heap.size ≤ w3.heap.size → w.heap.size < w3.heap.size) := fun w3 h => Nat.lt_of_lt_of_le x0.2 h
  have HL1 : Hid (∀ w3 : World, w2.heap.size ≤ w3.heap.size → w.heap.size + 1 < w3.heap.size) := fun w3 h => Nat.lt_of_lt_of_le x1.2 h
  have HB := hide hb2
  have HW := hide hw2
  obtain ⟨c1, c2⟩ := cut_whole (l := l) (a := a) (fun x hx => by rw [hi, List.getElem?_eq_none (Nat.le_refl _)] at hx; cases hx)
  obtain ⟨p1, hp1, hp2, _⟩ := Xs.slu3 h (hi := l.length) (Nat.le_refl _) hlc
  obtain ⟨q1, hq1, hq2, _⟩ := Xs.slf h (lo := l.length) (Nat.le_refl _) hlc
  rw [hi] at c1 c2 hc1
  rw [← c1] at hp2
  rw [← c2] at hq2
  have HP := hide hp2
  have HQ := hide hq2
  generalize aheadL l a = A at *
  generalize behindL l a = B at *
  generalize l.length = n at *
  rw [Nat.sub_self] at HQ hq1
  rw [hw2] at hc1 e0
  clear hw2 h h2 hs hr x0 x1 hb2 c1 c2 hp2 hq2 hi hp
  go_enter Try.func51, Try.ntmps51
  go_wp2_with fail
  refine hc1.mono ?_
  rw [← HW.out]
  rintro e w3 ⟨rfl, hb3⟩
  have f0 := K0.out w3 hb3
  have f1 := K1.out w3 hb3
  have HB3 := hide (HB.out.trans (hb3.mono HB.out.size))
  have HS3 := hide hb3.size
  have k0 : ∀ P : Later w3, P.val.cell? ⟨w.heap.size, 0, none⟩ = some (.slice a0 n cap) := fun P => (P.below.cell (p := ⟨w.heap.size, 0, none⟩) (HL.out w3 (HS3.out))).trans f0
  have k1 : ∀ P : Later w3, P.val.cell? ⟨w.heap.size + 1, 0, none⟩ = some (.int .i64 (a : Nat)) := fun P => (P.below.cell (p := ⟨w.heap.size + 1, 0, none⟩) (HL1.out w3 (HS3.out))).trans f1
  have hne := later_ne w3
  clear hc1 hb3 e0 f0 f1
  go_wp2
  refine wp_region_later (by kernel_rfl) (by kernel_rfl) ?_
  (repeat (first | go_big_quiet_skip | (go_big_quiet_want; go_big_quiet_op; go_big_quiet_on)))
  refine wpQuiet_nil ?_
  rintro _ ⟨P, rfl⟩
  have HB4 := hide (HB3.out.trans (P.below.mono HB3.out.size))
  have HP4 := hide (Nat.le_trans HS3.out P.below.size)
  replace k0 := k0 P
  replace k1 := k1 P
  generalize P.val = w4 at *
  clear hne HS3
  go_wp2
  have hne := later_ne w4
  have k0' : ∀ P : Later w4, P.val.cell? ⟨w.heap.size, 0, none⟩ = some (.slice a0 n cap) := fun P => (P.below.cell (p := ⟨w.heap.size, 0, none⟩) (HL.out w4 HP4.out)).trans k0
  refine wp_region_later (by kernel_rfl) (by kernel_rfl) ?_
  (repeat (first | go_big_quiet_skip | (go_big_quiet_want; go_big_quiet_op; go_big_quiet_on)))
  refine wpQuiet_nil ?_
  rintro _ ⟨P, rfl⟩
  have HB5 := hide (HB4.out.trans (P.below.mono HB4.out.size))
  generalize P.val = w5 at *
  clear hne k0'
  go_wp2
  go_ret2
  exact ⟨_, _, rfl, HP.out.later HB5.out, HQ.out.later HB5.out, HB5.out⟩
set_option maxHeartbeats 4000000 in
set_option maxRecDepth 20000 in
theorem cut_at {w : World} {v : Value} {l : List Xt} (h : Xs w v l) (hr : Ris l) (hs : Sm l) (hn : l.length ≤ 1000000) (a : Nat) (_ha : a ≤ 70000) {x : Xt} (hi : l[idx (endsP a) l]? = some x) (hx : a ≤ x.at_) :
    Calls Try.prog 51 #[v, .int .i64 (a : Nat)] w fun e w' => ∃ v1 v2, e = .returned (.tuple #[v1, v2]) ∧ Xs w' v1 (aheadL l a) ∧ Xs w' v2 (behindL l a) ∧ Below w.heap.size w w' := by
  have hp := idx_le (endsP a) l
  obtain ⟨a0, cap, rfl, hlc, hcm⟩ := h.len
  obtain ⟨w2, hw2⟩ : ∃ w2, w2 = (w.alloc (.cells #[.slice a0 l.length cap] 30)).alloc (.cells #[.int .i64 (a : Nat)] 3) := ⟨_, rfl⟩
  have hb2 : Below w.heap.size w w2 := by
    rw [hw2]
    have B0 := below_alloc w (.cells #[.slice a0 l.length cap] 30)
    exact B0.alloc B0.size _
  have x0 : Box1 w2 w.heap.size (.slice a0 l.length cap) := by rw [hw2]; exact (Box1.first w _ 30).more _
  have x1 : Box1 w2 (w.heap.size + 1) (.int .i64 (a : Nat)) := by rw [hw2, show w.heap.size + 1 = (w.alloc (.cells #[.slice a0 l.length cap] 30)).heap.size by simp]; exact Box1.first _ _ 3
  have h2 := h.later hb2
  have hc1 := search62 (w := w2) (c1 := .pointer (some ⟨w.heap.size, 0, none⟩)) (c2 := .pointer (some ⟨w.heap.size + 1, 0, none⟩)) l.length (idx (endsP a) l) (pI (endsP a) l) hn (idx_le _ _) (fun i hi => pI_no hi) (fun i h1 h2 => pI_yes (endsP_mono a) hr h1 h2)
    (fun i hi w' hb => by
      obtain ⟨x, hx⟩ : ∃ x, l[i]? = some x := ⟨_, List.getElem?_eq_getElem hi⟩
      rw [pI_some hx]
      exact cl62 (h2.later hb) (x0.later hb) (x1.later hb) hx (hs.get hx))
  have K0 : Hid (∀ w3, Below w2.heap.size w2 w3 → w3.cell? ⟨w.heap.size, 0, none⟩ = some (.slice a0 l.length cap)) := fun w3 hb => (x0.later hb).1
  have K1 : Hid (∀ w3, Below w2.heap.size w2 w3 → w3.cell? ⟨w.heap.size + 1, 0, none⟩ = some (.int .i64 (a : Nat))) := fun w3 hb => (x1.later hb).1
  have e0 := K0.out w2 (Below.refl _ _)
  have HL : Hid (∀ w3 : World, w2.heap.size ≤ w3.heap.size → w.heap.size < w3.heap.size) := fun w3 h => Nat.lt_of_lt_of_le x0.2 h
  have HL1 : Hid (∀ w3 : World, w2.heap.size ≤ w3.heap.size → w.heap.size + 1 < w3.heap.size) := fun w3 h => Nat.lt_of_lt_of_le x1.2 h
  have HB := hide hb2
  have HW := hide hw2
  obtain ⟨c1, c2⟩ := cut_whole (l := l) (a := a) (fun y hy => by rw [hi] at hy; injection hy with hy; rw [← hy]; exact hx)
  obtain ⟨p1, hp1, hp2, _⟩ := Xs.slu3 h (hi := idx (endsP a) l) hp hlc
  obtain ⟨q1, hq1, hq2, _⟩ := Xs.slf h (lo := idx (endsP a) l) hp hlc
  rw [← c1] at hp2
  rw [← c2] at hq2
  have hil := (List.getElem?_eq_some_iff.1 hi).1
  obtain ⟨_, hat⟩ := h.at
  obtain ⟨g, off, rfl, hX⟩ := hat _ x hi
  have HX := hide hX
  have HP := hide hp2
  have HQ := hide hq2
  generalize aheadL l a = A at *
  generalize behindL l a = B at *
  clear hi hat
  generalize idx (endsP a) l = I at *
  generalize l.length = n at *
  rw [hw2] at hc1 e0
  have hIn : ((I : Int) == (n : Int)) = false := by simp; omega
  clear hw2 h h2 hs hr x0 x1 hb2 c1 c2 hp2 hq2 hX
  go_enter Try.func51, Try.ntmps51
  go_wp2_with fail
  refine hc1.mono ?_
  rw [← HW.out]
  rintro e w3 ⟨rfl, hb3⟩
  have f0 := K0.out w3 hb3
  have f1 := K1.out w3 hb3
  have HB3 := hide (HB.out.trans (hb3.mono HB.out.size))
  have HS3 := hide hb3.size
  have d0 := (HX.out.later HB3.out).c0
  have k0 : ∀ P : Later w3, P.val.cell? ⟨w.heap.size, 0, none⟩ = some (.slice (some ⟨g, off, none⟩) n cap) := fun P => (P.below.cell (p := ⟨w.heap.size, 0, none⟩) (HL.out w3 (HS3.out))).trans f0
  have k1 : ∀ P : Later w3, P.val.cell? ⟨w.heap.size + 1, 0, none⟩ = some (.int .i64 (a : Nat)) := fun P => (P.below.cell (p := ⟨w.heap.size + 1, 0, none⟩) (HL1.out w3 (HS3.out))).trans f1
  have k2 : ∀ P : Later w3, P.val.cell? ⟨g, off + I * 4, none⟩ = some (.int .i64 (x.at_ : Nat)) := fun P => ((HX.out.later HB3.out).later P.below).c0
  have hne := later_ne w3
  clear hc1 hb3 e0 f0 f1
  go_wp2
  refine wp_region_later (by kernel_rfl) (by kernel_rfl) ?_
  (repeat (first | go_big_quiet_skip | (go_big_quiet_want; go_big_quiet_op; go_big_quiet_on)))
  refine wpQuiet_nil ?_
  rintro _ ⟨P, rfl⟩
  have HB4 := hide (HB3.out.trans (P.below.mono HB3.out.size))
  have HP4 := hide (Nat.le_trans HS3.out P.below.size)
  replace k0 := k0 P
  replace k1 := k1 P
  generalize P.val = w4 at *
  clear hne HS3 k2
  go_wp2
  have hne := later_ne w4
  have k0' : ∀ P : Later w4, P.val.cell? ⟨w.heap.size, 0, none⟩ = some (.slice (some ⟨g, off, none⟩) n cap) := fun P => (P.below.cell (p := ⟨w.heap.size, 0, none⟩) (HL.out w4 HP4.out)).trans k0
  refine wp_region_later (by kernel_rfl) (by kernel_rfl) ?_
  (repeat (first | go_big_quiet_skip | (go_big_quiet_want; go_big_quiet_op; go_big_quiet_on)))
  refine wpQuiet_nil ?_
  rintro _ ⟨P, rfl⟩
  have HB5 := hide (HB4.out.trans (P.below.mono HB4.out.size))
  generalize P.val = w5 at *
  clear hne k0'
  go_wp2
  go_ret2
  exact ⟨_, _, rfl, HP.out.later HB5.out, HQ.out.later HB5.out, HB5.out⟩

end Wi
end Go.Proofs.Ytjbgojccfkmlnaa
