/- The law ExtmapNil. -/
import Derived.Test.YtjbgojccfkmlnaaLb
namespace Go.Proofs.Ytjbgojccfkmlnaa
open Go.RowKit
namespace Wi

theorem putnil (v : Value) (w : World) : Calls Try.prog 28 #[.pointer none, v] w fun e w' => e = .returned (.tuple #[.slice none 0 0, .int .i64 2]) ∧ Below w.heap.size w w' := by
  go_enter Try.func28, Try.ntmps28
  go_wp2
  go_ret2
  exact ⟨rfl, Below.refl _ _⟩
theorem cutnil (v : Value) (w : World) : Calls Try.prog 27 #[.pointer none, v] w fun e w' => e = .returned (.tuple #[.slice none 0 0, .int .i64 2]) ∧ Below w.heap.size w w' := by
  go_enter Try.func27, Try.ntmps27
  go_wp2
  go_ret2
  exact ⟨rfl, Below.refl _ _⟩
theorem movenil (a n q t q2 t2 : Int) (w : World) : Calls Try.prog 32 #[.pointer none, .agg #[.int .i64 a, .int .i64 n, .int .i64 q, .int .i64 t], .agg #[.int .i64 q2, .int .i64 t2]] w fun e w' => e = .returned (.tuple #[.int .i64 0, .int .i64 2]) ∧ Below w.heap.size w w' := by
  have hb := hide ((below_alloc w (.cells #[.int .i64 a, .int .i64 n, .int .i64 q, .int .i64 t] 40)).alloc (below_alloc w (.cells #[.int .i64 a, .int .i64 n, .int .i64 q, .int .i64 t] 40)).size (.cells #[.int .i64 q2, .int .i64 t2] 32))
  go_enter Try.func32, Try.ntmps32
  go_wp2
  go_ret2
  exact ⟨rfl, hb.out⟩
theorem findnil (a n : Int) (w : World) : Calls Try.prog 19 #[.pointer none, .agg #[.int .i64 a, .int .i64 n]] w fun e w' => e = .returned (.tuple #[.slice none 0 0, .int .i64 2]) ∧ Below w.heap.size w w' := by
  have hb := hide (below_alloc w (.cells #[.int .i64 a, .int .i64 n] 38))
  go_enter Try.func19, Try.ntmps19
  go_wp2
  go_ret2
  exact ⟨rfl, hb.out⟩
theorem holesnil (a n : Int) (w : World) : Calls Try.prog 29 #[.pointer none, .agg #[.int .i64 a, .int .i64 n]] w fun e w' => e = .returned (.tuple #[.slice none 0 0, .int .i64 2]) ∧ Below w.heap.size w w' := by
  have hb := below_alloc w (.cells #[.int .i64 a, .int .i64 n] 38)
  have hc := findnil a n (w.alloc (.cells #[.int .i64 a, .int .i64 n] 38))
  have HB := hide hb
  clear hb
  go_enter Try.func29, Try.ntmps29
  go_wp2_with fail
  refine hc.mono ?_
  rintro e w1 ⟨rfl, hb1⟩
  have HB1 := hide (HB.out.trans (hb1.mono HB.out.size))
  clear hc hb1
  go_wp2
  go_ret2
  exact ⟨rfl, HB1.out⟩
theorem allnil (w : World) : Calls Try.prog 17 #[.pointer none] w fun e w' => e = .returned (.slice none 0 0) ∧ Below w.heap.size w w' := by
  go_enter Try.func17, Try.ntmps17
  go_wp2
  go_ret
  exact ⟨rfl, Below.refl _ _⟩
theorem sectorsnil (w : World) : Calls Try.prog 33 #[.pointer none] w fun e w' => e = .returned (.int .i64 0) ∧ Below w.heap.size w w' := by
  go_enter Try.func33, Try.ntmps33
  go_wp2
  go_ret
  exact ⟨rfl, Below.refl _ _⟩
theorem copynil (w : World) : Calls Try.prog 16 #[.pointer none] w fun e w' => e = .returned (.pointer none) ∧ Below w.heap.size w w' := by
  go_enter Try.func16, Try.ntmps16
  go_wp2
  go_ret
  exact ⟨rfl, Below.refl _ _⟩
set_option maxHeartbeats 8000000 in
set_option maxRecDepth 100000 in
theorem extmapNil_walk (o : OpV) (W : World) (h : OpOk W o) : Calls Try.prog 8 #[.agg o.cells.toArray] W fun e w' => e = .returned (.bool true) ∧ Below W.heap.size W w' := by
  have hb2 : Below W.heap.size W ((W.alloc (.cells o.cells.toArray 34)).alloc (.cells o.cells.toArray 34)) := (below_alloc W _).alloc (below_alloc W _).size _
  have hos := os_one (h.later hb2) (heap_alloc_new (W.alloc (.cells o.cells.toArray 34)) (.cells o.cells.toArray 34))
  have hf := few_any hos (Nat.le_refl _)
  have HE := hide h.es
  have HC : Hid (∀ w, Below W.heap.size W w → (∃ w0, w0 = W.alloc (.cells o.cells.toArray 34) ∧ Below w0.heap.size w0 w) → w.cell? ⟨W.heap.size, 0, none⟩ = some (.int .i64 o.ask) ∧ w.cell? ⟨W.heap.size, 1, none⟩ = some (.slice o.la o.ln o.lc) ∧ w.cell? ⟨W.heap.size, 2, none⟩ = some (.int .i64 o.q) ∧ w.cell? ⟨W.heap.size, 3, none⟩ = some (.int .i64 o.t)) := fun w _ ⟨w0, e, hb⟩ => by
    subst e
    have hh := heap_alloc_new W (.cells o.cells.toArray 34)
    have hl := lt_of_block hh
    refine ⟨?_, ?_, ?_, ?_⟩ <;> (rw [hb.cell hl, cell_of_row _ _ _ _ _ _ hh]; rfl)
  have HB2 := hide hb2
  have hcap := h.cap
  have hlen := hide h.es.len
  have hmost := h.es.most
  have h0b : Below (W.alloc (.cells o.cells.toArray 34)).heap.size (W.alloc (.cells o.cells.toArray 34)) ((W.alloc (.cells o.cells.toArray 34)).alloc (.cells o.cells.toArray 34)) := below_alloc _ _
  obtain ⟨W0, hW0⟩ : ∃ W0, W0 = W.alloc (.cells o.cells.toArray 34) := ⟨_, rfl⟩
  have HW0 := hide hW0
  have H0B : Hid (Below W0.heap.size W0 (W0.alloc (.cells o.cells.toArray 34))) := by show Below _ _ _; exact below_alloc _ _
  have HB0 : Hid (Below W.heap.size W W0) := by show Below _ _ _; rw [hW0]; exact below_alloc _ _
  have HC0 : Hid (∀ w, Below W0.heap.size W0 w → w.cell? ⟨W.heap.size, 0, none⟩ = some (.int .i64 o.ask) ∧ w.cell? ⟨W.heap.size, 1, none⟩ = some (.slice o.la o.ln o.lc) ∧ w.cell? ⟨W.heap.size, 2, none⟩ = some (.int .i64 o.q) ∧ w.cell? ⟨W.heap.size, 3, none⟩ = some (.int .i64 o.t)) := fun w hb => HC.out w (HB0.out.trans (hb.mono HB0.out.size)) ⟨W0, hW0, hb⟩
  rw [show (W.alloc (.cells o.cells.toArray 34)).heap.size = W.heap.size + 1 by simp, ← hW0] at hf
  clear hb2 hos h HC HB2 h0b hW0
  have HFEW : Hid (fewB [o] = opB o) := by show _ = _; simp [fewB]
  have HOP : Hid (opB o = true → o.ln ≤ 10) := fun h => by unfold opB at h; simp at h; exact h.1
  rw [HFEW.out] at hf
  obtain ⟨ask, la, ln, lc, q, t, xs⟩ := o
  unfold OpV.cells at *
  simp only at *
  generalize opB ⟨ask, la, ln, lc, q, t, xs⟩ = B at *
  obtain ⟨c0, c1, c2, c3⟩ := HC0.out W0 (Below.refl _ _)
  go_enter Try.func8, Try.ntmps8
  go_wp2_with fail
  rw [← HW0.out]
  refine hf.mono ?_
  rintro e w1 ⟨rfl, hb1⟩
  have HB1 := hide (H0B.out.trans (hb1.mono H0B.out.size))
  clear hf hb1 c0 c1 c2 c3
  obtain ⟨c0, c1, c2, c3⟩ := HC0.out w1 HB1.out
  cases B with
  | false =>
    have hc := awake_any w1
    go_wp2_with fail
    refine hc.mono ?_
    rintro e w9 ⟨rfl, hbb⟩
    have HBZ := hide (HB0.out.trans (((HB1.out).trans (hbb.mono (HB1.out).size)).mono HB0.out.size))
    clear hc hbb
    go_wp2
    go_ret
    exact ⟨rfl, HBZ.out⟩
  | true =>
    have hl10 := HOP.out rfl
    by_cases h0 : ln = 0
    · subst h0
      have hc := awake_any w1
      go_wp2_with fail
      refine hc.mono ?_
      rintro e w9 ⟨rfl, hbb⟩
      have HBZ := hide (HB0.out.trans (((HB1.out).trans (hbb.mono (HB1.out).size)).mono HB0.out.size))
      clear hc hbb
      go_wp2
      go_ret
      exact ⟨rfl, HBZ.out⟩
    · obtain ⟨x, hx⟩ : ∃ x, xs[0]? = some x := ⟨_, List.getElem?_eq_getElem (by have := hlen.out; omega)⟩
      obtain ⟨g, off, rfl, hg, _⟩ := HE.out.cells 0 x hx
      have HD : Hid (∀ w, Below W0.heap.size W0 w → w.cell? ⟨g, off, none⟩ = some (.int .i64 x.a) ∧ w.cell? ⟨g, off + 1, none⟩ = some (.int .i64 x.n) ∧ w.cell? ⟨g, off + 2, none⟩ = some (.int .i64 x.q) ∧ w.cell? ⟨g, off + 3, none⟩ = some (.int .i64 x.t)) := fun w hb => by
        obtain ⟨g', off', e, _, r0, r1, r2, r3⟩ := (HE.out.later (HB0.out.trans (hb.mono HB0.out.size))).cells 0 x hx
        injection e with e
        injection e with e1 e2 _
        subst e1 e2
        simp only [Nat.zero_mul, Nat.add_zero] at r0 r1 r2 r3
        exact ⟨r0, r1, r2, r3⟩
      clear hx
      obtain ⟨xa, xn, xq, xt⟩ := x
      simp only at HD
      obtain ⟨d0, d1, d2, d3⟩ := HD.out w1 HB1.out
      have hl0 : 0 < ln := by omega
      have hc := putnil (.slice (some ⟨g, off, none⟩) ln lc) w1
      go_wp2_with fail
      refine hc.mono ?_
      rintro e w2 ⟨rfl, hbb⟩
      have HB2 := hide (HB1.out.trans (hbb.mono HB1.out.size))
      clear hc hbb c0 c1 c2 c3 d0 d1 d2 d3
      obtain ⟨c0, c1, c2, c3⟩ := HC0.out w2 HB2.out
      obtain ⟨d0, d1, d2, d3⟩ := HD.out w2 HB2.out
      have hc := cutnil (.slice (some ⟨w2.heap.size, 0, none⟩) 1 1) (w2.alloc (.cells #[.int .i64 xa, .int .i64 xn] 38))
      go_wp2_with fail
      refine hc.mono ?_
      rintro e w3 ⟨rfl, hbb⟩
      have HB3 := hide ((HB2.out.alloc HB2.out.size (.cells #[.int .i64 xa, .int .i64 xn] 38)).trans (hbb.mono (HB2.out.alloc HB2.out.size (.cells #[.int .i64 xa, .int .i64 xn] 38)).size))
      clear hc hbb c0 c1 c2 c3 d0 d1 d2 d3
      obtain ⟨c0, c1, c2, c3⟩ := HC0.out w3 HB3.out
      obtain ⟨d0, d1, d2, d3⟩ := HD.out w3 HB3.out
      have k0 : ∀ P : Later w3, _ := fun P => (HC0.out P.val (HB3.out.trans (P.below.mono HB3.out.size))).1
      have k1 : ∀ P : Later w3, _ := fun P => (HC0.out P.val (HB3.out.trans (P.below.mono HB3.out.size))).2.1
      have k2 : ∀ P : Later w3, _ := fun P => (HC0.out P.val (HB3.out.trans (P.below.mono HB3.out.size))).2.2.1
      have k3 : ∀ P : Later w3, _ := fun P => (HC0.out P.val (HB3.out.trans (P.below.mono HB3.out.size))).2.2.2
      have e0 : ∀ P : Later w3, _ := fun P => (HD.out P.val (HB3.out.trans (P.below.mono HB3.out.size))).1
      have e1 : ∀ P : Later w3, _ := fun P => (HD.out P.val (HB3.out.trans (P.below.mono HB3.out.size))).2.1
      have e2 : ∀ P : Later w3, _ := fun P => (HD.out P.val (HB3.out.trans (P.below.mono HB3.out.size))).2.2.1
      have e3 : ∀ P : Later w3, _ := fun P => (HD.out P.val (HB3.out.trans (P.below.mono HB3.out.size))).2.2.2
      have hcm : ∀ P : Later w3, _ := fun P => movenil xa xn xq xt q t P.val
      have hne := later_ne w3
      clear c0 c1 c2 c3 d0 d1 d2 d3
      go_wp2
      refine wp_region_later (by kernel_rfl) (by kernel_rfl) ?_
      (repeat (first | go_big_quiet_skip | (go_big_quiet_want; go_big_quiet_op; go_big_quiet_on)))
      (go_big_quiet_want; go_big_quiet_op; apply Exists.intro; refine ⟨fun p => ?_, ?_⟩; (· exact later_of (hcm p)); go_big_quiet_on)
      (repeat (first | go_big_quiet_skip | (go_big_quiet_want; go_big_quiet_op; go_big_quiet_on)))
      refine wpQuiet_nil ?_
      rintro _ ⟨P, rfl⟩
      have HB4 := hide (HB3.out.trans (P.below.mono HB3.out.size))
      clear k0 k1 k2 k3 e0 e1 e2 e3 hcm hne
      generalize P.val = w4 at *
      obtain ⟨c0, c1, c2, c3⟩ := HC0.out w4 HB4.out
      obtain ⟨d0, d1, d2, d3⟩ := HD.out w4 HB4.out
      have hc := findnil xa xn w4
      go_wp2_with fail
      refine hc.mono ?_
      rintro e w5 ⟨rfl, hbb⟩
      have HB5 := hide (HB4.out.trans (hbb.mono HB4.out.size))
      clear hc hbb c0 c1 c2 c3 d0 d1 d2 d3
      obtain ⟨c0, c1, c2, c3⟩ := HC0.out w5 HB5.out
      obtain ⟨d0, d1, d2, d3⟩ := HD.out w5 HB5.out
      have hc := holesnil xa xn w5
      go_wp2_with fail
      refine hc.mono ?_
      rintro e w6 ⟨rfl, hbb⟩
      have HB6 := hide (HB5.out.trans (hbb.mono HB5.out.size))
      clear hc hbb c0 c1 c2 c3 d0 d1 d2 d3
      obtain ⟨c0, c1, c2, c3⟩ := HC0.out w6 HB6.out
      obtain ⟨d0, d1, d2, d3⟩ := HD.out w6 HB6.out
      have hc := allnil w6
      go_wp2_with fail
      refine hc.mono ?_
      rintro e w7 ⟨rfl, hbb⟩
      have HB7 := hide (HB6.out.trans (hbb.mono HB6.out.size))
      clear hc hbb c0 c1 c2 c3 d0 d1 d2 d3
      obtain ⟨c0, c1, c2, c3⟩ := HC0.out w7 HB7.out
      obtain ⟨d0, d1, d2, d3⟩ := HD.out w7 HB7.out
      have hc := sectorsnil w7
      go_wp2_with fail
      refine hc.mono ?_
      rintro e w8 ⟨rfl, hbb⟩
      have HB8 := hide (HB7.out.trans (hbb.mono HB7.out.size))
      clear hc hbb c0 c1 c2 c3 d0 d1 d2 d3
      obtain ⟨c0, c1, c2, c3⟩ := HC0.out w8 HB8.out
      obtain ⟨d0, d1, d2, d3⟩ := HD.out w8 HB8.out
      have hc := copynil w8
      go_wp2_with fail
      refine hc.mono ?_
      rintro e w10 ⟨rfl, hbb⟩
      have HB10 := hide (HB8.out.trans (hbb.mono HB8.out.size))
      clear hc hbb c0 c1 c2 c3 d0 d1 d2 d3
      obtain ⟨c0, c1, c2, c3⟩ := HC0.out w10 HB10.out
      obtain ⟨d0, d1, d2, d3⟩ := HD.out w10 HB10.out
      have hc := awake_any w10
      go_wp2_with fail
      refine hc.mono ?_
      rintro e w9 ⟨rfl, hbb⟩
      have HBZ := hide (HB0.out.trans (((HB10.out).trans (hbb.mono (HB10.out).size)).mono HB0.out.size))
      clear hc hbb
      go_wp2
      go_ret
      exact ⟨rfl, HBZ.out⟩

end Wi
end Go.Proofs.Ytjbgojccfkmlnaa
