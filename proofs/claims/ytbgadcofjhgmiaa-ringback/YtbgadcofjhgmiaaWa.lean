/- Rings as values: which may be, how many positions are taken, and a new one. -/
import Derived.Test.YtbgadcofjhgmiaaSp
namespace Go.Proofs.Ytbgadcofjhgmiaa
open Go.RowKit
namespace Sp

/-- A world below whose first blocks nothing is written. -/
theorem below_set {w w1 : World} {B g i : Nat} {v : Value} (h : Below B w w1) (hg : B ≤ g) : Below B w (w1.setCell ⟨g, i, none⟩ v) := h.setCell (p := ⟨g, i, none⟩) hg v

def I64 (a : Int) : Prop := -9223372036854775808 ≤ a ∧ a ≤ 9223372036854775807
/-- No error, or ErrArg. -/
def erB (b : Bool) : Int := if b then 0 else 1
/-- Which rings may be. -/
def mayR (s h t : Int) : Bool := decide (1 ≤ s ∧ s ≤ 65536 ∧ 0 ≤ t ∧ t ≤ h ∧ h < 1099511627776 ∧ h - t ≤ s)
theorem mayR_get {s h t : Int} (hm : mayR s h t = true) : 1 ≤ s ∧ s ≤ 65536 ∧ 0 ≤ t ∧ t ≤ h ∧ h < 1099511627776 ∧ h - t ≤ s := of_decide_eq_true hm
def vR (s h t : Int) : Value := .agg #[.int .i64 s, .int .i64 h, .int .i64 t]
set_option maxRecDepth 100000 in
set_option maxHeartbeats 2000000 in
theorem check_any (s h t : Int) (hh : I64 h) (ht : I64 t) (w : World) : Calls Try.prog 11 #[.agg #[.int .i64 s, .int .i64 h, .int .i64 t]] w fun e w' => e = .returned (.int .i64 (erB (mayR s h t))) ∧ Below w.heap.size w w' := by
  obtain ⟨h1, h2⟩ := hh
  obtain ⟨t1, t2⟩ := ht
  have hb := hide (below_alloc w (.cells #[.int .i64 s, .int .i64 h, .int .i64 t] 23))
  by_cases g1 : s < 1
  · have e1 : mayR s h t = false := by unfold mayR; exact decide_eq_false (by omega)
    rw [e1]
    clear e1
    (try (have hd : decide (h - t ≤ s) = false := by first | exact decide_eq_true (by omega) | exact decide_eq_false (by omega)))
    go_enter Try.func11, Try.ntmps11
    go_wp2
    go_ret
    exact ⟨rfl, hb.out⟩
  · by_cases g2 : 65536 < s
    · have e1 : mayR s h t = false := by unfold mayR; exact decide_eq_false (by omega)
      rw [e1]
      clear e1
      (try (have hd : decide (h - t ≤ s) = false := by first | exact decide_eq_true (by omega) | exact decide_eq_false (by omega)))
      go_enter Try.func11, Try.ntmps11
      go_wp2
      go_ret
      exact ⟨rfl, hb.out⟩
    · by_cases g3 : t < 0
      · have e1 : mayR s h t = false := by unfold mayR; exact decide_eq_false (by omega)
        rw [e1]
        clear e1
        (try (have hd : decide (h - t ≤ s) = false := by first | exact decide_eq_true (by omega) | exact decide_eq_false (by omega)))
        go_enter Try.func11, Try.ntmps11
        go_wp2
        go_ret
        exact ⟨rfl, hb.out⟩
      · by_cases g4 : h < t
        · have e1 : mayR s h t = false := by unfold mayR; exact decide_eq_false (by omega)
          rw [e1]
          clear e1
          (try (have hd : decide (h - t ≤ s) = false := by first | exact decide_eq_true (by omega) | exact decide_eq_false (by omega)))
          go_enter Try.func11, Try.ntmps11
          go_wp2
          go_ret
          exact ⟨rfl, hb.out⟩
        · by_cases g5 : 1099511627776 ≤ h
          · have e1 : mayR s h t = false := by unfold mayR; exact decide_eq_false (by omega)
            rw [e1]
            clear e1
            (try (have hd : decide (h - t ≤ s) = false := by first | exact decide_eq_true (by omega) | exact decide_eq_false (by omega)))
            go_enter Try.func11, Try.ntmps11
            go_wp2
            go_ret
            exact ⟨rfl, hb.out⟩
          · by_cases g6 : s < h - t
            · have e1 : mayR s h t = false := by unfold mayR; exact decide_eq_false (by omega)
              rw [e1]
              clear e1
              (try (have hd : decide (h - t ≤ s) = false := by first | exact decide_eq_true (by omega) | exact decide_eq_false (by omega)))
              go_enter Try.func11, Try.ntmps11
              go_wp2
              go_ret
              exact ⟨rfl, hb.out⟩
            · have e1 : mayR s h t = true := by unfold mayR; exact decide_eq_true (by omega)
              rw [e1]
              clear e1
              (try (have hd : decide (h - t ≤ s) = true := by first | exact decide_eq_true (by omega) | exact decide_eq_false (by omega)))
              go_enter Try.func11, Try.ntmps11
              go_wp2
              go_ret
              exact ⟨rfl, hb.out⟩
set_option maxRecDepth 100000 in
set_option maxHeartbeats 2000000 in
theorem refmay_any (s h t : Int) (hh : I64 h) (ht : I64 t) (w : World) : Calls Try.prog 8 #[.int .i64 s, .int .i64 h, .int .i64 t] w fun e w' => e = .returned (.bool (mayR s h t)) ∧ Below w.heap.size w w' := by
  obtain ⟨h1, h2⟩ := hh
  obtain ⟨t1, t2⟩ := ht
  by_cases g1 : s < 1
  · have e1 : mayR s h t = false := by unfold mayR; exact decide_eq_false (by omega)
    rw [e1]
    clear e1
    (try (have hd : decide (h - t ≤ s) = false := by first | exact decide_eq_true (by omega) | exact decide_eq_false (by omega)))
    go_enter Try.func8, Try.ntmps8
    go_wp2
    go_ret
    exact ⟨rfl, Below.refl _ _⟩
  · by_cases g2 : 65536 < s
    · have e1 : mayR s h t = false := by unfold mayR; exact decide_eq_false (by omega)
      rw [e1]
      clear e1
      (try (have hd : decide (h - t ≤ s) = false := by first | exact decide_eq_true (by omega) | exact decide_eq_false (by omega)))
      go_enter Try.func8, Try.ntmps8
      go_wp2
      go_ret
      exact ⟨rfl, Below.refl _ _⟩
    · by_cases g3 : t < 0
      · have e1 : mayR s h t = false := by unfold mayR; exact decide_eq_false (by omega)
        rw [e1]
        clear e1
        (try (have hd : decide (h - t ≤ s) = false := by first | exact decide_eq_true (by omega) | exact decide_eq_false (by omega)))
        go_enter Try.func8, Try.ntmps8
        go_wp2
        go_ret
        exact ⟨rfl, Below.refl _ _⟩
      · by_cases g4 : h < t
        · have e1 : mayR s h t = false := by unfold mayR; exact decide_eq_false (by omega)
          rw [e1]
          clear e1
          (try (have hd : decide (h - t ≤ s) = false := by first | exact decide_eq_true (by omega) | exact decide_eq_false (by omega)))
          go_enter Try.func8, Try.ntmps8
          go_wp2
          go_ret
          exact ⟨rfl, Below.refl _ _⟩
        · by_cases g5 : 1099511627776 ≤ h
          · have e1 : mayR s h t = false := by unfold mayR; exact decide_eq_false (by omega)
            rw [e1]
            clear e1
            (try (have hd : decide (h - t ≤ s) = false := by first | exact decide_eq_true (by omega) | exact decide_eq_false (by omega)))
            go_enter Try.func8, Try.ntmps8
            go_wp2
            go_ret
            exact ⟨rfl, Below.refl _ _⟩
          · by_cases g6 : s < h - t
            · have e1 : mayR s h t = false := by unfold mayR; exact decide_eq_false (by omega)
              rw [e1]
              clear e1
              (try (have hd : decide (h - t ≤ s) = false := by first | exact decide_eq_true (by omega) | exact decide_eq_false (by omega)))
              go_enter Try.func8, Try.ntmps8
              go_wp2
              go_ret
              exact ⟨rfl, Below.refl _ _⟩
            · have e1 : mayR s h t = true := by unfold mayR; exact decide_eq_true (by omega)
              rw [e1]
              clear e1
              (try (have hd : decide (h - t ≤ s) = true := by first | exact decide_eq_true (by omega) | exact decide_eq_false (by omega)))
              go_enter Try.func8, Try.ntmps8
              go_wp2
              go_ret
              exact ⟨rfl, Below.refl _ _⟩
def usedR (s h t : Int) : Int := if mayR s h t then h - t else 0
def freeR (s h t : Int) : Int := if mayR s h t then s - (h - t) else 0
/-- The cells of a ring in a box. -/
structure Rc (w : World) (g : Nat) (s h t : Int) : Prop where
  c0 : w.cell? ⟨g, 0, none⟩ = some (.int .i64 s)
  c1 : w.cell? ⟨g, 1, none⟩ = some (.int .i64 h)
  c2 : w.cell? ⟨g, 2, none⟩ = some (.int .i64 t)
  lt : g < w.heap.size
theorem Rc.later {w w' : World} {g : Nat} {s h t : Int} (x : Rc w g s h t) (hb : Below w.heap.size w w') : Rc w' g s h t :=
  ⟨(hb.cell (p := ⟨g, _, none⟩) x.lt).trans x.c0, (hb.cell (p := ⟨g, _, none⟩) x.lt).trans x.c1, (hb.cell (p := ⟨g, _, none⟩) x.lt).trans x.c2, Nat.lt_of_lt_of_le x.lt hb.size⟩
theorem Rc.new (w : World) (s h t : Int) : Rc (w.alloc (.cells #[.int .i64 s, .int .i64 h, .int .i64 t] 23)) w.heap.size s h t := by
  have hh := heap_alloc_new w (.cells #[.int .i64 s, .int .i64 h, .int .i64 t] 23)
  refine ⟨?_, ?_, ?_, lt_of_block hh⟩ <;> (rw [cell_of_row _ _ _ _ _ _ hh]; rfl)
set_option maxRecDepth 100000 in
set_option maxHeartbeats 2000000 in
theorem used_any (s h t : Int) (hh : I64 h) (ht : I64 t) (w : World) : Calls Try.prog 12 #[.agg #[.int .i64 s, .int .i64 h, .int .i64 t]] w fun e w' => e = .returned (.int .i64 (usedR s h t)) ∧ Below w.heap.size w w' := by
  have hc := check_any s h t hh ht (w.alloc (.cells #[.int .i64 s, .int .i64 h, .int .i64 t] 23))
  have HX := hide (Rc.new w s h t)
  have HB := hide (below_alloc w (.cells #[.int .i64 s, .int .i64 h, .int .i64 t] 23))
  unfold usedR
  cases hm : mayR s h t with
  | false =>
    rw [hm, show erB false = 1 from rfl] at hc
    clear hm
    go_enter Try.func12, Try.ntmps12
    go_wp2_with fail
    refine hc.mono ?_
    rintro e w1 ⟨rfl, hb1⟩
    have HB1 := hide (HB.out.trans (hb1.mono HB.out.size))
    clear hc hb1
    go_wp2
    go_ret
    exact ⟨rfl, HB1.out⟩
  | true =>
    rw [hm, show erB true = 0 from rfl] at hc
    obtain ⟨m1, m2, m3, m4, m5, m6⟩ := mayR_get hm
    clear hm
    go_enter Try.func12, Try.ntmps12
    go_wp2_with fail
    refine hc.mono ?_
    rintro e w1 ⟨rfl, hb1⟩
    have HB1 := hide (HB.out.trans (hb1.mono HB.out.size))
    obtain ⟨c0, c1, c2, _⟩ := HX.out.later hb1
    have hw : IntKind.i64.wrap (h - t) = h - t := by rw [IntKind.wrap_i64]; omega
    clear hc hb1
    go_wp2
    go_ret
    exact ⟨rfl, HB1.out⟩
set_option maxRecDepth 100000 in
set_option maxHeartbeats 2000000 in
theorem free_any (s h t : Int) (hh : I64 h) (ht : I64 t) (w : World) : Calls Try.prog 13 #[.agg #[.int .i64 s, .int .i64 h, .int .i64 t]] w fun e w' => e = .returned (.int .i64 (freeR s h t)) ∧ Below w.heap.size w w' := by
  have hc := check_any s h t hh ht (w.alloc (.cells #[.int .i64 s, .int .i64 h, .int .i64 t] 23))
  have HX := hide (Rc.new w s h t)
  have HB := hide (below_alloc w (.cells #[.int .i64 s, .int .i64 h, .int .i64 t] 23))
  have HU : Hid (∀ w', _) := fun w' => used_any s h t hh ht w'
  unfold freeR
  cases hm : mayR s h t with
  | false =>
    rw [hm, show erB false = 1 from rfl] at hc
    clear hm
    go_enter Try.func13, Try.ntmps13
    go_wp2_with fail
    refine hc.mono ?_
    rintro e w1 ⟨rfl, hb1⟩
    have HB1 := hide (HB.out.trans (hb1.mono HB.out.size))
    clear hc hb1
    go_wp2
    go_ret
    exact ⟨rfl, HB1.out⟩
  | true =>
    rw [hm, show erB true = 0 from rfl] at hc
    have hu : usedR s h t = h - t := by unfold usedR; rw [hm]; rfl
    rw [hu] at HU
    obtain ⟨m1, m2, m3, m4, m5, m6⟩ := mayR_get hm
    clear hm hu
    go_enter Try.func13, Try.ntmps13
    go_wp2_with fail
    refine hc.mono ?_
    rintro e w1 ⟨rfl, hb1⟩
    have HB1 := hide (HB.out.trans (hb1.mono HB.out.size))
    have X0 : ∀ P : Later w1, _ := fun P => ((HX.out.later hb1).later P.below).c0
    have X1 : ∀ P : Later w1, _ := fun P => ((HX.out.later hb1).later P.below).c1
    have X2 : ∀ P : Later w1, _ := fun P => ((HX.out.later hb1).later P.below).c2
    have CU : ∀ P : Later w1, _ := fun P => HU.out P.val
    have hne := later_ne w1
    have hw : IntKind.i64.wrap (s - (h - t)) = s - (h - t) := by rw [IntKind.wrap_i64]; omega
    clear hc hb1
    go_wp2
    refine wp_region_later (by kernel_rfl) (by kernel_rfl) ?_
    (repeat (first | go_big_quiet_skip | (go_big_quiet_want; go_big_quiet_op; go_big_quiet_on)))
    (go_big_quiet_want; go_big_quiet_op; apply Exists.intro; refine ⟨fun p => ?_, ?_⟩; (· exact later_of (CU p)); go_big_quiet_on)
    (repeat (first | go_big_quiet_skip | (go_big_quiet_want; go_big_quiet_op; go_big_quiet_on)))
    refine wpQuiet_nil ?_
    rintro _ ⟨p, rfl⟩
    have HB2 := hide (HB1.out.trans (p.below.mono HB1.out.size))
    clear X0 X1 X2 CU hne
    go_wp2
    go_ret
    exact ⟨rfl, HB2.out⟩
set_option maxRecDepth 100000 in
set_option maxHeartbeats 2000000 in
theorem new_any (s : Int) (w : World) : Calls Try.prog 9 #[.int .i64 s] w fun e w' => e = .returned (if mayR s 0 0 then .tuple #[.agg #[.int .i64 s, .int .i64 0, .int .i64 0], .int .i64 0] else .tuple #[.agg #[.int .i64 0, .int .i64 0, .int .i64 0], .int .i64 1]) ∧ Below w.heap.size w w' := by
  have hb0 := below_alloc w (.cells #[.int .i64 0, .int .i64 0, .int .i64 0] 23)
  have hb1 := hb0.alloc hb0.size (.cells #[.int .i64 s, .int .i64 0, .int .i64 0] 23)
  have hc := check_any s 0 0 ⟨by omega, by omega⟩ ⟨by omega, by omega⟩ ((w.alloc (.cells #[.int .i64 0, .int .i64 0, .int .i64 0] 23)).alloc (.cells #[.int .i64 s, .int .i64 0, .int .i64 0] 23))
  have hs1 : (w.alloc (.cells #[.int .i64 0, .int .i64 0, .int .i64 0] 23)).heap.size = w.heap.size + 1 := by simp
  have HR : Hid (∀ w', Below ((w.alloc (.cells #[.int .i64 0, .int .i64 0, .int .i64 0] 23)).alloc (.cells #[.int .i64 s, .int .i64 0, .int .i64 0] 23)).heap.size ((w.alloc (.cells #[.int .i64 0, .int .i64 0, .int .i64 0] 23)).alloc (.cells #[.int .i64 s, .int .i64 0, .int .i64 0] 23)) w' → Rc w' w.heap.size 0 0 0 ∧ Rc w' (w.heap.size + 1) s 0 0 ∧ ∀ j, w'.frozen? ⟨w.heap.size, j, none⟩ = false) := fun w' hb => by
    have r1 := (Rc.new w 0 0 0).later (below_alloc _ (.cells #[.int .i64 s, .int .i64 0, .int .i64 0] 23))
    have r2 := Rc.new (w.alloc (.cells #[.int .i64 0, .int .i64 0, .int .i64 0] 23)) s 0 0
    rw [hs1] at r2
    refine ⟨r1.later hb, r2.later hb, fun j => ?_⟩
    have hh := heap_alloc_new w (.cells #[.int .i64 0, .int .i64 0, .int .i64 0] 23)
    have h2 := (below_alloc (w.alloc (.cells #[.int .i64 0, .int .i64 0, .int .i64 0] 23)) (.cells #[.int .i64 s, .int .i64 0, .int .i64 0] 23)).block w.heap.size (by rw [hs1]; omega)
    have h3 := hb.block w.heap.size (by simp; omega)
    exact frozen_of_row _ _ _ _ _ (h3.trans (h2.trans hh))
  have HB := hide hb1
  clear hb0 hb1 hs1
  cases hm : mayR s 0 0 with
  | false =>
    rw [hm, show erB false = 1 from rfl] at hc
    clear hm
    go_enter Try.func9, Try.ntmps9
    go_wp2_with fail
    refine hc.mono ?_
    rintro e w1 ⟨rfl, hb1⟩
    have HB1 := hide (HB.out.trans (hb1.mono HB.out.size))
    obtain ⟨⟨a0, a1, a2, al⟩, ⟨c0, c1, c2, _⟩, af⟩ := HR.out w1 hb1
    have f0 := af 0
    have f1 := af 1
    have f2 := af 2
    have HBW : Hid (Below w.heap.size w (((w1.setCell ⟨w.heap.size, 0, none⟩ (.int .i64 0)).setCell ⟨w.heap.size, 1, none⟩ (.int .i64 0)).setCell ⟨w.heap.size, 2, none⟩ (.int .i64 0))) := below_set (below_set (below_set HB1.out (Nat.le_refl _)) (Nat.le_refl _)) (Nat.le_refl _)
    clear hc hb1 af
    go_wp2
    refine bodyPost_ret (v := .tuple #[.agg #[.int .i64 0, .int .i64 0, .int .i64 0], .int .i64 1]) (by simp [results, Try.results9, go_sem, a0, a1, a2]) rfl ⟨rfl, HBW.out⟩
  | true =>
    rw [hm, show erB true = 0 from rfl] at hc
    clear hm
    go_enter Try.func9, Try.ntmps9
    go_wp2_with fail
    refine hc.mono ?_
    rintro e w1 ⟨rfl, hb1⟩
    have HB1 := hide (HB.out.trans (hb1.mono HB.out.size))
    obtain ⟨⟨a0, a1, a2, al⟩, ⟨c0, c1, c2, _⟩, af⟩ := HR.out w1 hb1
    have f0 := af 0
    have f1 := af 1
    have f2 := af 2
    have HBW : Hid (Below w.heap.size w (((w1.setCell ⟨w.heap.size, 0, none⟩ (.int .i64 s)).setCell ⟨w.heap.size, 1, none⟩ (.int .i64 0)).setCell ⟨w.heap.size, 2, none⟩ (.int .i64 0))) := below_set (below_set (below_set HB1.out (Nat.le_refl _)) (Nat.le_refl _)) (Nat.le_refl _)
    clear hc hb1 af
    go_wp2
    refine bodyPost_ret (v := .tuple #[.agg #[.int .i64 s, .int .i64 0, .int .i64 0], .int .i64 0]) (by simp [results, Try.results9, go_sem, a0, a1, a2]) rfl ⟨rfl, HBW.out⟩

end Sp
end Go.Proofs.Ytbgadcofjhgmiaa
