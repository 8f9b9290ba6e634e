/- Which part of an object's sectors is live: the law, walked. -/
import Derived.Test.YtgdfmoehbgmfkaaLj
import Derived.Test.YtgdfmoehbgmfkaaMh
namespace Go.Proofs.Ytgdfmoehbgmfkaa
open Go.RowKit
namespace Li
open Wi
theorem one_word : (4607182418800017408 : Nat) = partW 1 1 := by decide +kernel
theorem fl_zero_word : (0 : Nat) = partW 0 1 := by decide +kernel
theorem er_one (w : World) (x : Ro) (hx : I64 x.1 ∧ I64 x.2.1 ∧ I64 x.2.2) (t : TypeId) : Er (w.alloc (.cells #[.int .i64 x.1, .int .i64 x.2.1, .int .i64 x.2.2] t)) (some ⟨w.heap.size, 0, none⟩) 1 [x] := by
  refine ⟨rfl, fun y hy => by simp at hy; subst hy; exact hx, fun i y hi => ?_⟩
  match i, hi with
  | 0, hi =>
    cases hi
    refine ⟨w.heap.size, 0, rfl, by simp, ?_, ?_, ?_⟩ <;> (rw [cell_of_row _ _ _ _ _ _ (heap_alloc_new w _)]; rfl)
/-- All that the law asks of the floats. -/
structure PartF (l t f ft y z : Nat) : Prop where
  h0 : FloatKind.f64.format.order f 0 = some (if l = 0 then .eq else .gt)
  h1 : FloatKind.f64.format.order f 4607182418800017408 = some (if l = t then .eq else .lt)
  h5 : ∀ w, (convert 3 57 (.int .i64 (t : Int))).run Try.prog w = .ok (.float .f64 ft) w
  h6 : ∀ w, (binOp .mul 57 (.float .f64 f) (.float .f64 ft)).run Try.prog w = .ok (.float .f64 y) w
  h7 : ∀ w, (binOp .add 57 (.float .f64 y) (.float .f64 4602678819172646912)).run Try.prog w = .ok (.float .f64 z) w
  h8 : ∀ w, (convert 57 3 (.float .f64 z)).run Try.prog w = .ok (.int .i64 (l : Int)) w
theorem partF (l t : Nat) (h1 : l ≤ t) (h2 : 1 ≤ t) (h3 : t ≤ 65536) : ∃ ft y z, PartF l t (partW l t) ft y z := by
  have o1 := part_order l t 1 1 h1 h2 h3 (by omega) (by omega) (by omega)
  have o0 := part_order l t 0 1 h1 h2 h3 (by omega) (by omega) (by omega)
  rw [← one_word] at o1
  rw [← fl_zero_word] at o0
  rw [Nat.mul_one, Nat.one_mul] at o1
  rw [Nat.mul_one, Nat.zero_mul] at o0
  have hb : ∃ y z, Ieee.double.mul (partW l t) (Ieee.double.nearest false t 0) = some y ∧ Ieee.double.add y 4602678819172646912 = some z ∧ (Ieee.double.read z).toInt .zero = some (l : Int) := by
    rcases Nat.eq_zero_or_pos l with e | e
    · subst e; exact zero_back t h2 h3
    · exact parts_back l t e h1 h3
  obtain ⟨y, z, hm, ha, hz⟩ := hb
  refine ⟨_, y, z, ?_, ?_, fun w => run_conv t w, fun w => run_float_arith w .mul 57 .f64 _ _ _ hm, fun w => run_float_arith w .add 57 .f64 _ _ _ ha, fun w => ?_⟩
  · refine Eq.trans (show _ = some (ordN ((l : Nat) : Int) ((0 : Nat) : Int)) from o0) ?_
    rcases Nat.eq_zero_or_pos l with e | e
    · rw [ordN_eq (by omega), if_pos e]
    · rw [ordN_gt (by omega), if_neg (by omega)]
  · refine Eq.trans (show _ = some (ordN ((l : Nat) : Int) ((t : Nat) : Int)) from o1) ?_
    rcases Nat.lt_or_ge l t with e | e
    · rw [ordN_lt (by omega), if_neg (by omega)]
    · rw [ordN_eq (by omega), if_pos (by omega)]
  · refine run_convert_float_int w 57 3 .f64 .i64 z l (by rw [Try.underlying57]; rfl) Try.underlying3 ?_
    unfold floatToIntVal
    have : (FloatKind.f64.decode z).toInt .zero = some (l : Int) := hz
    rw [this]
    simp [IntKind.min, IntKind.max, IntKind.signed, IntKind.bits]
    omega
set_option maxHeartbeats 8000000 in
set_option maxRecDepth 100000 in
theorem liveParts_walk (x : Ro) (w : World) (hx : I64 x.1 ∧ I64 x.2.1 ∧ I64 x.2.2) :
    Calls Try.prog 7 #[.agg #[.int .i64 x.1, .int .i64 x.2.1, .int .i64 x.2.2]] w fun e w' => e = .returned (.bool true) ∧ Below w.heap.size w w' := by
  obtain ⟨s, t, l⟩ := x
  simp only at *
  obtain ⟨w1, hw1⟩ : ∃ w1, w1 = w.alloc (.cells #[.int .i64 s, .int .i64 t, .int .i64 l] 58) := ⟨_, rfl⟩
  obtain ⟨w2, hw2⟩ : ∃ w2, w2 = w1.alloc (.cells #[.int .i64 s, .int .i64 t, .int .i64 l] 58) := ⟨_, rfl⟩
  have hpl := plain_any (cap := 1) (er_one w1 (s, t, l) hx 58) (by omega)
  simp only at hpl
  rw [← hw2] at hpl
  have hb1 := below_alloc w (.cells #[.int .i64 s, .int .i64 t, .int .i64 l] 58)
  have hb2 := below_alloc w1 (.cells #[.int .i64 s, .int .i64 t, .int .i64 l] 58)
  rw [← hw1] at hb1
  rw [← hw2] at hb2
  have HB2 := hide (hb1.trans (hb2.mono hb1.size))
  have hs1 : w1.heap.size = w.heap.size + 1 := by rw [hw1]; simp
  have HBLK : Hid (∀ w', Below w2.heap.size w2 w' → w'.heap[w.heap.size]? = some (.cells #[.int .i64 s, .int .i64 t, .int .i64 l] 58 (0, 0))) := fun w' h => by
    have a1 : w1.heap[w.heap.size]? = some (.cells #[.int .i64 s, .int .i64 t, .int .i64 l] 58 (0, 0)) := by rw [hw1]; exact heap_alloc_new w _
    have a2 : w2.heap[w.heap.size]? = w1.heap[w.heap.size]? := hb2.block _ (by omega)
    exact (h.block _ (by have := hb2.size; omega)).trans (a2.trans a1)
  rw [hs1] at hpl
  have ha := awake_any
  have hm := fun w => refMay_any s t l w
  clear hb1 hb2 hx
  go_enter Try.func7, Try.ntmps7
  go_wp2_with fail
  rw [← hw1, ← hw2]
  refine hpl.mono ?_
  rintro e w3 ⟨v, rfl, hrow, hb3⟩
  have HB3 := hide hb3
  obtain ⟨g, cap, rfl, hg⟩ := row_form (own_base hrow (Nat.zero_le _)) (by omega)
  have k0 := (World.ownsRow.cellAt hrow 0 (by omega))
  have k1 := (World.ownsRow.cellAt hrow 1 (by omega))
  have k2 := (World.ownsRow.cellAt hrow 2 (by omega))
  simp only [rcs_cons, rcs_nil, rc, List.append_nil, List.getElem?_cons_zero, List.getElem?_cons_succ] at k0 k1 k2
  clear hpl hw1 hw2 hrow hb3
  cases hmm : mayR s t l with
  | false =>
    rw [hmm] at hm
    clear hmm
    go_wp2_with (first
      | (go_at_call 27; refine (hm _).mono ?_; rintro e w4 ⟨rfl, hb4⟩)
      | (go_at_call 13; refine (ha _).mono ?_; rintro e w5 ⟨rfl, hb5⟩))
    go_ret
    have HB4 := HB3.out.trans (hb4.mono HB3.out.size)
    exact ⟨rfl, HB2.out.trans ((HB4.trans (hb5.mono HB4.size)).mono HB2.out.size)⟩
  | true =>
    rw [hmm] at hm
    obtain ⟨g1, g2, g3, g4, g5, g6⟩ := mayR_get hmm
    obtain ⟨t, rfl⟩ : ∃ k : Nat, t = (k : Int) := ⟨t.toNat, by omega⟩
    obtain ⟨l, rfl⟩ : ∃ k : Nat, l = (k : Int) := ⟨l.toNat, by omega⟩
    have HC : Hid (∀ w', Below w2.heap.size w2 w' → w'.cell? ⟨w.heap.size, 0, none⟩ = some (.int .i64 s) ∧ w'.cell? ⟨w.heap.size, 1, none⟩ = some (.int .i64 (t : Int)) ∧ w'.cell? ⟨w.heap.size, 2, none⟩ = some (.int .i64 (l : Int))) := fun w' h => row_cells (HBLK.out w' h)
    have hp : ∀ w, Calls Try.prog 26 #[.agg #[.int .i64 s, .int .i64 (t : Int), .int .i64 (l : Int)]] w fun e w' => e = .returned (.float .f64 (partW l t)) ∧ Below w.heap.size w w' := fun w => (part_any s t l (by omega) (by omega) (by omega) w).mono fun e w' ⟨h1, h2⟩ => ⟨h1, h2 ▸ below_alloc _ _⟩
    have HLT : Hid (l ≤ t ∧ t ≤ 65536) := ⟨by omega, by omega⟩
    clear hmm g1 g2 g3 g4 g5 g6
    go_wp2_with (first
      | (go_at_call 27; refine (hm _).mono ?_; rintro e w4 ⟨rfl, hb4⟩; have HB4 := hide (HB3.out.trans (hb4.mono HB3.out.size)); obtain ⟨d0, d1, d2⟩ := HC.out w4 HB4.out))
    refine (hp _).mono ?_
    rintro e w5 ⟨rfl, hb5⟩
    have HB5 := hide (HB4.out.trans (hb5.mono HB4.out.size))
    obtain ⟨e0, e1, e2⟩ := HC.out w5 HB5.out
    clear hp hm hb4 hb5 d0 d1 d2 k0 k1 k2
    by_cases ht : t = 0
    · have e01 : partW l t = 4607182418800017408 := by rw [ht]; exact if_pos rfl
      rw [e01]
      have ht1 : (t : Int) = 0 := by omega
      have ht2 : decide ((t : Int) = 0) = true := decide_eq_true ht1
      have hq : FloatKind.f64.format.order 4607182418800017408 4607182418800017408 = some .eq := by decide +kernel
      clear e01 ht
      go_wp2_with (go_at_call 13; refine (ha _).mono ?_; rintro e w6 ⟨rfl, hb6⟩)
      go_ret
      exact ⟨rfl, HB2.out.trans ((HB5.out.trans (hb6.mono HB5.out.size)).mono HB2.out.size)⟩
    · obtain ⟨ft, y, z, hF⟩ := partF l t HLT.out.1 (by omega) HLT.out.2
      have ht1 : ¬ (t : Int) = 0 := by omega
      have ht2 : decide ((t : Int) = 0) = false := decide_eq_false ht1
      obtain ⟨f0, f1, f5, f6, f7, f8⟩ := hF
      generalize partW l t = f at *
      have hcase : (l = 0 ∧ ¬ l = t) ∨ (¬ l = 0 ∧ l = t) ∨ (¬ l = 0 ∧ ¬ l = t) := by omega
      clear ht
      rcases hcase with ⟨a1, a2⟩ | ⟨a1, a2⟩ | ⟨a1, a2⟩
      · rw [if_pos a1] at f0
        rw [if_neg a2] at f1
        subst a1
        have b2 : decide ((0 : Int) = (t : Int)) = false := decide_eq_false (by omega)
        have b4 : ¬ (0 : Int) = (t : Int) := by omega
        have b5 : ((0 : Int) == (t : Int)) = false := by rw [beq_eq_false_iff_ne]; exact b4
        clear a2
        go_wp2_with (go_at_call 13; refine (ha _).mono ?_; rintro e w6 ⟨rfl, hb6⟩)
        go_ret
        exact ⟨rfl, HB2.out.trans ((HB5.out.trans (hb6.mono HB5.out.size)).mono HB2.out.size)⟩
      · rw [if_neg a1] at f0
        rw [if_pos a2] at f1
        subst a2
        have b1 : decide ((l : Int) = 0) = false := decide_eq_false (by omega)
        clear a1
        go_wp2_with (go_at_call 13; refine (ha _).mono ?_; rintro e w6 ⟨rfl, hb6⟩)
        go_ret
        exact ⟨rfl, HB2.out.trans ((HB5.out.trans (hb6.mono HB5.out.size)).mono HB2.out.size)⟩
      · rw [if_neg a1] at f0
        rw [if_neg a2] at f1
        have b1 : decide ((l : Int) = 0) = false := decide_eq_false (by omega)
        have b2 : decide ((l : Int) = (t : Int)) = false := decide_eq_false (by omega)
        have b3 : ¬ (l : Int) = 0 := by omega
        have b4 : ¬ (l : Int) = (t : Int) := by omega
        have b5 : ((l : Int) == (t : Int)) = false := by rw [beq_eq_false_iff_ne]; exact b4
        have b6 : ((l : Int) == 0) = false := by rw [beq_eq_false_iff_ne]; exact b3
        clear a1 a2
        go_wp2_with (go_at_call 13; refine (ha _).mono ?_; rintro e w6 ⟨rfl, hb6⟩)
        go_ret
        exact ⟨rfl, HB2.out.trans ((HB5.out.trans (hb6.mono HB5.out.size)).mono HB2.out.size)⟩
end Li
end Go.Proofs.Ytgdfmoehbgmfkaa
