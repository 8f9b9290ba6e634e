/- Which extents may be, in the words of the document; two lists that are the same; one extent that is put. -/
import Derived.Test.YtjbgojccfkmlnaaWx
namespace Go.Proofs.Ytjbgojccfkmlnaa
open Go.RowKit
namespace Wi

theorem ext_any (a n q t : Int) (w : World) : Calls Try.prog 18 #[.int .i64 a, .int .i64 n, .int .i64 q, .int .i64 t] w fun e w' => e = .returned (.agg #[.int .i64 a, .int .i64 n, .int .i64 q, .int .i64 t]) ∧ Below w.heap.size w w' := by
  go_enter Try.func18, Try.ntmps18
  go_wp2
  refine bodyPost_ret (v := .agg #[.int .i64 a, .int .i64 n, .int .i64 q, .int .i64 t]) (by simp [results, Try.results18, go_sem]) rfl ⟨rfl, ?_⟩
  exact below_alloc w _
set_option maxHeartbeats 1000000 in
theorem refspan_any (a n : Int) (ha : I64 a) (hn : I64 n) (w : World) : Calls Try.prog 34 #[.agg #[.int .i64 a, .int .i64 n]] w fun e w' => e = .returned (.bool (mayS a n)) ∧ Below w.heap.size w w' := by
  obtain ⟨a1, a2⟩ := ha
  obtain ⟨n1, n2⟩ := hn
  have hb := hide (below_alloc w (.cells #[.int .i64 a, .int .i64 n] 38))
  by_cases h1 : 0 ≤ a
  · by_cases h2 : a ≤ 65536
    · by_cases h3 : 1 ≤ n
      · by_cases h4 : n ≤ 65536
        · by_cases h5 : a + n ≤ 65536
          · have e1 : mayS a n = true := by unfold mayS; simp; omega
            rw [e1]
            clear e1
            go_enter Try.func34, Try.ntmps34
            go_wp2
            go_ret
            exact ⟨rfl, hb.out⟩
          · have e1 : mayS a n = false := by unfold mayS; simp; omega
            rw [e1]
            clear e1
            go_enter Try.func34, Try.ntmps34
            go_wp2
            go_ret
            exact ⟨rfl, hb.out⟩
        · have e1 : mayS a n = false := by unfold mayS; simp; omega
          rw [e1]
          clear e1
          go_enter Try.func34, Try.ntmps34
          go_wp2
          go_ret
          exact ⟨rfl, hb.out⟩
      · have e1 : mayS a n = false := by unfold mayS; simp; omega
        rw [e1]
        clear e1
        go_enter Try.func34, Try.ntmps34
        go_wp2
        go_ret
        exact ⟨rfl, hb.out⟩
    · have e1 : mayS a n = false := by unfold mayS; simp; omega
      rw [e1]
      clear e1
      go_enter Try.func34, Try.ntmps34
      go_wp2
      go_ret
      exact ⟨rfl, hb.out⟩
  · have e1 : mayS a n = false := by unfold mayS; simp; omega
    rw [e1]
    clear e1
    go_enter Try.func34, Try.ntmps34
    go_wp2
    go_ret
    exact ⟨rfl, hb.out⟩
set_option maxHeartbeats 1000000 in
theorem refspot_any (q t : Int) (w : World) : Calls Try.prog 31 #[.agg #[.int .i64 q, .int .i64 t]] w fun e w' => e = .returned (.bool (mayP q t)) ∧ Below w.heap.size w w' := by
  have hb := hide (below_alloc w (.cells #[.int .i64 q, .int .i64 t] 32))
  by_cases h1 : 0 ≤ q
  · by_cases h2 : q < 1099511627776
    · by_cases h3 : 0 ≤ t
      · by_cases h4 : t < 1099511627776
        · have e1 : mayP q t = true := by unfold mayP; simp; omega
          rw [e1]
          clear e1
          go_enter Try.func31, Try.ntmps31
          go_wp2
          go_ret
          exact ⟨rfl, hb.out⟩
        · have e1 : mayP q t = false := by unfold mayP; simp; omega
          rw [e1]
          clear e1
          go_enter Try.func31, Try.ntmps31
          go_wp2
          go_ret
          exact ⟨rfl, hb.out⟩
      · have e1 : mayP q t = false := by unfold mayP; simp; omega
        rw [e1]
        clear e1
        go_enter Try.func31, Try.ntmps31
        go_wp2
        go_ret
        exact ⟨rfl, hb.out⟩
    · have e1 : mayP q t = false := by unfold mayP; simp; omega
      rw [e1]
      clear e1
      go_enter Try.func31, Try.ntmps31
      go_wp2
      go_ret
      exact ⟨rfl, hb.out⟩
  · have e1 : mayP q t = false := by unfold mayP; simp; omega
    rw [e1]
    clear e1
    go_enter Try.func31, Try.ntmps31
    go_wp2
    go_ret
    exact ⟨rfl, hb.out⟩
set_option maxHeartbeats 1000000 in
theorem refmay_any (a n q t : Int) (ha : I64 a) (hn : I64 n) (w : World) : Calls Try.prog 22 #[.agg #[.int .i64 a, .int .i64 n, .int .i64 q, .int .i64 t]] w fun e w' => e = .returned (.bool (mayX a n q t)) ∧ Below w.heap.size w w' := by
  have hb := below_alloc w (.cells #[.int .i64 a, .int .i64 n, .int .i64 q, .int .i64 t] 40)
  have hc := refspan_any a n ha hn (w.alloc (.cells #[.int .i64 a, .int .i64 n, .int .i64 q, .int .i64 t] 40))
  have HB := hide hb
  cases h1 : mayS a n with
  | false =>
    have e1 : mayX a n q t = false := by unfold mayX; rw [h1]; rfl
    rw [h1] at hc
    rw [e1]
    clear e1 hb h1
    go_enter Try.func22, Try.ntmps22
    go_wp2_with fail
    refine hc.mono ?_
    rintro e w1 ⟨rfl, hb1⟩
    have HB1 := hide (HB.out.trans (hb1.mono HB.out.size))
    clear hc hb1
    go_wp2
    go_ret
    exact ⟨rfl, HB1.out⟩
  | true =>
    have e1 : mayX a n q t = mayP q t := by unfold mayX; rw [h1]; rfl
    rw [h1] at hc
    rw [e1]
    clear e1 h1
    go_enter Try.func22, Try.ntmps22
    go_wp2_with fail
    refine hc.mono ?_
    rintro e w1 ⟨rfl, hb1⟩
    have c2 : w1.cell? ⟨w.heap.size, 2, none⟩ = some (.int .i64 q) := (hb1.cell (p := ⟨w.heap.size, 2, none⟩) (by simp)).trans (by rw [cell_of_row _ _ _ _ _ _ (heap_alloc_new w _)]; rfl)
    have c3 : w1.cell? ⟨w.heap.size, 3, none⟩ = some (.int .i64 t) := (hb1.cell (p := ⟨w.heap.size, 3, none⟩) (by simp)).trans (by rw [cell_of_row _ _ _ _ _ _ (heap_alloc_new w _)]; rfl)
    have hc2 := refspot_any q t w1
    have HB1 := hide (HB.out.trans (hb1.mono HB.out.size))
    clear hc hb1 hb
    go_wp2_with fail
    refine hc2.mono ?_
    rintro e w2 ⟨rfl, hb2⟩
    have HB2 := hide (HB1.out.trans (hb2.mono HB1.out.size))
    clear hc2 hb2
    go_wp2
    go_ret
    exact ⟨rfl, HB2.out⟩
def farB (a n : Int) : Bool := mayS a n && decide (300 < a + n)
set_option maxHeartbeats 1000000 in
theorem far_any (a n q t : Int) (ha : I64 a) (hn : I64 n) (w : World) : Calls Try.prog 20 #[.agg #[.int .i64 a, .int .i64 n, .int .i64 q, .int .i64 t]] w fun e w' => e = .returned (.bool (farB a n)) ∧ Below w.heap.size w w' := by
  have hb := below_alloc w (.cells #[.int .i64 a, .int .i64 n, .int .i64 q, .int .i64 t] 40)
  have hc := refspan_any a n ha hn (w.alloc (.cells #[.int .i64 a, .int .i64 n, .int .i64 q, .int .i64 t] 40))
  have HB := hide hb
  cases h1 : mayS a n with
  | false =>
    have e1 : farB a n = false := by unfold farB; rw [h1]; rfl
    rw [h1] at hc
    rw [e1]
    clear e1 hb h1
    go_enter Try.func20, Try.ntmps20
    go_wp2_with fail
    refine hc.mono ?_
    rintro e w1 ⟨rfl, hb1⟩
    have HB1 := hide (HB.out.trans (hb1.mono HB.out.size))
    clear hc hb1
    go_wp2
    go_ret
    exact ⟨rfl, HB1.out⟩
  | true =>
    have e1 : farB a n = decide (300 < a + n) := by unfold farB; rw [h1]; rfl
    rw [h1] at hc
    rw [e1]
    obtain ⟨m1, m2, m3, m4⟩ := mayS_nat h1
    have b1 : 0 ≤ a := by omega
    have b2 : a ≤ 65536 := by omega
    have b3 : n ≤ 65536 := by omega
    have b4 : 0 ≤ n := by omega
    clear e1 h1 m1 m2 m3 m4
    go_enter Try.func20, Try.ntmps20
    go_wp2_with fail
    refine hc.mono ?_
    rintro e w1 ⟨rfl, hb1⟩
    have c2 : w1.cell? ⟨w.heap.size, 0, none⟩ = some (.int .i64 a) := (hb1.cell (p := ⟨w.heap.size, 0, none⟩) (by simp)).trans (by rw [cell_of_row _ _ _ _ _ _ (heap_alloc_new w _)]; rfl)
    have c3 : w1.cell? ⟨w.heap.size, 1, none⟩ = some (.int .i64 n) := (hb1.cell (p := ⟨w.heap.size, 1, none⟩) (by simp)).trans (by rw [cell_of_row _ _ _ _ _ _ (heap_alloc_new w _)]; rfl)
    have HB1 := hide (HB.out.trans (hb1.mono HB.out.size))
    clear hc hb1 hb
    go_wp2
    go_ret
    exact ⟨by first | rfl | (apply ret_bool; first | rfl | (apply decide_eq_decide.2; omega)), HB1.out⟩
set_option maxHeartbeats 4000000 in
set_option maxRecDepth 20000 in
theorem same_yes {w : World} {v u : Value} {l : List Xt} (h : Xs w v l) (h2 : Xs w u l) (hn : l.length ≤ 1000000) : Calls Try.prog 25 #[v, u] w fun e w' => e = .returned (.bool true) ∧ Below w.heap.size w w' := by
  obtain ⟨a, cap, rfl, hlc, hcm⟩ := h.len
  obtain ⟨a2, cap2, rfl, hlc2, hcm2⟩ := h2.len
  have HX := hide h
  have HY := hide h2
  obtain ⟨n, hL⟩ : ∃ n, l.length = n := ⟨_, rfl⟩
  have HL := hide hL
  rw [hL] at hlc hlc2 hn HX HY
  rw [hL]
  clear h h2 hL
  go_enter Try.func25, Try.ntmps25
  go_wp2
  go_loopw [5] (fun i wr => ∃ k : Nat, k ≤ n ∧ i = .int .i64 k ∧ Below w.heap.size w wr) (fun i _ => n - (intOf i).toNat)
  case atStart => exact ⟨0, Nat.zero_le _, rfl, Below.refl _ _⟩
  case round =>
    obtain ⟨k, hk, rfl, hb⟩ := hrel
    by_cases hlt : k < n
    · obtain ⟨x, hx⟩ : ∃ x, l[k]? = some x := ⟨_, List.getElem?_eq_getElem (by rw [HL.out]; exact hlt)⟩
      obtain ⟨e1, hat⟩ := Xs.at (n := n) HX.out
      clear e1
      obtain ⟨g, off, rfl, hX⟩ := hat k x hx
      obtain ⟨e2, hat2⟩ := Xs.at (n := n) HY.out
      clear e2
      obtain ⟨g2, off2, rfl, hY⟩ := hat2 k x hx
      obtain ⟨xa, xl, xq, xt⟩ := x
      have HB := hide hb
      have c0 : ∀ P : Later wr, _ := fun P => ((hX.later hb).later P.below).c0
      have c1 : ∀ P : Later wr, _ := fun P => ((hX.later hb).later P.below).c1
      have c2 : ∀ P : Later wr, _ := fun P => ((hX.later hb).later P.below).c2
      have c3 : ∀ P : Later wr, _ := fun P => ((hX.later hb).later P.below).c3
      have d0 : ∀ P : Later wr, _ := fun P => ((hY.later hb).later P.below).c0
      have d1 : ∀ P : Later wr, _ := fun P => ((hY.later hb).later P.below).c1
      have d2 : ∀ P : Later wr, _ := fun P => ((hY.later hb).later P.below).c2
      have d3 : ∀ P : Later wr, _ := fun P => ((hY.later hb).later P.below).c3
      have hE := fun w => run_neq40 (xa : Nat) (xl : Nat) (xq : Nat) (xt : Nat) (xa : Nat) (xl : Nat) (xq : Nat) (xt : Nat) w
      simp only [and_self, decide_true, Bool.not_true] at hE
      have hne := later_ne wr
      clear hX hY hat hat2 hx hb
      go_wp2
      refine wp_region_later (by kernel_rfl) (by kernel_rfl) ?_
      (repeat (first | go_big_quiet_skip | (go_big_quiet_want; go_big_quiet_op; go_big_quiet_on)))
      refine wpQuiet_nil ?_
      rintro _ ⟨P, rfl⟩
      have HB2 := hide (HB.out.trans (P.below.mono HB.out.size))
      generalize P.val = w2 at *
      clear c0 c1 c2 c3 d0 d1 d2 d3 hne
      go_wp2
      go_roundw
      case rel => exact ⟨k + 1, by omega, by go_num, HB2.out⟩
      case measure => simp [intOf]; omega
    · obtain rfl : k = n := by omega
      have HB := hide hb
      clear hb
      go_wp2
      go_ret
      exact ⟨rfl, HB.out⟩
theorem Mine.run {W w : World} {A : Th} (h : Mine W w A) : ∃ X, A w X ∧ (∀ k, X k → W.heap.size ≤ k) ∧ ∀ {w' : World} {A' : Th}, LeftT A' w X w' → Mine W w' A' := by
  obtain ⟨X, h1, h2, h3⟩ := h
  refine ⟨X, h1, h2, fun {w' A'} ⟨X', l1, l2, l3⟩ => ⟨X', l1, fun k hk => ?_, h3.trans (l2.below h3.size fun k hk hx => ?_)⟩⟩
  · rcases l3 k hk with e | e
    · exact h2 k e
    · exact Nat.le_trans h3.size e
  · exact Nat.lt_irrefl _ (Nat.lt_of_lt_of_le hk (h2 k hx))
theorem es_one {w : World} {k : Nat} {x : Ix} (hr : x.Rng) (h : w.heap[k]? = some (.cells #[.int .i64 x.a, .int .i64 x.n, .int .i64 x.q, .int .i64 x.t] 40 (0, 0))) : Es w (some ⟨k, 0, none⟩) 1 [x] :=
  ⟨rfl, by omega, by simpa using hr, fun i y hi => by
    cases i with
    | zero =>
      simp at hi
      subst hi
      exact ⟨k, 0, rfl, lt_of_block h, by rw [cell_of_row _ _ _ _ _ _ h]; rfl, by rw [cell_of_row _ _ _ _ _ _ h]; rfl, by rw [cell_of_row _ _ _ _ _ _ h]; rfl, by rw [cell_of_row _ _ _ _ _ _ h]; rfl⟩
    | succ i => simp at hi⟩
/-- One extent, made at the call, is put. -/
theorem put_one {W w : World} {b : Nat} {l : List Xt} (h : Mine W w (mapT b l)) (hF : Fit l) (a n q t : Nat) (hm : Ix.may ⟨a, n, q, t⟩ = true) :
    Calls Try.prog 28 #[.pointer (some ⟨b, 0, none⟩), .slice (some ⟨w.heap.size, 0, none⟩) 1 1] (w.alloc (.cells #[.int .i64 (a : Nat), .int .i64 (n : Nat), .int .i64 (q : Nat), .int .i64 (t : Nat)] 40)) fun e w' => ∃ f, e = .returned (.tuple #[f, .int .i64 0]) ∧ Mine W w' ((mapT b (putP l [⟨a, n, q, t⟩]).1).and (listT f (putP l [⟨a, n, q, t⟩]).2)) := by
  obtain ⟨X, h1, h2, h3⟩ := (Mine.later (mapT_good b l) h (below_alloc w (.cells #[.int .i64 (a : Nat), .int .i64 (n : Nat), .int .i64 (q : Nat), .int .i64 (t : Nat)] 40))).run
  obtain ⟨X0, g1, _⟩ := h
  have hr : Ix.Rng ⟨a, n, q, t⟩ := by
    have := Ix.sm hm
    unfold Ix.may mayX mayS mayP at hm
    simp at hm
    refine ⟨⟨?_, ?_⟩, ⟨?_, ?_⟩, ⟨?_, ?_⟩, ⟨?_, ?_⟩⟩ <;> simp only <;> omega
  have hE := es_one (x := ⟨a, n, q, t⟩) hr (heap_alloc_new w _)
  have hx : xof [(⟨a, n, q, t⟩ : Ix)] = [⟨a, n, q, t⟩] := by simp [xof, Ix.x]
  have hap : ¬ X w.heap.size := fun e => by
    obtain ⟨v, hv, hXv⟩ := h1
    obtain ⟨v0, hv0, _⟩ := g1
    have e1 : v = v0 := by
      have k1 := hv.blk
      rw [(below_alloc w _).block b hv0.lt, hv0.blk] at k1
      injection k1 with k1
      injection k1 with k1
      simpa using k1.symm
    subst e1
    rcases (hXv _).1 e with e2 | e2
    · have := hv0.lt; omega
    · have := Rw.lt hv0.xs _ e2; omega
  refine (put_ok hE (Nat.le_refl _) (by omega) h1 hF (fun _ g off e => by injection e with e; injection e with e _ _; subst e; exact hap) (by simpa using hm)).mono ?_
  rintro e w' ⟨f, rfl, hl⟩
  rw [hx] at hl
  exact ⟨f, rfl, h3 hl⟩

end Wi
end Go.Proofs.Ytjbgojccfkmlnaa
