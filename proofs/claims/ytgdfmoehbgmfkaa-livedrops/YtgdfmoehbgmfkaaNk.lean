/- Victims, as the document has it. -/
import Derived.Test.YtgdfmoehbgmfkaaNj
namespace Go.Proofs.Ytgdfmoehbgmfkaa
open Go.RowKit
namespace Li
open Wi
/-- Rows from one on, of any slice that is owned. -/
theorem slice_own {w0 : World} {n0 : Nat} {a : Option Addr} {n cap : Nat} {xs : List Ro} (hO : w0.ownsRow n0 35 3 (.slice a n cap) n (rcs xs)) (hL : n = xs.length) (hr : ∀ x ∈ xs, I64 x.1 ∧ I64 x.2.1 ∧ I64 x.2.2) (k : Nat) (h1 : k ≤ n) :
    ∃ ad : Option Addr, (∀ w, (Instr.slice 27 (.slice a n cap) (some (.int .i64 (k : Int))) none none).run Try.prog w = .ok (.slice ad (n - k) (cap - k)) w) ∧ (k < n → ∃ ad', ad = some ad' ∧ ∀ w', Below w0.heap.size w0 w' → ∀ (j : Nat) (u : Value), (rcs (xs.drop k))[j]? = some u → w'.cell? (ad'.add j) = some u) := by
  have hE := er_own35 hO hL hr
  rcases hO.2 with ⟨hv, h0⟩ | ⟨g, cap', cur, hv, hb, hgg, h3, rest⟩
  · injection hv with e1 e2 e3
    subst e1 e3 h0
    refine ⟨none, fun w => ?_, fun h => by omega⟩
    have : k = 0 := by omega
    subst this
    simp [Instr.slice, Instr.sliceBounds, Instr.sliceBound, run_underlying Try.underlying27, asIntOf, go_sem]
  · injection hv with e1 e2 e3
    subst e1 e3
    obtain ⟨ad, h4, h5⟩ := slice_from (cap := cap) hE k h1 h3
    exact ⟨some ad, h4, fun _ => ⟨ad, rfl, h5⟩⟩
theorem takeW {m : List Ro} {r : Ro} {k : Nat} (hk : k ≤ m.length) (h1 : ∀ (j : Nat) (x : Ro), j < k → m[j]? = some x → lessR x r = true) (h2 : ∀ x, m[k]? = some x → lessR x r = false) : insD m r = m.take k ++ r :: m.drop k := by
  unfold insD
  have ht : ∀ (l : List Ro) (k : Nat), k ≤ l.length → (∀ (j : Nat) (x : Ro), j < k → l[j]? = some x → lessR x r = true) → (∀ x, l[k]? = some x → lessR x r = false) → l.takeWhile (fun x => lessR x r) = l.take k ∧ l.dropWhile (fun x => lessR x r) = l.drop k := by
    intro l
    induction l with
    | nil => intro k _ _ _; simp
    | cons y l ih =>
      intro k hk g1 g2
      cases k with
      | zero =>
        have := g2 y rfl
        simp [this]
      | succ k =>
        have h0 := g1 0 y (by omega) rfl
        have := ih k (by simpa using hk) (fun j x hj hx => g1 (j + 1) x (by omega) (by simpa using hx)) (fun x hx => g2 x (by simpa using hx))
        simp [h0, this.1, this.2]
  obtain ⟨e1, e2⟩ := ht m k hk h1 h2
  rw [e1, e2]
theorem insD_len (m : List Ro) (r : Ro) : (insD m r).length = m.length + 1 := by
  unfold insD
  have := congrArg List.length (List.takeWhile_append_dropWhile (p := fun x => lessR x r) (l := m))
  rw [List.length_append] at this
  rw [List.length_append, List.length_cons]; omega
theorem insD_mem {m : List Ro} {r x : Ro} (h : x ∈ insD m r) : x = r ∨ x ∈ m := by
  unfold insD at h
  rcases List.mem_append.1 h with h | h
  · exact .inr ((List.takeWhile_sublist _).mem h)
  · rcases List.mem_cons.1 h with h | h
    · exact .inl h
    · exact .inr ((List.dropWhile_sublist _).mem h)
def vD (p : Int) (qs : List Ro) (k : Nat) : List Ro := ((qs.take k).filter (pickD p)).foldl insD []
theorem vD_yes {p : Int} {qs : List Ro} {k : Nat} {x : Ro} (h : qs[k]? = some x) (hp : pickD p x = true) : vD p qs (k + 1) = insD (vD p qs k) x := by
  unfold vD
  rw [filter_take_yes h hp, List.foldl_append]; rfl
theorem vD_no {p : Int} {qs : List Ro} {k : Nat} {x : Ro} (h : qs[k]? = some x) (hp : pickD p x = false) : vD p qs (k + 1) = vD p qs k := by
  unfold vD
  rw [filter_take_no h hp]
set_option maxHeartbeats 32000000 in
set_option maxRecDepth 100000 in
/-- Victims, as the document has it. -/
theorem refVictims_any {w : World} {b0 : Nat} {a : Option Addr} {n cap : Nat} {qs : Rows} {p : Int} (hO : w.ownsRow b0 35 3 (.slice a n cap) n (rcs qs)) (hL : n = qs.length) (hmay : ∀ x ∈ qs, mayRo x = true) (hn : n ≤ 100000) (hp1 : -1000000 ≤ p) (hp2 : p ≤ 1000000) :
    Calls Try.prog 34 #[.slice a n cap, .int .i64 p] w fun e w' => Below w.heap.size w w' ∧ ∃ v, e = .returned v ∧ w'.ownsRow w.heap.size 3 1 v (docV p qs).length (isV ((docV p qs).map (·.1))) := by
  have hE := er_own35 hO hL (fun x hx => may_rng (hmay x hx))
  have HE := hide hE
  have HL := hide hL
  have HMAY := hide hmay
  obtain ⟨i0, hi, hz0, hz1, hz2⟩ := info_parts info35
  obtain ⟨j0, hj, hy0, hy1, hy2⟩ := info_parts info3'
  have HR0 : Hid (w.ownsRow w.heap.size 35 3 (.slice none 0 0) 0 (rcs (vD p qs 0))) := World.ownsRow_nil _ _ _ _
  clear hO hL hmay hE
  go_enter Try.func34, Try.ntmps34
  go_wp2
  go_loopw [5, 6] (fun c i wr => ∃ (k : Nat) (a5 : Option Addr) (m cap5 : Nat), k ≤ n ∧ i = .int .i64 k ∧ m ≤ k ∧ m = (vD p qs k).length ∧ c = .slice a5 m cap5 ∧ (∀ x ∈ vD p qs k, mayRo x = true) ∧ wr.ownsRow w.heap.size 35 3 c m (rcs (vD p qs k)) ∧ Below w.heap.size w wr) (fun _ i _ => n - (intOf i).toNat)
  case atStart => exact ⟨0, none, 0, 0, Nat.zero_le _, rfl, Nat.le_refl _, rfl, rfl, (fun x hx => by simp [vD] at hx), HR0.out, Below.refl _ _⟩
  case round =>
    obtain ⟨k, a5, m, cap5, hk, rfl, hmk, hml, rfl, hvm, hrow, hb⟩ := hrel
    by_cases hlt : k < n
    · obtain ⟨x, hx⟩ : ∃ x, qs[k]? = some x := ⟨_, List.getElem?_eq_getElem (by have := HL.out; omega)⟩
      obtain ⟨g, off, rfl, hg, c0, c1, c2⟩ := (HE.out.later hb).cells k x hx
      have hmx := HMAY.out x (List.mem_of_getElem? hx)
      have hmb := mayR_get hmx
      obtain ⟨p1, p2⟩ := mul_rng2 (a := p) hp1 hp2 hmb.2.2.1 hmb.2.2.2.1
      have q1 : -9223372036854775808 ≤ x.2.2 * 100 ∧ x.2.2 * 100 ≤ 9223372036854775807 := by omega
      obtain ⟨q1, q2⟩ := q1
      have HX := hide hx
      have HB := hide hb
      have HML := hide hml
      have HVM := hide hvm
      have HMX := hide hmx
      have HROW := hide hrow
      cases hpk : pickD p x with
      | false =>
        have HV := hide (vD_no hx hpk)
        have hge : x.2.2 * 100 ≥ p * x.2.1 := by unfold pickD at hpk; rw [decide_eq_false_iff_not] at hpk; omega
        obtain ⟨x1, x2, x3⟩ := x
        simp only at *
        clear hx hb hml hvm hmx hmb hrow hpk
        go_wp2
        go_region
        all_goals go_wp2
        all_goals exact ⟨⟨k + 1, a5, m, cap5, by omega, by go_num, by omega, by rw [HV.out]; exact HML.out, rfl, by rw [HV.out]; exact HVM.out, by rw [HV.out]; exact HROW.out, HB.out.drew⟩, by simp [intOf]; omega⟩
      | true =>
        have HV := hide (vD_yes hx hpk)
        have hge : ¬ p * x.2.1 ≤ x.2.2 * 100 := by unfold pickD at hpk; rw [decide_eq_true_eq] at hpk; omega
        have hrng : ∀ x ∈ vD p qs k, I64 x.1 ∧ I64 x.2.1 ∧ I64 x.2.2 := fun x hx => may_rng (hvm x hx)
        have HE5 := hide (er_own35 hrow hml hrng)
        generalize hvd : vD p qs k = V at *
        obtain ⟨x1, x2, x3⟩ := x
        simp only at *
        have hrowD : wr.drew.ownsRow w.heap.size 35 3 (.slice a5 m cap5) m (rcs V) := hrow
        have HSL := hide (fun k2 (h2 : k2 ≤ m) => slice_own hrowD hml hrng k2 h2)
        have HRD := hide hrowD
        have HBD := hide hb.drew
        have HE5D := hide (er_own35 hrowD hml hrng)
        have HED := hide (HE.out.later hb.drew)
        have HR1 : Hid (wr.drew.ownsRow wr.drew.heap.size 35 3 (.slice none 0 0) 0 (rcs (V.take 0))) := World.ownsRow_nil _ _ _ _
        have hdpk : decide (p * x2 ≤ x3 * 100) = false := decide_eq_false hge
        clear hx hb hml hvm hmx hmb hrow hpk hrng hrowD hvd hge
        go_wp2
        go_region
        have hgq : g < wr.drew.heap.size := hg
        generalize wr.drew = wq at *
        go_wp2
        go_loopw [7, 8] (fun c i wr => ∃ (k2 : Nat), k2 ≤ m ∧ i = .int .i64 k2 ∧ (∀ (j : Nat) (y : Ro), j < k2 → V[j]? = some y → lessR y (x1, x2, x3) = true) ∧ wr.ownsRow wq.heap.size 35 3 c k2 (rcs (V.take k2)) ∧ Below wq.heap.size wq wr) (fun _ i _ => m - (intOf i).toNat)
        case atStart => exact ⟨0, Nat.zero_le _, rfl, fun j y h => by omega, HR1.out, Below.refl _ _⟩
        case round =>
          obtain ⟨k2, hk2, rfl, hle, hrow7, hb7⟩ := hrel
          have HLE := hide hle
          have HROW7 := hide hrow7
          have HB7 := hide hb7
          by_cases hlt2 : k2 < m
          · obtain ⟨y, hy⟩ : ∃ y, V[k2]? = some y := ⟨_, List.getElem?_eq_getElem (by have := HML.out; omega)⟩
            obtain ⟨g5, off5, rfl, hg5, f0, f1, f2⟩ := (HE5D.out.later hb7).cells k2 y hy
            have hgl : g < wr.heap.size := Nat.lt_of_lt_of_le hgq hb7.size
            obtain ⟨d0, d1, d2⟩ : wr.cell? ⟨g, off + k * 3, none⟩ = some (.int .i64 x1) ∧ wr.cell? ⟨g, off + k * 3 + 1, none⟩ = some (.int .i64 x2) ∧ wr.cell? ⟨g, off + k * 3 + 2, none⟩ = some (.int .i64 x3) := by
              obtain ⟨g', off', e, _, q0, q1, q2⟩ := (HED.out.later hb7).cells k _ HX.out
              injection e with e
              injection e with e1 e2
              subst e1 e2
              exact ⟨q0, q1, q2⟩
            have X0 : ∀ P : Later wr, P.val.cell? ⟨g, off + k * 3, none⟩ = some (.int .i64 x1) := fun P => (P.below.cell (p := ⟨g, _, none⟩) hgl).trans d0
            have X1 : ∀ P : Later wr, P.val.cell? ⟨g, off + k * 3 + 1, none⟩ = some (.int .i64 x2) := fun P => (P.below.cell (p := ⟨g, _, none⟩) hgl).trans d1
            have X2 : ∀ P : Later wr, P.val.cell? ⟨g, off + k * 3 + 2, none⟩ = some (.int .i64 x3) := fun P => (P.below.cell (p := ⟨g, _, none⟩) hgl).trans d2
            have hmy := HVM.out y (List.mem_of_getElem? hy)
            have hr1 : ∀ P : Later wr, _ := fun P => less_any y (x1, x2, x3) hmy HMX.out P.val
            have HY := hide hy
            obtain ⟨y1, y2, y3⟩ := y
            simp only at *
            have Y0 : ∀ P : Later wr, P.val.cell? ⟨g5, off5 + k2 * 3, none⟩ = some (.int .i64 y1) := fun P => (P.below.cell (p := ⟨g5, _, none⟩) hg5).trans f0
            have Y1 : ∀ P : Later wr, P.val.cell? ⟨g5, off5 + k2 * 3 + 1, none⟩ = some (.int .i64 y2) := fun P => (P.below.cell (p := ⟨g5, _, none⟩) hg5).trans f1
            have Y2 : ∀ P : Later wr, P.val.cell? ⟨g5, off5 + k2 * 3 + 2, none⟩ = some (.int .i64 y3) := fun P => (P.below.cell (p := ⟨g5, _, none⟩) hg5).trans f2
            have hne := later_ne wr
            have hdl : decide ((k2 : Int) < (m : Int)) = true := decide_eq_true (by omega)
            clear hle hrow7 hb7 hy hmy d0 d1 d2 f0 f1 f2
            cases hls : lessR (y1, y2, y3) (x1, x2, x3) with
            | true =>
              rw [hls] at hr1
              have HLS := hide hls
              clear hls
              go_wp2
              refine wp_region_later (by kernel_rfl) (by kernel_rfl) ?_
              (repeat (first | go_big_quiet_skip | (go_big_quiet_want; go_big_quiet_op; go_big_quiet_on)))
              (go_big_quiet_want; go_big_quiet_op; apply Exists.intro; refine ⟨fun p => ?_, ?_⟩; (· exact later_of (hr1 p)); go_big_quiet_on)
              (repeat (first | go_big_quiet_skip | (go_big_quiet_want; go_big_quiet_op; go_big_quiet_on)))
              refine wpQuiet_nil ?_
              rintro _ ⟨P, rfl⟩
              have hrowP := row_later HROW7.out P.below
              have y0 := Y0 P
              have y1' := Y1 P
              have y2' := Y2 P
              have HBP := hide (HB7.out.trans (P.below.mono HB7.out.size))
              have HXT := hide (snoc_take _ _ _ HY.out)
              clear X0 X1 X2 Y0 Y1 Y2 hr1 hne
              generalize P.val = w8 at *
              have hcell8 := cells_three_new w8 (.int .i64 y1) (.int .i64 y2) (.int .i64 y3) 35
              have hbs8 := HBP.out.size
              have hbs9 := Nat.le_trans hbs8 (below_alloc w8 (.cells #[.int .i64 y1, .int .i64 y2, .int .i64 y3] 35)).size
              go_wp2_with (at_builtin; refine wpList_append_own _ rfl _ _ 27 rfl wq.heap.size 35 i0 (.agg #[.int .i64 0, .int .i64 0, .int .i64 0]) 3 24 Try.underlying27 hi hz0 hz1 hz2 rfl (by decide) _ _ _ rfl (hrowP.alloc _) ⟨w8.heap.size, 0, none⟩ 1 1 [.int .i64 y1, .int .i64 y2, .int .i64 y3] rfl rfl hcell8 (by simp [Value.oneCell']) (by simp only [maxLen]; omega) (by omega) hbs9 ?_; intro v9 w9 hown9 hgrow9 _)
              have HB9 := hide ((HBP.out.alloc hbs8 (.cells #[.int .i64 y1, .int .i64 y2, .int .i64 y3] 35)).grown hgrow9 hbs9 (fun i hi => (hrowP.lt i hi).1))
              refine ⟨⟨k2 + 1, by omega, by go_num, fun j z hj hz => ?_, ?_, HB9.out⟩, by simp [intOf]; omega⟩
              · by_cases e : j = k2
                · subst e
                  have := HY.out
                  rw [hz] at this
                  injection this with this
                  rw [this]
                  exact HLS.out
                · exact HLE.out j z (by omega) hz
              · rw [HXT.out, rcs_snoc]; exact hown9
            | false =>
              rw [hls] at hr1
              have HNO : Hid (∀ z, V[k2]? = some z → lessR z (x1, x2, x3) = false) := fun z hz => by
                rw [HY.out] at hz
                injection hz with hz
                rw [← hz]; exact hls
              clear hls
              go_wp2
              refine wp_region_later (by kernel_rfl) (by kernel_rfl) ?_
              (repeat (first | go_big_quiet_skip | (go_big_quiet_want; go_big_quiet_op; go_big_quiet_on)))
              (go_big_quiet_want; go_big_quiet_op; apply Exists.intro; refine ⟨fun p => ?_, ?_⟩; (· exact later_of (hr1 p)); go_big_quiet_on)
              (repeat (first | go_big_quiet_skip | (go_big_quiet_want; go_big_quiet_op; go_big_quiet_on)))
              refine wpQuiet_nil ?_
              rintro _ ⟨P, rfl⟩
              have hrowP := row_later HROW7.out P.below
              have HBP := hide (HB7.out.trans (P.below.mono HB7.out.size))
              clear X0 X1 X2 Y0 Y1 Y2 hr1 hne
              generalize P.val = w8 at *
              obtain ⟨ad0, hslc, hslc2⟩ := HSL.out k2 (by omega)
              obtain ⟨d0, d1, d2⟩ : w8.cell? ⟨g, off + k * 3, none⟩ = some (.int .i64 x1) ∧ w8.cell? ⟨g, off + k * 3 + 1, none⟩ = some (.int .i64 x2) ∧ w8.cell? ⟨g, off + k * 3 + 2, none⟩ = some (.int .i64 x3) := by
                obtain ⟨g', off', e, _, q0, q1, q2⟩ := (HED.out.later HBP.out).cells k _ HX.out
                injection e with e
                injection e with e1 e2
                subst e1 e2
                exact ⟨q0, q1, q2⟩
              have hcellA := cells_three_new w8 (.int .i64 x1) (.int .i64 x2) (.int .i64 x3) 35
              have hbsW := HBP.out.size
              have hbsW2 := Nat.le_trans hbsW (below_alloc w8 (.cells #[.int .i64 x1, .int .i64 x2, .int .i64 x3] 35)).size
              obtain ⟨ad, rfl, hcl5⟩ := hslc2 (by omega)
              have HCL5 := hide hcl5
              have hdl5 : (rcs (V.drop k2)).length = (m - k2) * 3 := by rw [rcs_length, List.length_drop, ← HML.out]
              clear hcl5
              clear hslc2
              go_wp2_with (first
                | (at_builtin; refine wpList_append_own _ rfl _ _ 27 rfl wq.heap.size 35 i0 (.agg #[.int .i64 0, .int .i64 0, .int .i64 0]) 3 24 Try.underlying27 hi hz0 hz1 hz2 rfl (by decide) _ _ _ rfl (hrowP.alloc _) ⟨w8.heap.size, 0, none⟩ 1 1 [.int .i64 x1, .int .i64 x2, .int .i64 x3] rfl rfl hcellA (by simp [Value.oneCell']) (by simp only [maxLen]; omega) (by omega) hbsW2 ?_; intro vA wA hownA hgrowA _; have HBA := hide ((HBP.out.alloc hbsW (.cells #[.int .i64 x1, .int .i64 x2, .int .i64 x3] 35)).grown hgrowA hbsW2 (fun i hi => (hrowP.lt i hi).1)); have hbsA := HBA.out.size; have hnewsA := HCL5.out wA HBA.out)
                | (at_builtin; go_loud (refine wpList_append_own _ rfl _ _ 27 rfl wq.heap.size 35 i0 (.agg #[.int .i64 0, .int .i64 0, .int .i64 0]) 3 24 Try.underlying27 hi hz0 hz1 hz2 rfl (by decide) _ _ _ rfl hownA ad (m - k2) _ (rcs (V.drop k2)) rfl hdl5 hnewsA (rcs_ones _) (by simp only [maxLen]; omega) (by omega) hbsA ?_; intro vB wB hownB hgrowB _)))
              have HBF := hide (HBA.out.grown hgrowB hbsA (fun i hi => (hownA.lt i hi).1))
              have hownF := hownB
              have hins : insD V (x1, x2, x3) = V.take k2 ++ (x1, x2, x3) :: V.drop k2 := takeW (by have := HML.out; omega) HLE.out HNO.out
              obtain ⟨aF, capF, hvF⟩ := row_slice (own_base hownF (Nat.zero_le _))
              have hlenF : m + 1 = (insD V (x1, x2, x3)).length := by rw [insD_len, ← HML.out]
              refine ⟨⟨k + 1, aF, m + 1, capF, by omega, by go_num, by omega, by rw [HV.out]; exact hlenF, ?_, ?_, ?_, HBD.out.trans (HBF.out.mono HBD.out.size)⟩, by simp [intOf]; omega⟩
              · rw [hvF]; congr 1; omega
              · rw [HV.out]
                intro z hz
                rcases insD_mem hz with e | e
                · rw [e]; exact HMX.out
                · exact HVM.out z e
              · rw [HV.out, hins, rcs_append, rcs_cons, ← List.append_assoc]
                rw [show m + 1 = k2 + 1 + (m - k2) by omega]
                exact own_base hownF HBD.out.size
          · obtain rfl : k2 = m := by omega
            have hdl : decide ((k2 : Int) < (k2 : Int)) = false := decide_eq_false (by omega)
            have HNO : Hid (∀ z, V[k2]? = some z → lessR z (x1, x2, x3) = false) := fun z hz => by
              have := (List.getElem?_eq_some_iff.1 hz).1
              have := HML.out
              omega
            have hne := later_ne wr
            clear hle hrow7 hb7
            go_wp2
            refine wp_region_later (by kernel_rfl) (by kernel_rfl) ?_
            (repeat (first | go_big_quiet_skip | (go_big_quiet_want; go_big_quiet_op; go_big_quiet_on)))
            refine wpQuiet_nil ?_
            rintro _ ⟨P, rfl⟩
            have hrowP := row_later HROW7.out P.below
            have HBP := hide (HB7.out.trans (P.below.mono HB7.out.size))
            clear hne
            generalize P.val = w8 at *
            obtain ⟨ad0, hslc, hslc2⟩ := HSL.out k2 (by omega)
            obtain ⟨d0, d1, d2⟩ : w8.cell? ⟨g, off + k * 3, none⟩ = some (.int .i64 x1) ∧ w8.cell? ⟨g, off + k * 3 + 1, none⟩ = some (.int .i64 x2) ∧ w8.cell? ⟨g, off + k * 3 + 2, none⟩ = some (.int .i64 x3) := by
              obtain ⟨g', off', e, _, q0, q1, q2⟩ := (HED.out.later HBP.out).cells k _ HX.out
              injection e with e
              injection e with e1 e2
              subst e1 e2
              exact ⟨q0, q1, q2⟩
            have hcellA := cells_three_new w8 (.int .i64 x1) (.int .i64 x2) (.int .i64 x3) 35
            have hbsW := HBP.out.size
            have hbsW2 := Nat.le_trans hbsW (below_alloc w8 (.cells #[.int .i64 x1, .int .i64 x2, .int .i64 x3] 35)).size
            clear hslc2
            go_wp2_with (first
              | (at_builtin; refine wpList_append_own _ rfl _ _ 27 rfl wq.heap.size 35 i0 (.agg #[.int .i64 0, .int .i64 0, .int .i64 0]) 3 24 Try.underlying27 hi hz0 hz1 hz2 rfl (by decide) _ _ _ rfl (hrowP.alloc _) ⟨w8.heap.size, 0, none⟩ 1 1 [.int .i64 x1, .int .i64 x2, .int .i64 x3] rfl rfl hcellA (by simp [Value.oneCell']) (by simp only [maxLen]; omega) (by omega) hbsW2 ?_; intro vA wA hownA hgrowA _; have HBA := hide ((HBP.out.alloc hbsW (.cells #[.int .i64 x1, .int .i64 x2, .int .i64 x3] 35)).grown hgrowA hbsW2 (fun i hi => (hrowP.lt i hi).1)); have hbsA := HBA.out.size)
              | (at_builtin; go_loud (refine wpList_append_empty27 rfl _ _ rfl _ _ rfl rfl hownA (by omega) ?_)))
            have HBF := HBA
            have hownF := hownA
            have hins : insD V (x1, x2, x3) = V.take k2 ++ (x1, x2, x3) :: V.drop k2 := takeW (by have := HML.out; omega) HLE.out HNO.out
            obtain ⟨aF, capF, hvF⟩ := row_slice (own_base hownF (Nat.zero_le _))
            have hlenF : k2 + 1 = (insD V (x1, x2, x3)).length := by rw [insD_len, ← HML.out]
            refine ⟨⟨k + 1, aF, k2 + 1, capF, by omega, by go_num, by omega, by rw [HV.out]; exact hlenF, ?_, ?_, ?_, HBD.out.trans (HBF.out.mono HBD.out.size)⟩, by simp [intOf]; omega⟩
            · exact hvF
            · rw [HV.out]
              intro z hz
              rcases insD_mem hz with e | e
              · rw [e]; exact HMX.out
              · exact HVM.out z e
            · rw [HV.out, hins, rcs_append, rcs_cons, ← List.append_assoc]
              rw [List.drop_eq_nil_of_le (by have := HML.out; omega), rcs_nil, List.append_nil, show k2 + 1 = k2 + 1 by omega]
              exact own_base hownF HBD.out.size
    · obtain rfl : k = n := by omega
      have HDV : Hid (vD p qs k = docV p qs) := by
        show _ = _
        unfold vD docV
        rw [List.take_of_length_le (by have := HL.out; omega)]
      rw [HDV.out] at hml hvm hrow
      generalize hVV : docV p qs = V at *
      have HVV := hide hVV
      clear hVV
      have HEV := hide (er_own35 hrow hml (fun x hx => may_rng (hvm x hx)))
      have HML := hide hml
      have HB := hide hb
      have HS0 : Hid (wr.ownsRow wr.heap.size 3 1 (.slice none 0 0) 0 (isV ((V.take 0).map (·.1)))) := World.ownsRow_nil _ _ _ _
      clear hml hvm hrow hb
      obtain ⟨wq, hwq⟩ : ∃ wq, wq = wr := ⟨_, rfl⟩
      subst hwq
      go_wp2
      go_loopw [9, 10] (fun c i wr => ∃ (k2 : Nat), k2 ≤ m ∧ i = .int .i64 k2 ∧ wr.ownsRow wq.heap.size 3 1 c k2 (isV ((V.take k2).map (·.1))) ∧ Below wq.heap.size wq wr) (fun _ i _ => m - (intOf i).toNat)
      case atStart => exact ⟨0, Nat.zero_le _, rfl, HS0.out, Below.refl _ _⟩
      case round =>
        obtain ⟨k2, hk2, rfl, hrow9, hb9⟩ := hrel
        by_cases hlt2 : k2 < m
        · obtain ⟨y, hy⟩ : ∃ y, V[k2]? = some y := ⟨_, List.getElem?_eq_getElem (by have := HML.out; omega)⟩
          obtain ⟨g5, off5, rfl, hg5, f0, f1, f2⟩ := (HEV.out.later hb9).cells k2 y hy
          have HXT := hide (snoc_take _ _ _ hy)
          have HB9 := hide hb9
          obtain ⟨y1, y2, y3⟩ := y
          simp only at *
          have hcell9 := cell_one_new wr (.int .i64 y1) 3
          have hbs9 := HB9.out.size
          have hbs10 := Nat.le_trans hbs9 (below_alloc wr (.cells #[.int .i64 y1] 3)).size
          clear hy hb9
          go_wp2_with (at_builtin; refine wpList_append_own _ rfl _ _ 54 rfl wq.heap.size 3 j0 (.int .i64 0) 1 8 Try.underlying54 hj hy0 hy1 hy2 rfl (by decide) _ _ _ rfl (hrow9.alloc _) ⟨wr.heap.size, 0, none⟩ 1 1 [.int .i64 y1] rfl rfl hcell9 (by simp [Value.oneCell']) (by simp only [maxLen]; omega) (by omega) hbs10 ?_; intro v9 w9 hown9 hgrow9 _)
          have HB10 := hide ((HB9.out.alloc hbs9 (.cells #[.int .i64 y1] 3)).grown hgrow9 hbs10 (fun i hi => (hrow9.lt i hi).1))
          refine ⟨⟨k2 + 1, by omega, by go_num, ?_, HB10.out⟩, by simp [intOf]; omega⟩
          rw [HXT.out, List.map_append, isV, List.map_append]
          exact hown9
        · obtain rfl : k2 = m := by omega
          have htk : V.take k2 = V := List.take_of_length_le (by have := HML.out; omega)
          rw [htk] at hrow9
          have HROW9 := hide hrow9
          have HB9 := hide hb9
          clear hrow9 hb9 htk
          go_wp2
          go_ret
          refine ⟨HB.out.trans (HB9.out.mono HB.out.size), _, rfl, ?_⟩
          rw [HVV.out, ← HML.out]
          exact own_base HROW9.out HB.out.size
end Li
end Go.Proofs.Ytgdfmoehbgmfkaa
