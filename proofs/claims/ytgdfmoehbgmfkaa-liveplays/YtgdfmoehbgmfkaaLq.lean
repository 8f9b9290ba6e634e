/- Rows of the document's answer with one more, in order. -/
import Derived.Test.YtgdfmoehbgmfkaaLp
namespace Go.Proofs.Ytgdfmoehbgmfkaa
open Go.RowKit
namespace Li
open Wi
theorem er_cells {w : World} {g off n : Nat} {xs : List Ro} (h : Er w (some ⟨g, off, none⟩) n xs) (k : Nat) : ∀ (j : Nat) (u : Value), (rcs (xs.drop k))[j]? = some u → w.cell? ((⟨g, off + k * 3, none⟩ : Addr).add j) = some u := by
  intro j u hu
  have hj := (List.getElem?_eq_some_iff.1 hu).1
  rw [rcs_length, List.length_drop] at hj
  have hi : k + j / 3 < xs.length := by omega
  have hx : xs[k + j / 3]? = some xs[k + j / 3] := List.getElem?_eq_getElem hi
  obtain ⟨g', off', e, _, c0, c1, c2⟩ := h.cells _ _ hx
  injection e with e
  injection e with e1 e2
  subst e1 e2
  have hl : j / 3 < (xs.drop k).length := by rw [List.length_drop]; omega
  rw [rcs_get (xs.drop k) j (by rw [List.length_drop]; omega), getElem!_pos (xs.drop k) (j / 3) hl, List.getElem_drop] at hu
  have hm : j % 3 = 0 ∨ j % 3 = 1 ∨ j % 3 = 2 := by omega
  rw [Addr.add_lit]
  rcases hm with hm | hm | hm
  · rw [hm] at hu
    injection hu with hu
    rw [show off + k * 3 + j = off + (k + j / 3) * 3 by omega, ← hu]
    exact c0
  · rw [hm] at hu
    injection hu with hu
    rw [show off + k * 3 + j = off + (k + j / 3) * 3 + 1 by omega, ← hu]
    exact c1
  · rw [hm] at hu
    injection hu with hu
    rw [show off + k * 3 + j = off + (k + j / 3) * 3 + 2 by omega, ← hu]
    exact c2
theorem er_cells0 (w : World) (g : Nat) {p k : Nat} {ys : List Value} (h : ys.length = (k - k) * 3) : ∀ (j : Nat) (u : Value), ys[j]? = some u → w.cell? ((⟨g, p, none⟩ : Addr).add j) = some u := by
  intro j u hu
  have := (List.getElem?_eq_some_iff.1 hu).1
  omega
theorem rcs_ones (xs : List Ro) : ∀ u ∈ rcs xs, u.oneCell' = true := by
  intro u hu
  obtain ⟨x, _, hx⟩ := List.mem_flatMap.1 hu
  simp only [rc, List.mem_cons, List.not_mem_nil, or_false] at hx
  rcases hx with rfl | rfl | rfl <;> rfl
set_option maxHeartbeats 8000000 in
set_option maxRecDepth 100000 in
/-- Rows with one more, in order. -/
theorem with_any {w : World} {n0 : Nat} {a : Option Addr} {n cap : Nat} {xs : List Ro} (r1 r2 r3 : Int) (hO : w.ownsRow n0 35 3 (.slice a n cap) n (rcs xs)) (hL : n = xs.length) (hr : ∀ x ∈ xs, I64 x.1 ∧ I64 x.2.1 ∧ I64 x.2.2) (hn : n ≤ 1000000) :
    Calls Try.prog 43 #[.slice a n cap, .agg #[.int .i64 r1, .int .i64 r2, .int .i64 r3]] w fun e w' => Below w.heap.size w w' ∧ ∃ v, e = .returned v ∧ w'.ownsRow w.heap.size 35 3 v (n + 1) (rcs (insR xs (r1, r2, r3))) := by
  have hb1 := below_alloc w (.cells #[.int .i64 r1, .int .i64 r2, .int .i64 r3] 35)
  have hblk := heap_alloc_new w (.cells #[.int .i64 r1, .int .i64 r2, .int .i64 r3] 35)
  have hsz := World.size_alloc w (.cells #[.int .i64 r1, .int .i64 r2, .int .i64 r3] 35)
  obtain ⟨w1, hw1⟩ : ∃ w1, w1 = w.alloc (.cells #[.int .i64 r1, .int .i64 r2, .int .i64 r3] 35) := ⟨_, rfl⟩
  rw [← hw1] at hb1 hblk hsz
  have HE := hide ((er_own35 hO hL hr).later hb1)
  have hcase : (a = none ∧ n = 0 ∧ cap = 0) ∨ (∃ g, a = some ⟨g, 0, none⟩ ∧ n ≤ cap) := by
    rcases hO.2 with ⟨h1, h2⟩ | ⟨g, cap', cur, hv, hb, hgg, h3, rest⟩
    · injection h1 with e1 e2 e3; exact .inl ⟨e1, h2, e3⟩
    · injection hv with e1 e2 e3; exact .inr ⟨g, e1, by omega⟩
  have HCASE := hide hcase
  have HL := hide hL
  have HSZ := hide hsz
  have HB1 := hide hb1
  have HBLK : Hid (∀ w', Below w1.heap.size w1 w' → w'.cell? ⟨w.heap.size, 0, none⟩ = some (.int .i64 r1) ∧ w'.cell? ⟨w.heap.size, 1, none⟩ = some (.int .i64 r2) ∧ w'.cell? ⟨w.heap.size, 2, none⟩ = some (.int .i64 r3)) := fun w' h => by
    have h2 := (h.block w.heap.size (by omega)).trans hblk
    refine ⟨?_, ?_, ?_⟩ <;> (rw [cell_of_row _ _ _ _ _ _ h2]; rfl)
  obtain ⟨i0, hi, hz0, hz1, hz2⟩ := info_parts info35
  have HR0 : Hid (w1.ownsRow w1.heap.size 35 3 (.slice none 0 0) 0 (rcs (xs.take 0))) := World.ownsRow_nil _ _ _ _
  have hcap : n ≤ cap := by rcases hcase with ⟨_, h1, h2⟩ | ⟨_, _, h⟩ <;> omega
  clear hO hL hr hsz hb1 hcase hblk
  go_enter Try.func43, Try.ntmps43
  go_wp2
  rw [← hw1]
  clear hw1
  go_loopw [5, 6] (fun c i wr => ∃ k : Nat, k ≤ n ∧ i = .int .i64 k ∧ (∀ (j : Nat) (x : Ro), j < k → xs[j]? = some x → x.1 < r1) ∧ wr.ownsRow w1.heap.size 35 3 c k (rcs (xs.take k)) ∧ Below w1.heap.size w1 wr) (fun _ i _ => n - (intOf i).toNat)
  case atStart => exact ⟨0, Nat.zero_le _, rfl, fun j o h => by omega, HR0.out, Below.refl _ _⟩
  case round =>
    obtain ⟨k, hk, rfl, hall, hrow, hb⟩ := hrel
    obtain ⟨b0, b1, b2⟩ := HBLK.out _ hb
    by_cases hlt : k < n
    · obtain ⟨x, hx⟩ : ∃ x, xs[k]? = some x := ⟨_, List.getElem?_eq_getElem (by have := HL.out; omega)⟩
      obtain ⟨g, off, rfl, hg, c0, c1, c2⟩ := (HE.out.later hb).cells k x hx
      obtain ⟨x1, x2, x3⟩ := x
      simp only at *
      have HX := hide hx
      have HA := hide hall
      have HB := hide hb
      have HXT := hide (snoc_take _ _ _ hx)
      have hlx : (k : Int) < (n : Int) := by omega
      have hdl : decide ((k : Int) < (n : Int)) = true := decide_eq_true hlx
      clear hx hall
      by_cases hq : x1 < r1
      · have hd : decide (x1 < r1) = true := decide_eq_true hq
        have hcell := cells_three_new wr.drew (.int .i64 x1) (.int .i64 x2) (.int .i64 x3) 35
        have hbs := HB.out.size
        have hrowD : wr.drew.ownsRow w1.heap.size 35 3 u5 k (rcs (xs.take k)) := hrow
        have hbs2 := Nat.le_trans hbs (below_alloc wr.drew (.cells #[.int .i64 x1, .int .i64 x2, .int .i64 x3] 35)).size
        rw [World.size_drew] at hcell
        go_wp2
        go_region
        go_wp2_with (at_builtin; refine wpList_append_own _ rfl _ _ 27 rfl w1.heap.size 35 i0 (.agg #[.int .i64 0, .int .i64 0, .int .i64 0]) 3 24 Try.underlying27 hi hz0 hz1 hz2 rfl (by decide) _ _ _ rfl (hrowD.alloc _) ⟨wr.heap.size, 0, none⟩ 1 1 _ rfl rfl hcell (by simp [Value.oneCell']) (by simp only [maxLen]; omega) (by omega) hbs2 ?_; intro v' w4 hown' hgrow _)
        have HB4 := hide (((HB.out.drew).alloc hbs (.cells #[.int .i64 x1, .int .i64 x2, .int .i64 x3] 35)).grown hgrow hbs2 (fun i hi => (hrow.lt i hi).1))
        exact ⟨⟨k + 1, by omega, by go_num, fun j y hj hy => by
          by_cases e : j = k
          · subst e
            have := HX.out
            rw [hy] at this
            injection this with this
            rw [this]
            exact hq
          · exact HA.out j y (by omega) hy, by rw [HXT.out, rcs_snoc]; exact hown', HB4.out⟩, by simp [intOf]; omega⟩
      · have hd : decide (x1 < r1) = false := decide_eq_false hq
        have HI : Hid (insR xs (r1, r2, r3) = xs.take k ++ (r1, r2, r3) :: xs.drop k) := ins_at (by have := HL.out; omega) HA.out (fun y hy => by rw [HX.out] at hy; cases hy; exact hq)
        have hcap' : (n : Int) ≤ (cap : Int) := by omega
        have hk' : (k : Int) ≤ (n : Int) := by omega
        have hdl2 : (rcs (xs.drop k)).length = (n - k) * 3 := by rw [rcs_length, List.length_drop, ← HL.out]
        clear hb
        have hrowD : wr.drew.ownsRow w1.heap.size 35 3 u5 k (rcs (xs.take k)) := hrow
        have hbs := HB.out.size
        have hbs2 := Nat.le_trans hbs (below_alloc wr.drew (.cells #[.int .i64 r1, .int .i64 r2, .int .i64 r3] 35)).size
        have hcell := cells_three_new wr.drew (.int .i64 r1) (.int .i64 r2) (.int .i64 r3) 35
        rw [World.size_drew] at hcell
        go_wp2
        go_region
        go_wp2_with (first
          | (at_builtin; refine wpList_append_own _ rfl _ _ 27 rfl w1.heap.size 35 i0 (.agg #[.int .i64 0, .int .i64 0, .int .i64 0]) 3 24 Try.underlying27 hi hz0 hz1 hz2 rfl (by decide) _ _ _ rfl (hrowD.alloc _) ⟨wr.heap.size, 0, none⟩ 1 1 [.int .i64 r1, .int .i64 r2, .int .i64 r3] rfl rfl hcell (by simp [Value.oneCell']) (by simp only [maxLen]; omega) (by omega) hbs2 ?_; intro v4 w4 hown4 hgrow4 _; have HB4 := hide (((HB.out.drew).alloc hbs (.cells #[.int .i64 r1, .int .i64 r2, .int .i64 r3] 35)).grown hgrow4 hbs2 (fun i hi => (hrow.lt i hi).1)); have hnews := er_cells (HE.out.later HB4.out) k; have hbs5 := HB4.out.size)
          | (at_builtin; refine wpList_append_own _ rfl _ _ 27 rfl w1.heap.size 35 i0 (.agg #[.int .i64 0, .int .i64 0, .int .i64 0]) 3 24 Try.underlying27 hi hz0 hz1 hz2 rfl (by decide) _ _ _ rfl hown4 _ _ _ (rcs (xs.drop k)) rfl hdl2 hnews (rcs_ones _) (by simp only [maxLen]; omega) (by omega) hbs5 ?_; intro v6 w6 hown6 hgrow6 _))
        have HB6 := hide (HB4.out.grown hgrow6 hbs5 (fun i hi => (hown4.lt i hi).1))
        go_ret
        refine ⟨HB1.out.trans (HB6.out.mono HB1.out.size), _, rfl, ?_⟩
        rw [HI.out, rcs_append, rcs_cons, ← List.append_assoc, show n + 1 = k + 1 + (n - k) by omega]
        exact own_base hown6 HB1.out.size
    · obtain rfl : k = n := by omega
      have HA := hide hall
      have HB := hide hb
      have hlx : ¬ (k : Int) < (k : Int) := by omega
      have hdl : decide ((k : Int) < (k : Int)) = false := decide_eq_false hlx
      have HI : Hid (insR xs (r1, r2, r3) = xs.take k ++ (r1, r2, r3) :: xs.drop k) := ins_at (by have := HL.out; omega) HA.out (fun y hy => by have := (List.getElem?_eq_some_iff.1 hy).1; have := HL.out; omega)
      clear hall hb
      rcases HCASE.out with ⟨rfl, h0, rfl⟩ | ⟨g, rfl, _⟩
      · subst h0
        have hrowD : wr.drew.ownsRow w1.heap.size 35 3 u5 0 (rcs (xs.take 0)) := hrow
        have hbs := HB.out.size
        have hbs2 := Nat.le_trans hbs (below_alloc wr.drew (.cells #[.int .i64 r1, .int .i64 r2, .int .i64 r3] 35)).size
        have hcell := cells_three_new wr.drew (.int .i64 r1) (.int .i64 r2) (.int .i64 r3) 35
        rw [World.size_drew] at hcell
        go_wp2
        go_region
        go_wp2_with (first
          | (at_builtin; refine wpList_append_own _ rfl _ _ 27 rfl w1.heap.size 35 i0 (.agg #[.int .i64 0, .int .i64 0, .int .i64 0]) 3 24 Try.underlying27 hi hz0 hz1 hz2 rfl (by decide) _ _ _ rfl (hrowD.alloc _) ⟨wr.heap.size, 0, none⟩ 1 1 [.int .i64 r1, .int .i64 r2, .int .i64 r3] rfl rfl hcell (by simp [Value.oneCell']) (by simp only [maxLen]; omega) (by omega) hbs2 ?_; intro v4 w4 hown4 hgrow4 _; have HB4 := hide (((HB.out.drew).alloc hbs (.cells #[.int .i64 r1, .int .i64 r2, .int .i64 r3] 35)).grown hgrow4 hbs2 (fun i hi => (hrow.lt i hi).1)))
          | (at_builtin; refine wpList_append_empty27 rfl _ _ rfl _ _ rfl rfl hown4 (by omega) ?_))
        go_ret
        refine ⟨HB1.out.trans (HB4.out.mono HB1.out.size), _, rfl, ?_⟩
        rw [HI.out, rcs_append, rcs_cons, List.drop_eq_nil_of_le (by have := HL.out; omega), rcs_nil, List.append_nil]
        exact own_base hown4 HB1.out.size
      · have hcap' : (k : Int) ≤ (cap : Int) := by omega
        have hdl2 : (rcs (xs.drop k)).length = (k - k) * 3 := by rw [rcs_length, List.length_drop, ← HL.out]
        have hrowD : wr.drew.ownsRow w1.heap.size 35 3 u5 k (rcs (xs.take k)) := hrow
        have hbs := HB.out.size
        have hbs2 := Nat.le_trans hbs (below_alloc wr.drew (.cells #[.int .i64 r1, .int .i64 r2, .int .i64 r3] 35)).size
        have hcell := cells_three_new wr.drew (.int .i64 r1) (.int .i64 r2) (.int .i64 r3) 35
        rw [World.size_drew] at hcell
        go_wp2
        go_region
        go_wp2_with (first
          | (at_builtin; refine wpList_append_own _ rfl _ _ 27 rfl w1.heap.size 35 i0 (.agg #[.int .i64 0, .int .i64 0, .int .i64 0]) 3 24 Try.underlying27 hi hz0 hz1 hz2 rfl (by decide) _ _ _ rfl (hrowD.alloc _) ⟨wr.heap.size, 0, none⟩ 1 1 [.int .i64 r1, .int .i64 r2, .int .i64 r3] rfl rfl hcell (by simp [Value.oneCell']) (by simp only [maxLen]; omega) (by omega) hbs2 ?_; intro v4 w4 hown4 hgrow4 _; have HB4 := hide (((HB.out.drew).alloc hbs (.cells #[.int .i64 r1, .int .i64 r2, .int .i64 r3] 35)).grown hgrow4 hbs2 (fun i hi => (hrow.lt i hi).1)))
          | (at_builtin; refine wpList_append_empty27 rfl _ _ rfl _ _ rfl rfl hown4 (by omega) ?_))
        all_goals go_ret
        all_goals refine ⟨HB1.out.trans (HB4.out.mono HB1.out.size), _, rfl, ?_⟩
        all_goals rw [HI.out, rcs_append, rcs_cons, List.drop_eq_nil_of_le (by have := HL.out; omega), rcs_nil, List.append_nil]
        all_goals exact own_base hown4 HB1.out.size
end Li
end Go.Proofs.Ytgdfmoehbgmfkaa
