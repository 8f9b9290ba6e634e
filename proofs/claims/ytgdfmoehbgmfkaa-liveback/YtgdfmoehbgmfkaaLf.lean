/- Victims of a table, by whichever contract of the stable sort is at hand. -/
import Derived.Test.YtgdfmoehbgmfkaaLe
import Derived.Laws.AppendOwn
namespace Go.Proofs.Ytgdfmoehbgmfkaa
open Go.RowKit
namespace Li
open Wi
open Go.Sort (flatK get_flatK size_flatK grow grow_grow alloc_eq_grow putRowK putRow putCells mapBlock onCells HoldsK SWO PermIn SortedIn heap_grow_old)
def pick (q : Int) (r : Ro) : Bool := decide (r.2.2 * 100 < q * r.2.1)
theorem may_rng {x : Ro} (h : mayRo x = true) : I64 x.1 ∧ I64 x.2.1 ∧ I64 x.2.2 := by
  have := mayR_get h
  refine ⟨⟨?_, ?_⟩, ⟨?_, ?_⟩, ⟨?_, ?_⟩⟩ <;> omega
theorem filter_take_yes {α : Type} {f : α → Bool} {l : List α} {k : Nat} {x : α} (h : l[k]? = some x) (hf : f x = true) : (l.take (k + 1)).filter f = (l.take k).filter f ++ [x] := by
  rw [snoc_take _ _ _ h, List.filter_append]; simp [hf]
theorem filter_take_no {α : Type} {f : α → Bool} {l : List α} {k : Nat} {x : α} (h : l[k]? = some x) (hf : f x = false) : (l.take (k + 1)).filter f = (l.take k).filter f := by
  rw [snoc_take _ _ _ h, List.filter_append]; simp [hf]
theorem lift_list : ∀ (l : List Ro), (∀ x ∈ l, vicR x = true) → ∃ d : List Vr, d.map (fun x => x.1) = l
  | [], _ => ⟨[], rfl⟩
  | x :: l, h => by
    obtain ⟨d, hd⟩ := lift_list l (fun y hy => h y (by simp [hy]))
    exact ⟨⟨x, h x (by simp)⟩ :: d, by simp [hd]⟩
theorem pick_vic {q : Int} (_h0 : 0 ≤ q) {x : Ro} (hm : mayRo x = true) (hp : pick q x = true) : vicR x = true := by
  unfold vicR
  rw [hm, Bool.true_and, decide_eq_true_eq]
  have := mayR_get hm
  unfold pick at hp
  rw [decide_eq_true_eq] at hp
  rcases Int.lt_trichotomy 0 x.2.1 with h | h | h
  · exact h
  · rw [← h] at hp; simp at hp; omega
  · omega
theorem info3' : (Try.prog.info? 3).map (fun i => (i.zero, i.size, i.bytes)) = some (some (.int .i64 0), 1, 8) := by kernel_rfl
theorem mul_small {a b : Int} (h0 : 0 ≤ a) (h1 : a ≤ 101) (h2 : 0 ≤ b) (h3 : b ≤ 65536) : 0 ≤ a * b ∧ a * b ≤ 6619136 := by
  refine ⟨Int.mul_nonneg h0 h2, ?_⟩
  have h4 := Int.mul_le_mul_of_nonneg_right h1 h2
  omega
theorem row_cellsE {w : World} {B : Nat} {a b c : Int} (h : w.heap[B]? = some (.cells #[.int .i64 a, .int .i64 b, .int .i64 c] 58 (0, 0))) : w.cell? ⟨B, 0, none⟩ = some (.int .i64 a) ∧ w.cell? ⟨B, 1, none⟩ = some (.int .i64 b) ∧ w.cell? ⟨B, 2, none⟩ = some (.int .i64 c) := row_cells h
/-- What the sort must do. -/
def SortsV (n : Nat) (srt : Array Vr → Array Vr) : Prop := ∀ (w : World) (g cap : Nat) (d : Array Vr), HoldsK vrc 3 w g 0 d → g < w.heap.size → d.size = n →
  Calls Try.prog 46 #[.slice (some ⟨g, 0, none⟩) d.size cap, .func (.func 47) #[] #[]] w fun e w' => e = .returned (.tuple #[]) ∧ ∃ m os, w' = sortWorldK vrc 3 w g 0 m (srt d) os
set_option maxHeartbeats 2000000 in
theorem sort_none (w : World) : Calls Try.prog 46 #[.slice none 0 0, .func (.func 47) #[] #[]] w fun e w' => e = .returned (.tuple #[]) ∧ w' = w := by
  have hcon := fun w => AnyF.insertionSortCmpFunc_none (P := Try.prog) (ρ := Try.sortSp_ren) { Try.sortSp with } none 0 (.func (.func 47) #[] #[]) w
  change ∀ w, Calls Try.prog 69 _ _ _ at hcon
  have h60 : ∀ w, Calls Try.prog 60 #[.slice none 0 0, .int .i64 0, .func (.func 47) #[] #[]] w fun e w' => e = .returned (.tuple #[]) ∧ w' = w := fun w => by
    go_enter Try.func60, Try.ntmps60
    go_wp2
    refine wp_loop_rounds 1 ?_
    rw [rounds_succ]
    go_wp2_with (go_at_call 69; refine (hcon _).mono ?_; rintro e w' ⟨rfl, rfl⟩)
    refine wp_loop_rounds 1 ?_
    rw [rounds_succ]
    go_wp2
    go_end0
    exact ⟨rfl, rfl⟩
  go_enter Try.func46, Try.ntmps46
  go_wp2_with (go_at_call 60; refine (h60 _).mono ?_; rintro e w' ⟨rfl, rfl⟩)
  go_end0
  exact ⟨rfl, rfl⟩
theorem sort_row {w : World} {n0 : Nat} {v : Value} {C : List Ro} {dl : List Vr} {srt : Array Vr → Array Vr} (hrow : w.ownsRow n0 58 3 v C.length (rcs C)) (hdl : dl.map (fun x => x.1) = C) (hsz : ∀ d, (srt d).size = d.size) (hsort : SortsV C.length srt) :
    Calls Try.prog 46 #[v, .func (.func 47) #[] #[]] w fun e w' => e = .returned (.tuple #[]) ∧ w'.ownsRow n0 58 3 v C.length (rcs ((srt dl.toArray).toList.map (fun x => x.1))) ∧ w.grownBy w' v.ownBlock := by
  have hdn : dl.length = C.length := by rw [← hdl, List.length_map]
  rcases id hrow with ⟨hx, ⟨hv, hn⟩ | ⟨g, cap, cur, hv, hbg, hg, hnc, hcm, hcs, htake⟩⟩
  · have hC : C = [] := List.eq_nil_of_length_eq_zero hn
    subst hC
    have hd : dl = [] := List.eq_nil_of_length_eq_zero hdn
    subst hd
    have hs : srt #[] = #[] := Array.eq_empty_of_size_eq_zero (hsz #[])
    rw [hv, hs]
    refine (sort_none w).mono fun e w' ⟨he, hw⟩ => ⟨he, ?_, ?_⟩
    · rw [hw]; exact World.ownsRow_nil _ _ _ _
    · rw [hw]; exact ⟨rfl, rfl, rfl, Nat.le_refl _, fun _ _ _ => rfl⟩
  · subst hv
    have hH : HoldsK vrc 3 w g 0 dl.toArray := by
      refine holds_rows (α := Vr) (fun x => x.1) (d := dl.toArray) (n := C.length) (cap := cap) (n0 := n0) ?_ (by simp [hdn])
      rw [List.toList_toArray, hdl]
      exact hrow
    have hcon := hsort w g cap dl.toArray hH (lt_of_block hg) (by simp [hdn])
    rw [List.size_toArray, hdn] at hcon
    refine hcon.mono fun e w' ⟨he, m, os, hw⟩ => ?_
    obtain ⟨o1, o2⟩ := own_sorted (α := Vr) (fun x => x.1) (w := w) (m := m) (os := os) (d := dl.toArray) (d' := srt dl.toArray) hbg hg (hsz _) (by simpa [hdn] using hnc) hcm hcs
    rw [List.size_toArray, hdn] at o1
    rw [hw]
    exact ⟨he, o1, o2⟩
set_option maxHeartbeats 8000000 in
set_option maxRecDepth 100000 in
theorem victims_by {w : World} {tb mb : Nat} {rs : Rows} (p : Int) (q : Int) (hq : q = max 0 (min p 101)) (hT : Tab w tb mb rs) (hmay : ∀ x ∈ rs, mayRo x = true) (hlen : rs.length ≤ 1000000) (srt : Array Vr → Array Vr) (hsz : ∀ d, (srt d).size = d.size) (hsort : SortsV (rs.filter (pick q)).length srt) :
    Calls Try.prog 23 #[.pointer (some ⟨tb, 0, none⟩), .int .i64 p] w fun e w' => ∃ v d, e = .returned v ∧ d.toList.map (fun x => x.1) = rs.filter (pick q) ∧ w'.ownsRow w.heap.size 3 1 v (rs.filter (pick q)).length ((srt d).toList.map fun x => .int .i64 x.1.1) ∧ Below w.heap.size w w' := by
  have hmin : ∀ w, (Builtin.min_ #[3, 3] 3 #[.int .i64 p, .int .i64 101]).run Try.prog w = .ok (.int .i64 (min p 101)) w := fun w => by
    show Result.ok (Value.int .i64 (if (101 : Int) < p then 101 else p)) w = _
    rw [show (if (101 : Int) < p then 101 else p) = min p 101 by split <;> omega]
  have hmax : ∀ w, (Builtin.max_ #[3, 3] 3 #[.int .i64 0, .int .i64 (min p 101)]).run Try.prog w = .ok (.int .i64 q) w := fun w => by
    show Result.ok (Value.int .i64 (if (0 : Int) < min p 101 then min p 101 else 0)) w = _
    rw [hq, show (if (0 : Int) < min p 101 then min p 101 else 0) = max 0 (min p 101) by split <;> omega]
  have hr := rows_any hT.at hlen
  have q0 : 0 ≤ q := by omega
  have q1 : q ≤ 101 := by omega
  have HMAY := hide hmay
  clear hq hT hmay
  go_enter Try.func23, Try.ntmps23
  go_wp2_with (go_at_call 17; refine hr.mono ?_; rintro e w1 ⟨v, rfl, hrow, hb1⟩; obtain ⟨a, cap, rfl⟩ := row_slice (own_base hrow (Nat.zero_le _)); have HROW := hide hrow; have HB1 := hide hb1; clear hr hrow hb1)
  have HE := hide (er_own HROW.out rfl (fun x hx => may_rng (HMAY.out x hx)))
  obtain ⟨i0, hi, hz0, hz1, hz2⟩ := info_parts Try.info58
  have HR0 : Hid (w1.ownsRow w1.heap.size 58 3 (.slice none 0 0) ((rs.take 0).filter (pick q)).length (rcs ((rs.take 0).filter (pick q)))) := World.ownsRow_nil _ _ _ _
  obtain ⟨n, hn⟩ : ∃ n, n = rs.length := ⟨_, rfl⟩
  rw [← hn]
  have HN := hide hn
  have hn1 : n ≤ 1000000 := by omega
  clear hn hlen hmin hmax
  go_loopw [5, 17] (fun c i wr => ∃ k : Nat, k ≤ n ∧ i = .int .i64 k ∧ wr.ownsRow w1.heap.size 58 3 c ((rs.take k).filter (pick q)).length (rcs ((rs.take k).filter (pick q))) ∧ Below w1.heap.size w1 wr) (fun _ i _ => n - (intOf i).toNat)
  case atStart => exact ⟨0, Nat.zero_le _, rfl, HR0.out, Below.refl _ _⟩
  case round =>
    obtain ⟨k, hk, rfl, hrow, hb⟩ := hrel
    by_cases hlt : k < n
    · obtain ⟨x, hx⟩ : ∃ x, rs[k]? = some x := ⟨_, List.getElem?_eq_getElem (by have := HN.out; omega)⟩
      have hm := mayR_get (HMAY.out x (List.mem_of_getElem? hx))
      obtain ⟨g, off, rfl, hg, c0, c1, c2⟩ := (HE.out.later hb).cells k x hx
      have HX := hide hx
      obtain ⟨x1, x2, x3⟩ := x
      simp only at *
      obtain ⟨ha, hb2, hc2, hd2, he2, hf2⟩ := hm
      have hmul := mul_small q0 q1 hc2 hd2
      have hw1 : IntKind.i64.wrap (x3 * 100) = x3 * 100 := by rw [IntKind.wrap_i64]; omega
      have hw2 : IntKind.i64.wrap (q * x2) = q * x2 := by rw [IntKind.wrap_i64]; omega
      have HROWK := hide hrow
      have HB := hide hb
      have HNEW := hide (hb.alloc hb.size (.cells #[.int .i64 x1, .int .i64 x2, .int .i64 x3] 58))
      have HRN := hide (hrow.alloc (.cells #[.int .i64 x1, .int .i64 x2, .int .i64 x3] 58))
      have hkl : ((rs.take k).filter (pick q)).length ≤ k := Nat.le_trans (List.length_filter_le _ _) (by rw [List.length_take]; omega)
      clear hx hb hrow
      by_cases hp : x3 * 100 < q * x2
      · have hp1 : decide (x3 * 100 < q * x2) = true := decide_eq_true hp
        have HP : Hid (pick q (x1, x2, x3) = true) := hp1
        have hrow2 := HRN.out
        have hbs := HNEW.out.size
        have hbs2 := Nat.le_trans hbs (below_alloc (wr.alloc (.cells #[.int .i64 x1, .int .i64 x2, .int .i64 x3] 58)) (.cells #[.int .i64 x1, .int .i64 x2, .int .i64 x3] 58)).size
        have hcell := cells_three_new (wr.alloc (.cells #[.int .i64 x1, .int .i64 x2, .int .i64 x3] 58)) (.int .i64 x1) (.int .i64 x2) (.int .i64 x3) 58
        rw [World.size_alloc] at hcell
        have hfy := filter_take_yes HX.out HP.out
        generalize hC : ((rs.take k).filter (pick q)) = C at *
        have HFY := hide hfy
        clear hfy hC
        go_wp2_with (at_builtin; refine wpList_append_own _ rfl _ _ 30 rfl w1.heap.size 58 i0 (.agg #[.int .i64 0, .int .i64 0, .int .i64 0]) 3 24 Try.underlying30 hi hz0 hz1 hz2 rfl (by decide) _ _ _ rfl (hrow2.alloc _) ⟨wr.heap.size + 1, 0, none⟩ 1 1 [.int .i64 x1, .int .i64 x2, .int .i64 x3] rfl rfl hcell (by simp [Value.oneCell']) (by simp only [maxLen]; omega) (by omega) hbs2 ?_; intro v' w2 hown' hgrow _)
        have HB3 := hide ((HNEW.out.alloc hbs (.cells #[.int .i64 x1, .int .i64 x2, .int .i64 x3] 58)).grown hgrow hbs2 (fun i hi => (hrow2.lt i hi).1))
        refine ⟨⟨k + 1, by omega, by go_num, ?_, HB3.out⟩, by simp [intOf]; omega⟩
        rw [HFY.out]
        have hl : (C ++ [(x1, x2, x3)]).length = C.length + 1 := by simp
        rw [hl, rcs_append]
        exact hown'
      · have hp1 : decide (x3 * 100 < q * x2) = false := decide_eq_false hp
        have HP : Hid (pick q (x1, x2, x3) = false) := hp1
        have hp2 : q * x2 ≤ x3 * 100 := by omega
        have hfy := filter_take_no HX.out HP.out
        have HFY := hide hfy
        clear hfy
        go_wp2
        refine ⟨⟨k + 1, by omega, by go_num, ?_, HNEW.out⟩, by simp [intOf]; omega⟩
        rw [HFY.out]
        exact HRN.out
    · obtain rfl : k = n := by omega
      have htk : rs.take k = rs := List.take_of_length_le (by have := HN.out; omega)
      rw [htk] at hrow
      have hCl : (rs.filter (pick q)).length ≤ k := by have := List.length_filter_le (pick q) rs; have := HN.out; omega
      have hvic : ∀ x ∈ rs.filter (pick q), vicR x = true := fun x hx => by
        obtain ⟨h1, h2⟩ := List.mem_filter.1 hx
        exact pick_vic q0 (HMAY.out x h1) h2
      have HVIC := hide hvic
      obtain ⟨dl, hdl⟩ := lift_list _ hvic
      have HDL := hide hdl
      have HSZ := hide hsz
      have HB := hide hb
      clear hvic hsz hb htk HE
      generalize hC : rs.filter (pick q) = C at *
      have HC := hide hC
      clear hC
      have hdn : dl.length = C.length := by rw [← HDL.out, List.length_map]
      obtain ⟨a5, cap5, hv5⟩ := row_slice (own_base hrow (Nat.zero_le _))
      have hss := sort_row hrow HDL.out HSZ.out hsort
      have hszd := HSZ.out dl.toArray
      obtain ⟨S, hS⟩ : ∃ S, S = (srt dl.toArray).toList := ⟨_, rfl⟩
      have hSl : S.length = C.length := by rw [hS, Array.length_toList, hszd, List.size_toArray, hdn]
      rw [← hS] at hss
      have HSL := hide hSl
      have HROW3 := hide hrow
      have HS := hide hS
      clear hS hrow hsort hszd hdn hSl
      subst hv5
      go_wp2_with fail
      refine hss.mono ?_
      rintro e w9 ⟨rfl, hrow9, hg9⟩
      have HB9 := hide (HB.out.grown hg9 HB.out.size (fun i hi => (HROW3.out.lt i hi).1))
      have HE9 := hide (er_own (xs := S.map (fun x => x.1)) hrow9 (by rw [List.length_map]; exact HSL.out.symm) (fun x hx => by
        obtain ⟨y, _, rfl⟩ := List.mem_map.1 hx
        have h := y.2
        unfold vicR at h
        rw [Bool.and_eq_true] at h
        exact may_rng h.1))
      clear hss hrow9 hg9
      obtain ⟨i3, hi3, hy0, hy1, hy2⟩ := info_parts info3'
      have HR9 : Hid (w9.ownsRow w9.heap.size 3 1 (.slice none 0 0) 0 ((S.take 0).map fun x => Value.int .i64 x.1.1)) := World.ownsRow_nil _ _ _ _
      generalize hM : C.length = m at *
      have HM := hide hM
      clear hM
      go_wp2
      go_loopw [8, 38] (fun l i wr2 => ∃ j : Nat, j ≤ m ∧ i = .int .i64 j ∧ wr2.ownsRow w9.heap.size 3 1 l j ((S.take j).map fun x => Value.int .i64 x.1.1) ∧ Below w9.heap.size w9 wr2) (fun _ i _ => m - (intOf i).toNat)
      case atStart => exact ⟨0, Nat.zero_le _, rfl, HR9.out, Below.refl _ _⟩
      case round =>
        obtain ⟨j, hj, rfl, hrow, hb⟩ := hrel
        by_cases hlt2 : j < m
        · obtain ⟨x, hx⟩ : ∃ x, S[j]? = some x := ⟨_, List.getElem?_eq_getElem (by have := HSL.out; omega)⟩
          obtain ⟨g, off, rfl, hg, c0, c1, c2⟩ := (HE9.out.later hb).cells j x.1 (by rw [List.getElem?_map, hx]; rfl)
          have HX := hide (snoc_take _ _ _ hx)
          obtain ⟨⟨x1, x2, x3⟩, hxp⟩ := x
          simp only at *
          have HB10 := hide (hb.alloc hb.size (.cells #[.int .i64 x1, .int .i64 x2, .int .i64 x3] 58))
          have hbs := HB10.out.size
          have hbs2 := Nat.le_trans hbs (below_alloc (wr.alloc (.cells #[.int .i64 x1, .int .i64 x2, .int .i64 x3] 58)) (.cells #[.int .i64 x1] 3)).size
          have hcell := cell_one_new (wr.alloc (.cells #[.int .i64 x1, .int .i64 x2, .int .i64 x3] 58)) (.int .i64 x1) 3
          rw [World.size_alloc] at hcell
          have hrow2 := hrow.alloc (.cells #[.int .i64 x1, .int .i64 x2, .int .i64 x3] 58)
          clear hx hb hrow
          go_wp2_with (at_builtin; refine wpList_append_own _ rfl _ _ 54 rfl w9.heap.size 3 i3 (.int .i64 0) 1 8 Try.underlying54 hi3 hy0 hy1 hy2 rfl (by decide) _ _ _ rfl (hrow2.alloc _) ⟨wr.heap.size + 1, 0, none⟩ 1 1 [.int .i64 x1] rfl rfl hcell (by simp [Value.oneCell']) (by simp only [maxLen]; omega) (by omega) hbs2 ?_; intro v' w2 hown' hgrow _)
          have HB3 := hide ((HB10.out.alloc hbs (.cells #[.int .i64 x1] 3)).grown hgrow hbs2 (fun i hi => (hrow2.lt i hi).1))
          refine ⟨⟨j + 1, by omega, by go_num, ?_, HB3.out⟩, by simp [intOf]; omega⟩
          rw [HX.out, List.map_append]
          exact hown'
        · obtain rfl : j = m := by omega
          have htk : S.take j = S := List.take_of_length_le (by have := HSL.out; omega)
          rw [htk] at hrow
          have HRW := hide hrow
          have HBF := hide hb
          clear hrow hb htk
          go_wp2
          go_ret
          refine ⟨_, dl.toArray, rfl, by rw [HC.out]; exact HDL.out, ?_, ?_⟩
          · rw [← HS.out, HC.out, HM.out]
            exact own_base HRW.out (Nat.le_trans HB1.out.size HB9.out.size)
          · exact HB1.out.trans ((HB9.out.mono HB1.out.size).trans (HBF.out.mono (Nat.le_trans HB1.out.size HB9.out.size)))
end Li
end Go.Proofs.Ytgdfmoehbgmfkaa
