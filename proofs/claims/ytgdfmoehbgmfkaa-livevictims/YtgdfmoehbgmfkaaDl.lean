/- The law LiveVictims, walked. -/
import Derived.Test.YtgdfmoehbgmfkaaDk
namespace Go.Proofs.Ytgdfmoehbgmfkaa
open Go.RowKit
namespace Li
open Wi
theorem two_cells {w : World} {B : Nat} {a b : Int} (h : w.heap[B]? = some (.cells #[.int .i64 a, .int .i64 b] 53 (0, 0))) : w.cell? ⟨B, 0, none⟩ = some (.int .i64 a) ∧ w.cell? ⟨B, 1, none⟩ = some (.int .i64 b) := by
  refine ⟨?_, ?_⟩ <;> (rw [cell_of_row _ _ _ _ _ _ h]; rfl)
set_option maxHeartbeats 32000000 in
set_option maxRecDepth 100000 in
theorem liveVictims_walk (a : Option Addr) (n cap : Nat) (os : List OpV) (p0 p1 : Int) (w : World) (hO : Os w a n os) (hok : ∀ o ∈ os, OpOk w o) (_hc : n ≤ cap) (_hp0 : I64 p0) (_hp1 : I64 p1) :
    Calls Try.prog 6 #[.slice a n cap, .agg #[.int .i64 p0, .int .i64 p1]] w fun e w' => e = .returned (.bool true) ∧ Below w.heap.size w w' := by
  have ha := awake_any
  have hbx := below_alloc w (.cells #[.int .i64 p0, .int .i64 p1] 53)
  have hblk := heap_alloc_new w (.cells #[.int .i64 p0, .int .i64 p1] 53)
  have hnew := new_any (w.alloc (.cells #[.int .i64 p0, .int .i64 p1] 53))
  rw [World.size_alloc] at hnew
  have HO := hide hO
  have HOK := hide hok
  have HLN := hide hO.len
  have HBX0 := hide hbx
  have HBLK := hide hblk
  have hmost := hO.most
  clear hO hok hbx hblk
  go_enter Try.func6, Try.ntmps6
  go_wp2_with fail
  refine hnew.mono ?_
  rintro e w1 ⟨rfl, hT1, hb1⟩
  have HT1 := hide hT1
  have HB1 := hide (HBX0.out.trans (hb1.mono (by omega)))
  have HBLK1 := hide ((hb1.block w.heap.size (by simp)).trans HBLK.out)
  have hsz1 : w.heap.size + 1 ≤ w1.heap.size := by have := hb1.size; simpa using this
  have hf := few_any (cap := cap) (HO.out.later HB1.out)
  clear hnew hT1 hb1
  go_wp2_with fail
  refine hf.mono ?_
  rintro e W2 ⟨rfl, hb2⟩
  have HB2 := hide (HB1.out.trans (hb2.mono HB1.out.size))
  have HT2 := hide (HT1.out.later hb2)
  have HBOX2 := hide ((hb2.block w.heap.size (by omega)).trans HBLK1.out)
  have HSZ2 : Hid (w.heap.size + 1 ≤ W2.heap.size) := Nat.le_trans hsz1 hb2.size
  obtain ⟨x0, x1⟩ := two_cells HBOX2.out
  clear hf hb2 hsz1
  cases hfe : fewL os with
  | false =>
    clear hfe
    go_wp2_with (go_at_call 13; refine (ha _).mono ?_; rintro e w3 ⟨rfl, hb3⟩)
    go_ret
    exact ⟨rfl, HB2.out.trans (hb3.mono HB2.out.size)⟩
  | true =>
    have HF := hide hfe
    clear hfe
    by_cases hgood : 0 ≤ p0 ∧ p0 ≤ 1000 ∧ p0 ≤ p1 ∧ p1 ≤ 1000
    · obtain ⟨k1, k2, k3, k4⟩ := hgood
      obtain ⟨tb, htb⟩ : ∃ tb, tb = w.heap.size + 1 + 1 := ⟨_, rfl⟩
      obtain ⟨mb, hmb⟩ : ∃ mb, mb = w.heap.size + 1 := ⟨_, rfl⟩
      have HMB : Hid (w.heap.size ≤ mb) := by show _ ≤ _; omega
      have HMB1 : Hid (w.heap.size < mb) := by show _ < _; omega
      rw [← htb, ← hmb] at HT2
      have HBX : Hid (∀ w', W2.grownBy w' (some mb) → w'.cell? ⟨w.heap.size, 0, none⟩ = some (.int .i64 p0) ∧ w'.cell? ⟨w.heap.size, 1, none⟩ = some (.int .i64 p1)) := fun w' hg => two_cells ((hg.block w.heap.size (by have := HSZ2.out; omega) (fun e => by have := Option.some.inj e; have := HMB1.out; omega)).trans HBOX2.out)
      go_wp2
      rw [← htb]
      clear htb hmb x0 x1
      go_loopw [6] (fun i wr => ∃ k : Nat, k ≤ n ∧ i = .int .i64 k ∧ Tab wr tb mb (runT (os.take k)) ∧ Below w.heap.size w wr ∧ W2.grownBy wr (some mb)) (fun i _ => n - (intOf i).toNat)
      case atStart => exact ⟨0, Nat.zero_le _, rfl, HT2.out, HB2.out, ⟨rfl, rfl, rfl, Nat.le_refl _, fun _ _ _ => rfl⟩⟩
      case round =>
        obtain ⟨k, hk, rfl, hT, hb, hg⟩ := hrel
        by_cases hlt : k < n
        · obtain ⟨o, ho⟩ : ∃ o, os[k]? = some o := ⟨_, List.getElem?_eq_getElem (by have := HLN.out; omega)⟩
          obtain ⟨g, off, rfl, hgl, c0, c1, c2, c3, c4⟩ := (HO.out.later hb).cells k o ho
          have hm := List.mem_of_getElem? ho
          have hrf := run_facts HF.out HOK.out k
          have hd := does_nil hT hrf.2.1 (HOK.out o hm) ((few_all HF.out).1 o hm) hb HMB.out (by omega)
          have HSN := hide (show runT (os.take (k + 1)) = opT (runT (os.take k)) o by rw [snoc_take _ _ _ ho, runT_snoc])
          have HG := hide hg
          clear ho hT hb hg hm hrf
          go_wp2_with fail
          refine hd.mono ?_
          rintro e w9 ⟨v9, bb9, rfl, hT9, hb9, hg9⟩
          have HT9 := hide hT9
          have HB9 := hide hb9
          have HG9 := hide (HG.out.trans hg9)
          clear hd hT9 hb9 hg9 c0 c1 c2 c3 c4
          go_wp2
          go_roundw
          case rel => exact ⟨k + 1, by omega, by go_num, by rw [HSN.out]; exact HT9.out, HB9.out, HG9.out⟩
          case measure => simp [intOf]; omega
        · obtain rfl : k = n := by omega
          have htk : os.take k = os := List.take_of_length_le (by have := HLN.out; omega)
          rw [htk] at hT
          have HT := hide hT
          have HB := hide hb
          have HG := hide hg
          have hrf := run_facts HF.out HOK.out k
          rw [htk] at hrf
          have HRF := hide hrf
          generalize runT os = rs at *
          clear hT hb hg htk hrf
          obtain ⟨q0, hq0⟩ : ∃ q, q = max 0 (min p0 101) := ⟨_, rfl⟩
          obtain ⟨q1, hq1⟩ : ∃ q, q = max 0 (min p1 101) := ⟨_, rfl⟩
          have HQ1 := hide hq1
          have HQ01 : Hid (q0 ≤ q1) := by show _ ≤ _; omega
          have hv0 := victims_any p0 q0 hq0 HT.out HRF.out.2.1 (by have := HRF.out.2.2; omega)
          obtain ⟨x0, x1⟩ := HBX.out wr HG.out
          clear hq0 hq1
          go_wp2_with fail
          refine hv0.mono ?_
          rintro e w3 ⟨v3, d0, rfl, hd0, hrow3, hb3⟩
          have HT3 := hide (HT.out.later hb3)
          have HG3 := hide (HG.out.trans (grown_of_below hb3 (some mb)))
          have hv1 := victims_any p1 q1 HQ1.out HT3.out HRF.out.2.1 (by have := HRF.out.2.2; omega)
          have HD0 := hide hd0
          have HROW3 := hide hrow3
          have HB3 := hide hb3
          obtain ⟨x0, x1⟩ := HBX.out w3 HG3.out
          clear hv0 hd0 hrow3 hb3
          go_wp2_with fail
          refine hv1.mono ?_
          rintro e w4 ⟨v4, d1, rfl, hd1, hrow4, hb4⟩
          have HT4 := hide (HT3.out.later hb4)
          have HG4 := hide (HG3.out.trans (grown_of_below hb4 (some mb)))
          have hv2 := victims_any 0 0 rfl HT4.out HRF.out.2.1 (by have := HRF.out.2.2; omega)
          have HD1 := hide hd1
          have HROW4 := hide hrow4
          have HB4 := hide (HB3.out.trans (hb4.mono HB3.out.size))
          have hrow3' := row_later HROW3.out hb4
          clear hv1 hd1 hrow4 hb4 x0 x1
          have HROW3' := hide hrow3'
          clear HROW3 hrow3'
          go_wp2_with fail
          refine hv2.mono ?_
          rintro e w5 ⟨v5, d5, rfl, hd5, hrow5, hb5⟩
          have HT5 := hide (HT4.out.later hb5)
          have HG5 := hide (HG4.out.trans (grown_of_below hb5 (some mb)))
          have HB5 := hide (HB4.out.trans (hb5.mono HB4.out.size))
          rw [pick_zero HRF.out.2.1] at hrow5
          obtain ⟨a5, cap5, rfl⟩ := row_slice (own_base hrow5 (Nat.zero_le _))
          have hrowA := row_later HROW3'.out hb5
          have hrowB := row_later HROW4.out hb5
          have HPF := hide (vic_prefix HRF.out.1 HRF.out.2.1 HQ01.out HD0.out HD1.out)
          have HS1 := hide (vic_sorted HRF.out.1 HD1.out)
          have hlA : (srtS d0).toList.length = (rs.filter (pick q0)).length := by
            rw [Array.length_toList, srtS_size, ← Array.length_toList, ← HD0.out, List.length_map]
          have hlB : (srtS d1).toList.length = (rs.filter (pick q1)).length := by
            rw [Array.length_toList, srtS_size, ← Array.length_toList, ← HD1.out, List.length_map]
          have HMEM : Hid (∀ x ∈ (srtS d1).toList, x.1 ∈ rs ∧ pick q1 x.1 = true) := fun x hx => by
            have h1 := HS1.out.1.mem_iff.1 hx
            have h2 : x.1 ∈ d1.toList.map (fun x => x.1) := List.mem_map_of_mem h1
            rw [HD1.out] at h2
            exact List.mem_filter.1 h2
          have hfl := List.length_filter_le (pick q1) rs
          rw [← hlA] at hrowA
          rw [← hlB] at hrowB hfl
          clear hv2 hd5 hrow5 hb5 hlA hlB HD0 HD1 HROW3' HROW4
          generalize (srtS d0).toList = A at *
          generalize (srtS d1).toList = B at *
          obtain ⟨aA, capA, rfl⟩ := row_slice (own_base hrowA (Nat.zero_le _))
          obtain ⟨aB, capB, rfl⟩ := row_slice (own_base hrowB (Nat.zero_le _))
          have hAB : A.length ≤ B.length := by
            have := congrArg List.length HPF.out
            rw [List.length_take] at this
            omega
          obtain ⟨aT, hslT, hrowT⟩ := own_to hrowB hAB
          have eA : (A.map fun x : Vr => Value.int .i64 x.1.1) = isV (A.map (fun x => x.1.1)) := by unfold isV; rw [List.map_map]; rfl
          have eB : ((B.map fun x : Vr => Value.int .i64 x.1.1).take A.length) = isV (A.map (fun x => x.1.1)) := by
            rw [← List.map_take, HPF.out]; exact eA
          rw [eB] at hrowT
          rw [eA] at hrowA
          have hL := HRF.out.2.2
          have hint0 := ints_any hrowA hrowT (by omega) (by omega)
          have hint : Calls Try.prog 24 #[.slice aA A.length capA, .slice aT A.length capB] w5 fun e w' => e = .returned (.bool true) ∧ Below w5.heap.size w5 w' := hint0.mono fun e w' ⟨⟨bb, he, h⟩, hb⟩ => ⟨by rw [he, h rfl], hb⟩
          clear hint0
          have HROWB := hide hrowB
          obtain ⟨lA, hlA⟩ : ∃ l, l = A.length := ⟨_, rfl⟩
          obtain ⟨lB, hlB⟩ : ∃ l, l = B.length := ⟨_, rfl⟩
          rw [← hlA] at hint hslT hAB
          rw [← hlB] at hslT hAB
          have HLB := hide hlB
          have hlB8 : lB ≤ 800 := by omega
          have hlen0 : ((([] : List Ro).length : Nat) : Int) = 0 := rfl
          have hnab : ¬ (lB : Int) < (lA : Int) := by omega
          have hnab2 : ¬ lB < lA := by omega
          rw [← hlA, ← hlB]
          clear hrowA hrowB hrowT eA eB hlA hlB
          go_wp2_with (go_at_call 24; refine hint.mono ?_; rintro e w6 ⟨rfl, hb6⟩)
          have HT6 := hide (HT5.out.later hb6)
          have HG6 := hide (HG5.out.trans (grown_of_below hb6 (some mb)))
          have HLS := hide HS1.out.2
          have HROW6 := hide (row_later HROWB.out hb6)
          clear hb6 HS1 HPF HROWB hslT hnab hlen0 hint
          go_loopw [9, 10] (fun f i wr => ∃ (k fw : Nat), k ≤ lB ∧ i = .int .i64 k ∧ f = .float .f64 fw ∧ (∀ x, B[k]? = some x → ∃ o, FloatKind.f64.format.order (pw x.1.2.1 x.1.2.2) fw = some o ∧ (o = .eq ∨ o = .gt)) ∧ Below w6.heap.size w6 wr) (fun _ i _ => lB - (intOf i).toNat)
          case atStart => exact ⟨0, 13830554455654793216, Nat.zero_le _, rfl, rfl, fun x _ => by
            obtain ⟨b1, b2, b3, b4⟩ := x.get
            exact ⟨.gt, part_min b1 b2 b3 b4, .inr rfl⟩, Below.refl _ _⟩
          case round =>
            obtain ⟨k, fw, hk, rfl, rfl, hord, hb⟩ := hrel
            have HB7 := hide hb
            by_cases hlt : k < lB
            · obtain ⟨x, hx⟩ : ∃ x, B[k]? = some x := ⟨_, List.getElem?_eq_getElem (by have := HLB.out; omega)⟩
              obtain ⟨gB, cB, hvB, hgB⟩ := row_form (own_base HROW6.out (Nat.zero_le _)) (by have := HLB.out; omega)
              injection hvB with e1 _ e3
              subst e1 e3
              have hcx : wr.cell? ⟨gB, k, none⟩ = some (.int .i64 x.1.1) := (hb.cell (p := ⟨gB, k, none⟩) hgB).trans (by
                rw [World.ownsRow.cellAt HROW6.out k (by have := HLB.out; omega), List.getElem?_map, hx]; rfl)
              obtain ⟨hxr, hxp⟩ := HMEM.out x (List.mem_of_getElem? hx)
              obtain ⟨o, ho, hoo⟩ := hord x hx
              obtain ⟨b1, b2, b3, b4⟩ := x.get
              have hga := getA_of_mem HRF.out.1 (k := x.1.1) (v := x.1.2) hxr
              have hrg := may_rng (HRF.out.2.1 x.1 hxr)
              have hmr := HRF.out.2.1 x.1 hxr
              have hgt := get_some (HT6.out.later hb) hrg.1 hga
              have hpt := fun w => part_any x.1.1 x.1.2.1 x.1.2.2 b1 b2 b3 w
              have hp9 : pickD p1 x.1 = true := by rw [pick_same HQ1.out hmr]; exact hxp
              have hlt9 : ¬ p1 * x.1.2.1 ≤ x.1.2.2 * 100 := by unfold pickD at hp9; rw [decide_eq_true_eq] at hp9; omega
              have hd9 : decide (p1 * x.1.2.1 ≤ x.1.2.2 * 100) = false := decide_eq_false hlt9
              obtain ⟨m1, m2⟩ := mul_rng2 (a := p1) (by omega) (by omega) (show 0 ≤ x.1.2.1 by omega) b3
              have m3 : -9223372036854775808 ≤ x.1.2.2 * 100 ∧ x.1.2.2 * 100 ≤ 9223372036854775807 := by omega
              obtain ⟨m3, m4⟩ := m3
              have HNEXT : Hid (∀ y, B[k + 1]? = some y → ∃ o, FloatKind.f64.format.order (pw y.1.2.1 y.1.2.2) (pw x.1.2.1 x.1.2.2) = some o ∧ (o = .eq ∨ o = .gt)) := fun y hy => by
                refine part_rise ?_
                obtain ⟨i1, hi1⟩ := List.getElem?_eq_some_iff.1 hx
                obtain ⟨i2, hi2⟩ := List.getElem?_eq_some_iff.1 hy
                have := List.pairwise_iff_getElem.1 HLS.out k (k + 1) i1 i2 (Nat.lt_succ_self _)
                rwa [hi1, hi2] at this
              have hnn := HROW6.out.2
              obtain ⟨⟨z1, z2, z3⟩, hz⟩ := x
              simp only at *
              have HGT := hide hgt
              generalize pw z2 z3 = pz at *
              clear hgt hb hxr hxp hga hrg hmr hp9 hlt9 hnn hx hord b1 b2 b3 b4
              go_wp2_with fail
              refine HGT.out.mono ?_
              rintro e w8 ⟨rfl, hb8⟩
              have HB8 := hide (HB7.out.trans (hb8.mono HB7.out.size))
              have hba := below_alloc w8 (.cells #[.int .i64 z1, .int .i64 z2, .int .i64 z3] 58)
              have HB9 := hide (HB8.out.trans (hba.mono HB8.out.size))
              have hblk8 := heap_alloc_new w8 (.cells #[.int .i64 z1, .int .i64 z2, .int .i64 z3] 58)
              obtain ⟨c0, c1, c2⟩ := row_cells hblk8
              have hb10 := hba.alloc hba.size (.cells #[.int .i64 z1, .int .i64 z2, .int .i64 z3] 58)
              have HB10 := hide (HB8.out.trans (hb10.mono HB8.out.size))
              have hblk10 : ((w8.alloc (.cells #[.int .i64 z1, .int .i64 z2, .int .i64 z3] 58)).alloc (.cells #[.int .i64 z1, .int .i64 z2, .int .i64 z3] 58)).heap[w8.heap.size]? = some (.cells #[.int .i64 z1, .int .i64 z2, .int .i64 z3] 58 (0, 0)) := ((below_alloc _ _).block w8.heap.size (by simp)).trans hblk8
              obtain ⟨d0, d1, d2⟩ := row_cells hblk10
              obtain ⟨x0, x1⟩ := HBX.out _ (HG6.out.trans (grown_of_below HB10.out (some mb)))
              have HB11 := hide (HB10.out.alloc HB10.out.size (.cells #[.int .i64 z1, .int .i64 z2, .int .i64 z3] 58))
              clear hb8 hba hblk8 hb10 hblk10
              rcases hoo with rfl | rfl
              all_goals
                go_wp2_with (go_at_call 26; refine (hpt _).mono ?_; rintro e w12 ⟨rfl, rfl⟩)
                go_roundw
                case rel => exact ⟨k + 1, pz, by omega, by go_num, rfl, HNEXT.out, HB11.out⟩
                case measure => simp [intOf]; omega
            · have hnl : ¬ (k : Int) < (lB : Int) := by omega
              clear hb hord
              go_wp2_with (go_at_call 13; refine (ha _).mono ?_; rintro e w20 ⟨rfl, hb20⟩)
              go_ret
              have hgf := HG6.out.trans (grown_of_below (HB7.out.trans (hb20.mono HB7.out.size)) (some mb))
              exact ⟨rfl, HB2.out.grown hgf HB2.out.size (fun i hi => by cases hi; exact HMB.out)⟩
    · have hbad : p0 < 0 ∨ (0 ≤ p0 ∧ 1000 < p0) ∨ (0 ≤ p0 ∧ p0 ≤ 1000 ∧ p1 < p0) ∨ (0 ≤ p0 ∧ p0 ≤ 1000 ∧ p0 ≤ p1 ∧ 1000 < p1) := by omega
      clear hgood
      rcases hbad with h1 | ⟨h1, h2⟩ | ⟨h1, h2, h3⟩ | ⟨h1, h2, h3, h4⟩
      all_goals
        go_wp2_with (go_at_call 13; refine (ha _).mono ?_; rintro e w3 ⟨rfl, hb3⟩)
        go_ret
        exact ⟨rfl, HB2.out.trans (hb3.mono HB2.out.size)⟩
end Li
end Go.Proofs.Ytgdfmoehbgmfkaa
