/- The law ExtmapMoves, walked. -/
import Derived.Test.YtjbgojccfkmlnaaLm
namespace Go.Proofs.Ytjbgojccfkmlnaa
open Go.RowKit
namespace Wi

theorem filt_len {l : List Xt} {p : Xt → Bool} {k : Nat} {x : Xt} (h : l[k]? = some x) : lens ((l.take (k + 1)).filter p) = lens ((l.take k).filter p) + if p x then x.len else 0 := by
  have hk : k < l.length := (List.getElem?_eq_some_iff.1 h).1
  have hx : l[k] = x := (List.getElem?_eq_some_iff.1 h).2
  rw [List.take_succ_eq_append_getElem hk, List.filter_append, lens_app, hx]
  cases hp : p x with
  | true => simp [hp, lens]
  | false => simp [hp, lens]

set_option maxRecDepth 100000 in
set_option maxHeartbeats 16000000 in
theorem extmapMoves_walk (a : Option Addr) (n cap : Nat) (os : List OpV) (x : Ix) (tq tt : Int) (W : World) (h : Os W a n os) (hn : n ≤ cap) (hx : x.Rng) (_hq : I64 tq) (_ht : I64 tt) : Calls Try.prog 7 #[.slice a n cap, .agg #[.int .i64 x.a, .int .i64 x.n, .int .i64 x.q, .int .i64 x.t], .agg #[.int .i64 tq, .int .i64 tt]] W fun e w' => e = .returned (.bool true) ∧ Below W.heap.size W w' := by
  have HO := hide h
  have HLn := hide h.len
  have hmost := h.most
  have HR := hide hx
  clear h
  obtain ⟨xa, xn, xq, xt⟩ := x
  simp only at *
  have hM0 : Mine W (W.alloc (.cells #[.int .i64 xa, .int .i64 xn, .int .i64 xq, .int .i64 xt] 40)) (objT W.heap.size (.cells #[.int .i64 xa, .int .i64 xn, .int .i64 xq, .int .i64 xt] 40)) := ⟨_, objT_new W _, fun k hk => by rw [hk]; exact Nat.le_refl _, below_alloc W _⟩
  have hM00 := Mine.obj (objT_good _ _) hM0 (.cells #[.int .i64 tq, .int .i64 tt] 32)
  rw [heap_size_alloc] at hM00
  have hc := new_mine ((objT_good _ _).and (objT_good _ _)) hM00
  have HI1 : Hid (I64 xa) := HR.out.a
  have HI2 : Hid (I64 xn) := HR.out.n
  clear hM0 hM00 hx
  go_enter Try.func7, Try.ntmps7
  go_wp2_with fail
  refine hc.mono ?_
  rintro e w1 ⟨b, rfl, hM⟩
  have HM1 := hide (Mine.le (Th.Le.mono (Th.Le.refl _) (Th.Le.swap _ _)) hM)
  clear hc hM
  have hc := few_mine ((mapT_good _ _).and ((objT_good _ _).and (objT_good _ _))) HM1.out HO.out hn
  cases hf : fewB os with
  | false =>
    rw [hf] at hc
    clear hf
    go_wp2_with fail
    refine hc.mono ?_
    rintro e w2 ⟨rfl, hM⟩
    have HM2 := hide hM
    clear hc hM
    have hc := awake_mine HM2.out
    go_wp2_with fail
    refine hc.mono ?_
    rintro e w9 ⟨rfl, hb9⟩
    have HB9 := hide hb9
    clear hc hb9
    go_wp2
    go_ret
    exact ⟨rfl, HB9.out⟩
  | true =>
    rw [hf] at hc
    have HFEW := hide hf
    clear hf
    go_wp2_with fail
    refine hc.mono ?_
    rintro e w2 ⟨rfl, hM⟩
    have HM2 := hide hM
    clear hc hM
    obtain ⟨x0, x1, x2, x3⟩ := objX (Mine.le (Th.Le.trans (Th.Le.rot _ _ _) (Th.Le.mono (Th.Le.refl _) (Th.Le.refl _))) HM2.out)
    have hc := may_mine ((mapT_good _ _).and ((objT_good _ _).and (objT_good _ _))) HM2.out xa xn xq xt HI1.out HI2.out
    cases hmx : mayX xa xn xq xt with
    | false =>
      rw [hmx] at hc
      clear hmx
      go_wp2_with fail
      refine hc.mono ?_
      rintro e w3 ⟨rfl, hM⟩
      have HM3 := hide hM
      clear hc hM
      have hc := awake_mine HM3.out
      go_wp2_with fail
      refine hc.mono ?_
      rintro e w9 ⟨rfl, hb9⟩
      have HB9 := hide hb9
      clear hc hb9
      go_wp2
      go_ret
      exact ⟨rfl, HB9.out⟩
    | true =>
      rw [hmx] at hc
      have HMX : Hid (Ix.may ⟨xa, xn, xq, xt⟩ = true) := hmx
      clear hmx
      go_wp2_with fail
      refine hc.mono ?_
      rintro e w3 ⟨rfl, hM⟩
      have HM3 := hide hM
      clear hc hM x0 x1 x2 x3
      obtain ⟨p0, p1⟩ := objP (Mine.le (Th.Le.trans (Th.Le.trans (Th.Le.mono (Th.Le.refl _) (Th.Le.swap _ _)) (Th.Le.rot _ _ _)) (Th.Le.mono (Th.Le.refl _) (Th.Le.refl _))) HM3.out)
      have hc := place_mine ((mapT_good _ _).and ((objT_good _ _).and (objT_good _ _))) HM3.out tq tt
      cases hmp : mayP tq tt with
      | false =>
        rw [hmp] at hc
        clear hmp
        go_wp2_with fail
        refine hc.mono ?_
        rintro e w4 ⟨rfl, hM⟩
        have HM4 := hide hM
        clear hc hM
        have hc := awake_mine HM4.out
        go_wp2_with fail
        refine hc.mono ?_
        rintro e w9 ⟨rfl, hb9⟩
        have HB9 := hide hb9
        clear hc hb9
        go_wp2
        go_ret
        exact ⟨rfl, HB9.out⟩
      | true =>
        rw [hmp] at hc
        obtain ⟨hq1, ht1, hq2, ht2⟩ := mayP_nat hmp
        obtain ⟨qn, rfl⟩ : ∃ n : Nat, tq = n := ⟨_, hq1⟩
        obtain ⟨tn, rfl⟩ : ∃ n : Nat, tt = n := ⟨_, ht1⟩
        simp only [Int.toNat_natCast] at hq2 ht2
        have HMPF : ∃ u : Bool, u = mayP (qn : Int) (tn : Int) ∧ u = true := ⟨_, rfl, hmp⟩
        obtain ⟨pu, hpu, hpt⟩ := HMPF
        have HMP : Hid (pu = true ∧ pu = mayP (qn : Int) (tn : Int)) := ⟨hpt, hpu⟩
        clear hpu hpt
        clear hmp hq1 ht1 _hq _ht
        go_wp2_with fail
        refine hc.mono ?_
        rintro e w4 ⟨rfl, hM⟩
        have HM4 := hide hM
        clear hc hM p0 p1
        obtain ⟨x0, x1, x2, x3⟩ := objX (Mine.le (Th.Le.trans (Th.Le.rot _ _ _) (Th.Le.mono (Th.Le.refl _) (Th.Le.refl _))) HM4.out)
        have hc := far_mine ((mapT_good _ _).and ((objT_good _ _).and (objT_good _ _))) HM4.out xa xn xq xt HI1.out HI2.out
        cases hfar : farB xa xn with
        | true =>
          rw [hfar] at hc
          clear hfar
          go_wp2_with fail
          refine hc.mono ?_
          rintro e w5 ⟨rfl, hM⟩
          have HM5 := hide hM
          clear hc hM x0 x1 x2 x3
          have hc := awake_mine HM5.out
          go_wp2_with fail
          refine hc.mono ?_
          rintro e w9 ⟨rfl, hb9⟩
          have HB9 := hide hb9
          clear hc hb9
          go_wp2
          go_ret
          exact ⟨rfl, HB9.out⟩
        | false =>
          rw [hfar] at hc
          obtain ⟨y, hy, hym, hys, hy1, hy3⟩ := near_x HMX.out hfar
          obtain ⟨ya, yl, yq, yt⟩ := y
          simp only [Xt.ix] at hy
          injection hy with q1 q2 q3 q4
          subst q1 q2 q3 q4
          have hy33 := hy3
          unfold Xt.fin at hy3
          simp only at hy1 hy3
          have HYM := hide hym
          have HYS := hide hys
          clear hfar hym hys
          go_wp2_with fail
          refine hc.mono ?_
          rintro e w5 ⟨rfl, hM⟩
          have HM5 := hide hM
          clear hc hM x0 x1 x2 x3 HM1 HM2 HM3 HM4
          obtain ⟨x0, x1, x2, x3⟩ := objX (Mine.le (Th.Le.trans (Th.Le.rot _ _ _) (Th.Le.mono (Th.Le.refl _) (Th.Le.refl _))) HM5.out)
          obtain ⟨p0, p1⟩ := objP (Mine.le (Th.Le.trans (Th.Le.trans (Th.Le.mono (Th.Le.refl _) (Th.Le.swap _ _)) (Th.Le.rot _ _ _)) (Th.Le.mono (Th.Le.refl _) (Th.Le.refl _))) HM5.out)
          have hwr0 : IntKind.i64.wrap ((tn : Int) + (yl : Int)) = (tn : Int) + (yl : Int) := by rw [IntKind.wrap_i64]; omega
          by_cases hov : tn + yl < 1099511627776
          case neg =>
            have hd0 : decide ((1099511627776 : Int) ≤ (tn : Int) + (yl : Int)) = true := decide_eq_true (by omega)
            have hc := awake_mine HM5.out
            go_wp2_with fail
            refine hc.mono ?_
            rintro e w9 ⟨rfl, hb9⟩
            have HB9 := hide hb9
            clear hc hb9
            go_wp2
            go_ret
            exact ⟨rfl, HB9.out⟩
          case pos =>
          have hd0 : decide ((1099511627776 : Int) ≤ (tn : Int) + (yl : Int)) = false := decide_eq_false (by omega)
          have hc := refnew_mine ((mapT_good _ _).and ((objT_good _ _).and (objT_good _ _))) HM5.out
          go_wp2_with fail
          refine hc.mono ?_
          rintro e w6 ⟨r, rfl, hM⟩
          have HM6 := hide (Mine.le (Th.Le.trans (Th.Le.rot _ _ _) (Th.Le.mono (Th.Le.refl _) (Th.Le.refl _))) hM)
          clear hc hM hd0 hwr0 x0 x1 x2 x3 p0 p1
          go_wp2
          go_loopw [9] (fun i wr => ∃ m : Nat, m ≤ n ∧ i = .int .i64 m ∧ ∃ l d, Inv l d ∧ Mine W wr ((mapT b l).and ((refT r 300 d).and ((objT W.heap.size (.cells #[.int .i64 (ya : Nat), .int .i64 (yl : Nat), .int .i64 (yq : Nat), .int .i64 (yt : Nat)] 40)).and (objT (W.heap.size + 1) (.cells #[.int .i64 (qn : Nat), .int .i64 (tn : Nat)] 32)))))) (fun i _ => n - (intOf i).toNat)
          case atStart => exact ⟨0, Nat.zero_le _, rfl, [], rf0, Inv.start, HM6.out⟩
          case round =>
            clear HM5 HM6
            obtain ⟨m, hm, rfl, l, d, hI, hM⟩ := hrel
            have HM := hide hM
            have HI := hide hI
            clear hM hI
            by_cases hlt : m < n
            · obtain ⟨o, ho⟩ : ∃ o, os[m]? = some o := ⟨_, List.getElem?_eq_getElem (by have := HLn.out; omega)⟩
              obtain ⟨g, off, rfl, hg, e0, e1, e2, e3⟩ := (HO.out.later HM.out.below).at ho
              have hc := does_any ((objT_good _ _).and (objT_good _ _)) HM.out HI.out (HO.out.ok o (List.mem_of_getElem? ho)) (fewB_at HFEW.out (List.mem_of_getElem? ho))
              obtain ⟨ask, la, ln, lc, q, t, xs⟩ := o
              unfold OpV.cells at hc
              simp only at e0 e1 e2 e3 hc
              clear ho HM HI
              go_wp2_with fail
              refine hc.mono ?_
              rintro e w6 ⟨rfl, l2, d2, hI2, hM2⟩
              have HM6 := hide hM2
              have HI6 := hide hI2
              clear hc hM2 hI2 e0 e1 e2 e3
              go_wp2
              go_roundw
              case rel => exact ⟨m + 1, by omega, by go_num, l2, d2, HI6.out, HM6.out⟩
              case measure => simp [intOf]; omega
            · obtain rfl : m = n := by omega
              have HFT := hide HI.out.fit
              have HF3 : Hid (∀ y ∈ l, y.fin ≤ 65536) := fun y hy => Nat.le_trans (rel_fin HI.out.fit.can HI.out.rel y hy) (by omega)
              have HMN := hide (Mine.le (Th.Le.mono (Th.Le.refl _) (Th.Le.trans (Th.Le.rot _ _ _) (Th.Le.mono (Th.Le.refl _) (Th.Le.trans (Th.Le.swap _ _) (Th.Le.fst _ _))))) HM.out)
              clear HM HI hlt hm
              have hc := all_mine ((objT_good _ _).and (objT_good _ _)) HMN.out HFT.out
              have HLL : Hid (l.length ≤ 65536) := HFT.out.len
              have hll := HFT.out.len
              go_wp2_with fail
              refine hc.mono ?_
              rintro e w6 ⟨va, vc, rfl, hvc, hM⟩
              have HM6 := hide hM
              clear hc hM HMN
              obtain ⟨N, hN⟩ : ∃ N, l.length = N := ⟨_, rfl⟩
              have HN := hide hN
              rw [hN] at hll hvc HM6
              rw [hN]
              clear hN
              go_wp2
              go_loopw [11] (fun i wr => ∃ j : Nat, j ≤ N ∧ i = .int .i64 j ∧ (∀ (k : Nat) y, k < j → l[k]? = some y → ¬ y.seq = qn) ∧ Mine W wr ((listT (.slice va N vc) l).and ((mapT b l).and ((objT W.heap.size (.cells #[.int .i64 (ya : Nat), .int .i64 (yl : Nat), .int .i64 (yq : Nat), .int .i64 (yt : Nat)] 40)).and (objT (W.heap.size + 1) (.cells #[.int .i64 (qn : Nat), .int .i64 (tn : Nat)] 32)))))) (fun i _ => N - (intOf i).toNat)
              case atStart => exact ⟨0, Nat.zero_le _, rfl, fun k y hk => by omega, HM6.out⟩
              case round =>
                clear HM6
                obtain ⟨j, hj, rfl, hno, hM⟩ := hrel
                have HM := hide hM
                have HNO := hide hno
                clear hM hno
                by_cases hlt : j < N
                · obtain ⟨y, hy⟩ : ∃ y, l[j]? = some y := ⟨_, List.getElem?_eq_getElem (by rw [HN.out]; exact hlt)⟩
                  obtain ⟨_, hat⟩ := Xs.at (HM.out.xs)
                  obtain ⟨g, off, rfl, hX⟩ := hat j y hy
                  have C2 : ∀ P : Later wr, _ := fun P => (hX.later P.below).c2
                  have Q0 : ∀ P : Later wr, _ := fun P => (objP (Mine.le (Th.Le.trans (Th.Le.trans (Th.Le.mono (Th.Le.refl _) (Th.Le.trans (Th.Le.mono (Th.Le.refl _) (Th.Le.swap _ _)) (Th.Le.rot _ _ _))) (Th.Le.rot _ _ _)) (Th.Le.mono (Th.Le.refl _) (Th.Le.refl _))) (Mine.later ((listT_good _ _).and ((mapT_good _ _).and ((objT_good _ _).and (objT_good _ _)))) HM.out P.below))).1
                  have hne := later_ne wr
                  have HY := hide hy
                  obtain ⟨za, zl, zq, zt⟩ := y
                  simp only at *
                  clear hat hX hy
                  by_cases hz : zq = qn
                  · have HZ := hide hz
                    subst hz
                    go_wp2
                    refine wp_region_later (by kernel_rfl) (by kernel_rfl) ?_
                    (repeat (first | go_big_quiet_skip | (go_big_quiet_want; go_big_quiet_op; go_big_quiet_on)))
                    refine wpQuiet_nil ?_
                    rintro _ ⟨p, rfl⟩
                    have HM2 := hide (Mine.later ((listT_good _ _).and ((mapT_good _ _).and ((objT_good _ _).and (objT_good _ _)))) HM.out p.below)
                    clear C2 Q0 hne HM
                    generalize p.val = w7 at *
                    have hc := awake_mine HM2.out
                    go_wp2_with fail
                    refine hc.mono ?_
                    rintro e w9 ⟨rfl, hb9⟩
                    have HB9 := hide hb9
                    clear hc hb9
                    go_wp2
                    go_ret
                    exact ⟨rfl, HB9.out⟩
                  · have hd1 : decide ((zq : Int) = (qn : Int)) = false := decide_eq_false (by omega)
                    have HNX : Hid (∀ (k : Nat) y, k < j + 1 → l[k]? = some y → ¬ y.seq = qn) := fun k y hk hy => by
                      by_cases e : k = j
                      · subst e
                        have := HY.out
                        rw [hy] at this
                        injection this with this
                        rw [this]
                        exact hz
                      · exact HNO.out k y (by omega) hy
                    go_wp2
                    refine wp_region_later (by kernel_rfl) (by kernel_rfl) ?_
                    (repeat (first | go_big_quiet_skip | (go_big_quiet_want; go_big_quiet_op; go_big_quiet_on)))
                    refine wpQuiet_nil ?_
                    rintro _ ⟨p, rfl⟩
                    have HM2 := hide (Mine.later ((listT_good _ _).and ((mapT_good _ _).and ((objT_good _ _).and (objT_good _ _)))) HM.out p.below)
                    clear C2 Q0 hne HM
                    generalize p.val = w7 at *
                    go_wp2
                    go_roundw
                    case rel => exact ⟨j + 1, by omega, by go_num, HNX.out, HM2.out⟩
                    case measure => simp [intOf]; omega
                · obtain rfl : j = N := by omega
                  have HSQ : Hid (∀ y ∈ l, ¬ y.seq = qn) := fun y hy => by
                    obtain ⟨k, hk, e⟩ := List.mem_iff_getElem.1 hy
                    exact HNO.out k y (by rw [← HN.out]; exact hk) (by rw [List.getElem?_eq_getElem hk, e])
                  clear HNO hlt
                  obtain ⟨x0, x1, x2, x3⟩ := objX (Mine.le (Th.Le.trans (Th.Le.trans (Th.Le.mono (Th.Le.refl _) (Th.Le.rot _ _ _)) (Th.Le.rot _ _ _)) (Th.Le.mono (Th.Le.refl _) (Th.Le.refl _))) HM.out)
                  obtain ⟨p0, p1⟩ := objP (Mine.le (Th.Le.trans (Th.Le.trans (Th.Le.mono (Th.Le.refl _) (Th.Le.trans (Th.Le.mono (Th.Le.refl _) (Th.Le.swap _ _)) (Th.Le.rot _ _ _))) (Th.Le.rot _ _ _)) (Th.Le.mono (Th.Le.refl _) (Th.Le.refl _))) HM.out)
                  have hc := move_mine ((listT_good _ _).and ((objT_good _ _).and (objT_good _ _))) (Mine.le (Th.Le.trans (Th.Le.rot _ _ _) (Th.Le.mono (Th.Le.refl _) (Th.Le.refl _))) HM.out) HFT.out ya yl yq yt qn tn HYM.out (by rw [← HMP.out.2]; exact HMP.out.1)
                  have HF2 : Hid (Fit (mvL l ⟨ya, yl, yq, yt⟩ qn tn)) := HFT.out.mv (by omega) hq2 ht2
                  have HTH : Hid (lens ((mvL l ⟨ya, yl, yq, yt⟩ qn tn).filter fun y => decide (y.seq = qn)) = lens ((wasL l ya (ya + yl)).filter (hitX ⟨ya, yl, yq, yt⟩))) := moved_there (x := ⟨ya, yl, yq, yt⟩) HFT.out.can HF3.out (by omega) HSQ.out HF2.out.can (fun y hy => (HF2.out.sm y hy).1)
                  have hmb := move_back (x := ⟨ya, yl, yq, yt⟩) (t := tn) HFT.out.can HSQ.out
                  have HMB1 : Hid (mvL (mvL l ⟨ya, yl, yq, yt⟩ qn tn) ⟨ya, yl, qn, tn⟩ yq yt = l) := hmb.1
                  have HMB2 : Hid (lens ((wasL (mvL l ⟨ya, yl, yq, yt⟩ qn tn) ya (ya + yl)).filter (hitX ⟨ya, yl, qn, tn⟩)) = lens ((wasL l ya (ya + yl)).filter (hitX ⟨ya, yl, yq, yt⟩))) := hmb.2
                  clear hmb
                  generalize lens ((wasL l ya (ya + yl)).filter (hitX ⟨ya, yl, yq, yt⟩)) = n1 at *
                  generalize mvL l ⟨ya, yl, yq, yt⟩ qn tn = l2 at *
                  go_wp2_with fail
                  refine hc.mono ?_
                  rintro e w7 ⟨rfl, hM⟩
                  have HM7 := hide hM
                  clear hc hM HM x0 x1 x2 x3 p0 p1
                  have hc := all_mine ((listT_good _ _).and ((objT_good _ _).and (objT_good _ _))) HM7.out HF2.out
                  have hl2 := HF2.out.len
                  go_wp2_with fail
                  refine hc.mono ?_
                  rintro e w8 ⟨ua, uc, rfl, huc, hM⟩
                  have HM8 := hide hM
                  clear hc hM HM7
                  have HLE : Hid (∀ k, lens ((l2.take k).filter fun y => decide (y.seq = qn)) ≤ 4294967296) := fun k => lens_small HF2.out.sm HF2.out.len k
                  obtain ⟨M, hM2⟩ : ∃ M, l2.length = M := ⟨_, rfl⟩
                  have HMM := hide hM2
                  rw [hM2] at hl2 huc HM8
                  rw [hM2]
                  clear hM2
                  go_wp2
                  go_loopw [15, 16] (fun s i wr => ∃ k : Nat, k ≤ M ∧ i = .int .i64 k ∧ s = .int .i64 (lens ((l2.take k).filter fun y => decide (y.seq = qn)) : Nat) ∧ Mine W wr ((listT (.slice ua M uc) l2).and ((mapT b l2).and ((listT (.slice va j vc) l).and ((objT W.heap.size (.cells #[.int .i64 (ya : Nat), .int .i64 (yl : Nat), .int .i64 (yq : Nat), .int .i64 (yt : Nat)] 40)).and (objT (W.heap.size + 1) (.cells #[.int .i64 (qn : Nat), .int .i64 (tn : Nat)] 32))))))) (fun _ i _ => M - (intOf i).toNat)
                  case atStart => exact ⟨0, Nat.zero_le _, rfl, by simp [lens], HM8.out⟩
                  case round =>
                    clear HM8
                    obtain ⟨k, hk, rfl, rfl, hM⟩ := hrel
                    have HM := hide hM
                    clear hM
                    by_cases hlt : k < M
                    · obtain ⟨y, hy⟩ : ∃ y, l2[k]? = some y := ⟨_, List.getElem?_eq_getElem (by rw [HMM.out]; exact hlt)⟩
                      obtain ⟨_, hat⟩ := Xs.at (HM.out.xs)
                      obtain ⟨g, off, rfl, hX⟩ := hat k y hy
                      have C2 : ∀ P : Later wr, _ := fun P => (hX.later P.below).c2
                      have HC1 : Hid (∀ P : Later wr, P.val.cell? ⟨g, off + k * 4 + 1, none⟩ = some (.int .i64 (y.len : Nat))) := fun P => (hX.later P.below).c1
                      have Q0 : ∀ P : Later wr, _ := fun P => (objP (Mine.le (Th.Le.trans (Th.Le.trans (Th.Le.mono (Th.Le.refl _) (Th.Le.trans (Th.Le.mono (Th.Le.refl _) (Th.Le.trans (Th.Le.mono (Th.Le.refl _) (Th.Le.swap _ _)) (Th.Le.rot _ _ _))) (Th.Le.rot _ _ _))) (Th.Le.rot _ _ _)) (Th.Le.mono (Th.Le.refl _) (Th.Le.refl _))) (Mine.later ((listT_good _ _).and ((mapT_good _ _).and ((listT_good _ _).and ((objT_good _ _).and (objT_good _ _))))) HM.out P.below))).1
                      have hne := later_ne wr
                      have HFL := hide (filt_len (p := fun y => decide (y.seq = qn)) hy)
                      have hle1 := HLE.out k
                      have hle2 := HLE.out (k + 1)
                      have hyl : y.len ≤ 65536 := by
                        have := (HF2.out.sm y (List.mem_of_getElem? hy)).1
                        unfold Xt.fin at this
                        omega
                      obtain ⟨za, zl, zq, zt⟩ := y
                      simp only at *
                      clear hat hX hy
                      by_cases hz : zq = qn
                      · have hd1 : decide ((zq : Int) = (qn : Int)) = true := decide_eq_true (by omega)
                        rw [decide_eq_true hz, if_pos rfl] at HFL
                        generalize lens ((l2.take k).filter fun y => decide (y.seq = qn)) = s at *
                        have hws : IntKind.i64.wrap ((s : Int) + (zl : Int)) = ((s + zl : Nat) : Int) := by rw [IntKind.wrap_i64]; omega
                        have HWS := hide hws
                        clear hws
                        go_wp2
                        refine wp_region_later (by kernel_rfl) (by kernel_rfl) ?_
                        (repeat (first | go_big_quiet_skip | (go_big_quiet_want; go_big_quiet_op; go_big_quiet_on)))
                        refine wpQuiet_nil ?_
                        rintro _ ⟨p, rfl⟩
                        have HM2 := hide (Mine.later ((listT_good _ _).and ((mapT_good _ _).and ((listT_good _ _).and ((objT_good _ _).and (objT_good _ _))))) HM.out p.below)
                        have c1 := HC1.out p
                        clear C2 Q0 hne HM HC1
                        generalize p.val = w9 at *
                        go_wp2
                        go_roundw
                        case rel => exact ⟨k + 1, by omega, by go_num, by rw [HFL.out]; go_num, HM2.out⟩
                        case measure => simp [intOf]; omega
                      · have hd1 : decide ((zq : Int) = (qn : Int)) = false := decide_eq_false (by omega)
                        rw [decide_eq_false hz, if_neg (by decide), Nat.add_zero] at HFL
                        go_wp2
                        refine wp_region_later (by kernel_rfl) (by kernel_rfl) ?_
                        (repeat (first | go_big_quiet_skip | (go_big_quiet_want; go_big_quiet_op; go_big_quiet_on)))
                        refine wpQuiet_nil ?_
                        rintro _ ⟨p, rfl⟩
                        have HM2 := hide (Mine.later ((listT_good _ _).and ((mapT_good _ _).and ((listT_good _ _).and ((objT_good _ _).and (objT_good _ _))))) HM.out p.below)
                        clear C2 Q0 hne HM HC1
                        generalize p.val = w9 at *
                        go_wp2
                        go_roundw
                        case rel => exact ⟨k + 1, by omega, by go_num, by rw [HFL.out, Nat.add_zero], HM2.out⟩
                        case measure => simp [intOf]; omega
                    · obtain rfl : k = M := by omega
                      have hful : l2.take k = l2 := List.take_of_length_le (by rw [HMM.out]; exact Nat.le_refl _)
                      rw [hful, HTH.out]
                      obtain ⟨x0, x1, x2, x3⟩ := objX (Mine.le (Th.Le.trans (Th.Le.trans (Th.Le.mono (Th.Le.refl _) (Th.Le.trans (Th.Le.mono (Th.Le.refl _) (Th.Le.rot _ _ _)) (Th.Le.rot _ _ _))) (Th.Le.rot _ _ _)) (Th.Le.mono (Th.Le.refl _) (Th.Le.refl _))) HM.out)
                      obtain ⟨p0, p1⟩ := objP (Mine.le (Th.Le.trans (Th.Le.trans (Th.Le.mono (Th.Le.refl _) (Th.Le.trans (Th.Le.mono (Th.Le.refl _) (Th.Le.trans (Th.Le.mono (Th.Le.refl _) (Th.Le.swap _ _)) (Th.Le.rot _ _ _))) (Th.Le.rot _ _ _))) (Th.Le.rot _ _ _)) (Th.Le.mono (Th.Le.refl _) (Th.Le.refl _))) HM.out)
                      have hmx2 : mayX ya yl qn tn = true := by
                        have hp := HYM.out
                        have hq : mayP (qn : Int) (tn : Int) = true := by rw [← HMP.out.2]; exact HMP.out.1
                        unfold Xt.ix Ix.may mayX at hp
                        unfold mayX
                        rw [Bool.and_eq_true] at hp
                        rw [hp.1, hq]
                        rfl
                      have hmp2 : mayP yq yt = true := by
                        have hp := HYM.out
                        unfold Xt.ix Ix.may mayX at hp
                        rw [Bool.and_eq_true] at hp
                        exact hp.2
                      have hc := move_mine ((listT_good _ _).and ((listT_good _ _).and ((objT_good _ _).and (objT_good _ _)))) (Mine.le (Th.Le.trans (Th.Le.rot _ _ _) (Th.Le.mono (Th.Le.refl _) (Th.Le.refl _))) HM.out) HF2.out ya yl qn tn yq yt hmx2 hmp2
                      rw [HMB1.out, HMB2.out] at hc
                      clear hful hmx2 hmp2 hlt
                      go_wp2_with fail
                      refine hc.mono ?_
                      rintro e w9 ⟨rfl, hM⟩
                      have HM9 := hide hM
                      clear hc hM HM x0 x1 x2 x3 p0 p1
                      have hc := all_mine ((listT_good _ _).and ((listT_good _ _).and ((objT_good _ _).and (objT_good _ _)))) HM9.out HFT.out
                      rw [HN.out] at hc
                      go_wp2_with fail
                      refine hc.mono ?_
                      rintro e w10 ⟨ta, tc, rfl, htc, hM⟩
                      have HM10 := hide hM
                      clear hc hM HM9
                      have hc := same_mine HM10.out (Mine.le (Th.Le.trans (Th.Le.trans (Th.Le.mono (Th.Le.refl _) (Th.Le.trans (Th.Le.mono (Th.Le.refl _) (Th.Le.rot _ _ _)) (Th.Le.rot _ _ _))) (Th.Le.rot _ _ _)) (Th.Le.mono (Th.Le.refl _) (Th.Le.refl _))) HM10.out) (by have := HLL.out; omega) ((listT_good _ _).and ((mapT_good _ _).and ((listT_good _ _).and ((listT_good _ _).and ((objT_good _ _).and (objT_good _ _)))))) HM10.out
                      go_wp2_with fail
                      refine hc.mono ?_
                      rintro e w11 ⟨rfl, hM⟩
                      have HM11 := hide hM
                      clear hc hM HM10
                      have hc := awake_mine HM11.out
                      go_wp2_with fail
                      refine hc.mono ?_
                      rintro e w9 ⟨rfl, hb9⟩
                      have HB9 := hide hb9
                      clear hc hb9
                      go_wp2
                      go_ret
                      exact ⟨rfl, HB9.out⟩

end Wi
end Go.Proofs.Ytjbgojccfkmlnaa
