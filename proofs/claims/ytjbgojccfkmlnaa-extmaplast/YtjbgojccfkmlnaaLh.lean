/- The law ExtmapLast, walked. -/
import Derived.Test.YtjbgojccfkmlnaaLm
namespace Go.Proofs.Ytjbgojccfkmlnaa
open Go.RowKit
namespace Wi

set_option maxRecDepth 100000 in
set_option maxHeartbeats 16000000 in
theorem extmapLast_walk (a : Option Addr) (n cap : Nat) (os : List OpV) (x : Ix) (cb : Bool) (W : World) (h : Os W a n os) (hn : n ≤ cap) (hx : x.Rng) : Calls Try.prog 6 #[.slice a n cap, .agg #[.int .i64 x.a, .int .i64 x.n, .int .i64 x.q, .int .i64 x.t], .bool cb] W fun e w' => e = .returned (.bool true) ∧ Below W.heap.size W w' := by
  have HO := hide h
  have HLn := hide h.len
  have hmost := h.most
  have HR := hide hx
  clear h
  obtain ⟨xa, xn, xq, xt⟩ := x
  simp only at *
  have hM0 : Mine W (W.alloc (.cells #[.int .i64 xa, .int .i64 xn, .int .i64 xq, .int .i64 xt] 40)) (objT W.heap.size (.cells #[.int .i64 xa, .int .i64 xn, .int .i64 xq, .int .i64 xt] 40)) := ⟨_, objT_new W _, fun k hk => by rw [hk]; exact Nat.le_refl _, below_alloc W _⟩
  have hc := new_mine (objT_good _ _) hM0
  have HI1 : Hid (I64 xa) := HR.out.a
  have HI2 : Hid (I64 xn) := HR.out.n
  clear hM0 hx
  go_enter Try.func6, Try.ntmps6
  go_wp2_with fail
  refine hc.mono ?_
  rintro e w1 ⟨b, rfl, hM⟩
  have HM1 := hide hM
  clear hc hM
  have hc := few_mine ((mapT_good _ _).and (objT_good _ _)) HM1.out HO.out hn
  cases hf : fewB os with
  | false =>
    rw [hf] at hc
    clear hf
    go_wp2_with fail
    refine hc.mono ?_
    rintro e w2 ⟨rfl, hM⟩
    have HM2 := hide hM
    clear hc hM
    have hc := awake_mine HM2.out
    go_wp2_with fail
    refine hc.mono ?_
    rintro e w9 ⟨rfl, hb9⟩
    have HB9 := hide hb9
    clear hc hb9
    go_wp2
    go_ret
    exact ⟨rfl, HB9.out⟩
  | true =>
    rw [hf] at hc
    have HFEW := hide hf
    clear hf
    go_wp2_with fail
    refine hc.mono ?_
    rintro e w2 ⟨rfl, hM⟩
    have HM2 := hide hM
    clear hc hM
    obtain ⟨x0, x1, x2, x3⟩ := objX (Mine.le (Th.Le.swap _ _) HM2.out)
    have hc := may_mine ((mapT_good _ _).and (objT_good _ _)) HM2.out xa xn xq xt HI1.out HI2.out
    cases hmx : mayX xa xn xq xt with
    | false =>
      rw [hmx] at hc
      clear hmx
      go_wp2_with fail
      refine hc.mono ?_
      rintro e w3 ⟨rfl, hM⟩
      have HM3 := hide hM
      clear hc hM
      have hc := awake_mine HM3.out
      go_wp2_with fail
      refine hc.mono ?_
      rintro e w9 ⟨rfl, hb9⟩
      have HB9 := hide hb9
      clear hc hb9
      go_wp2
      go_ret
      exact ⟨rfl, HB9.out⟩
    | true =>
      rw [hmx] at hc
      have HMX : Hid (Ix.may ⟨xa, xn, xq, xt⟩ = true) := hmx
      clear hmx
      go_wp2_with fail
      refine hc.mono ?_
      rintro e w3 ⟨rfl, hM⟩
      have HM3 := hide hM
      clear hc hM x0 x1 x2 x3
      obtain ⟨x0, x1, x2, x3⟩ := objX (Mine.le (Th.Le.swap _ _) HM3.out)
      have hc := far_mine ((mapT_good _ _).and (objT_good _ _)) HM3.out xa xn xq xt HI1.out HI2.out
      cases hfar : farB xa xn with
      | true =>
        rw [hfar] at hc
        clear hfar
        go_wp2_with fail
        refine hc.mono ?_
        rintro e w4 ⟨rfl, hM⟩
        have HM4 := hide hM
        clear hc hM x0 x1 x2 x3
        have hc := awake_mine HM4.out
        go_wp2_with fail
        refine hc.mono ?_
        rintro e w9 ⟨rfl, hb9⟩
        have HB9 := hide hb9
        clear hc hb9
        go_wp2
        go_ret
        exact ⟨rfl, HB9.out⟩
      | false =>
        rw [hfar] at hc
        obtain ⟨y, hy, hym, hys, hy1, hy3⟩ := near_x HMX.out hfar
        obtain ⟨ya, yl, yq, yt⟩ := y
        simp only [Xt.ix] at hy
        injection hy with q1 q2 q3 q4
        subst q1 q2 q3 q4
        have hy33 := hy3
        unfold Xt.fin at hy3
        simp only at hy1 hy3
        have HYM := hide hym
        have HYS := hide hys
        clear hfar hym hys
        go_wp2_with fail
        refine hc.mono ?_
        rintro e w4 ⟨rfl, hM⟩
        have HM4 := hide hM
        clear hc hM x0 x1 x2 x3
        have hc := refnew_mine ((mapT_good _ _).and (objT_good _ _)) HM4.out
        go_wp2_with fail
        refine hc.mono ?_
        rintro e w5 ⟨r, rfl, hM⟩
        have HM5 := hide (Mine.le (Th.Le.trans (Th.Le.rot _ _ _) (Th.Le.mono (Th.Le.refl _) (Th.Le.refl _))) hM)
        clear hc hM
        go_wp2
        go_loopw [9] (fun i wr => ∃ m : Nat, m ≤ n ∧ i = .int .i64 m ∧ ∃ l d, Inv l d ∧ Mine W wr ((mapT b l).and ((refT r 300 d).and (objT W.heap.size (.cells #[.int .i64 (ya : Nat), .int .i64 (yl : Nat), .int .i64 (yq : Nat), .int .i64 (yt : Nat)] 40))))) (fun i _ => n - (intOf i).toNat)
        case atStart => exact ⟨0, Nat.zero_le _, rfl, [], rf0, Inv.start, HM5.out⟩
        case round =>
          clear HM5 HM1 HM2 HM3 HM4
          obtain ⟨m, hm, rfl, l, d, hI, hM⟩ := hrel
          have HM := hide hM
          have HI := hide hI
          clear hM hI
          by_cases hlt : m < n
          · obtain ⟨o, ho⟩ : ∃ o, os[m]? = some o := ⟨_, List.getElem?_eq_getElem (by have := HLn.out; omega)⟩
            obtain ⟨g, off, rfl, hg, e0, e1, e2, e3⟩ := (HO.out.later HM.out.below).at ho
            have hc := does_any (objT_good _ _) HM.out HI.out (HO.out.ok o (List.mem_of_getElem? ho)) (fewB_at HFEW.out (List.mem_of_getElem? ho))
            obtain ⟨ask, la, ln, lc, q, t, xs⟩ := o
            unfold OpV.cells at hc
            simp only at e0 e1 e2 e3 hc
            clear ho HM HI
            go_wp2_with fail
            refine hc.mono ?_
            rintro e w6 ⟨rfl, l2, d2, hI2, hM2⟩
            have HM6 := hide hM2
            have HI6 := hide hI2
            clear hc hM2 hI2 e0 e1 e2 e3
            go_wp2
            go_roundw
            case rel => exact ⟨m + 1, by omega, by go_num, l2, d2, HI6.out, HM6.out⟩
            case measure => simp [intOf]; omega
          · obtain rfl : m = n := by omega
            have HFT := hide HI.out.fit
            have HF3 : Hid (∀ y ∈ l, y.fin ≤ 300) := rel_fin HI.out.fit.can HI.out.rel
            have HMN := hide (Mine.le (Th.Le.mono (Th.Le.refl _) (Th.Le.trans (Th.Le.swap _ _) (Th.Le.fst _ _))) HM.out)
            clear HM HI hlt hm
            have hc := copy_mine (objT_good _ _) HMN.out HFT.out
            go_wp2_with fail
            refine hc.mono ?_
            rintro e w6 ⟨c, rfl, hM⟩
            have HM6 := hide hM
            clear hc hM HMN
            obtain ⟨x0, x1, x2, x3⟩ := objX (Mine.le (Th.Le.trans (Th.Le.trans (Th.Le.mono (Th.Le.refl _) (Th.Le.swap _ _)) (Th.Le.rot _ _ _)) (Th.Le.mono (Th.Le.refl _) (Th.Le.refl _))) HM6.out)
            have hab : ya ≤ ya + yl := by omega
            have HWF : Hid ((wasL l ya (ya + yl)).length ≤ 1000000) := Nat.le_trans (was_len _ _ _) (Nat.le_trans HFT.out.len (by omega))
            cases cb with
            | true =>
              have hc := cut_new ((mapT_good _ _).and (objT_good _ _)) HM6.out HFT.out ya yl hy1 (by omega)
              have HF2 : Hid (Fit (layL l ya (ya + yl) [])) := HFT.out.cut (x := ⟨ya, yl, yq, yt⟩)
              have HFI : Hid (wasL (layL l ya (ya + yl) []) ya (ya + yl) = []) := was_lay_nil HFT.out.can hab
              have HSP : Hid (∀ i, spot (layL l ya (ya + yl) []) i = if ya ≤ i ∧ i < ya + yl then spot ([] : List Xt) i else spot l i) := fun i => lay_spot HFT.out.can.ris (show Ris ([] : List Xt) from trivial) hab (fun z hz => by simp at hz) i
              have HOFF : Hid (∀ i, ¬ (ya ≤ i ∧ i < ya + yl) → wasL (layL l ya (ya + yl) []) i (i + 1) = wasL l i (i + 1)) := fun i hi => was_lay_off HFT.out.can (show Ris ([] : List Xt) from trivial) hab (fun z hz => by simp at hz) hi
              generalize layL l ya (ya + yl) [] = l2 at *
              go_wp2_with fail
              refine hc.mono ?_
              rintro e w7 ⟨f, rfl, hM⟩
              have HM7 := hide (Mine.le (Th.Le.mono (Th.Le.refl _) (Th.Le.trans (Th.Le.rot _ _ _) (Th.Le.mono (Th.Le.refl _) (Th.Le.trans (Th.Le.swap _ _) (Th.Le.fst _ _))))) hM)
              clear hc hM HM6 x0 x1 x2 x3
              obtain ⟨x0, x1, x2, x3⟩ := objX (Mine.le (Th.Le.trans (Th.Le.trans (Th.Le.mono (Th.Le.refl _) (Th.Le.swap _ _)) (Th.Le.rot _ _ _)) (Th.Le.mono (Th.Le.refl _) (Th.Le.refl _))) HM7.out)
              have hc := find_mine ((mapT_good _ _).and (objT_good _ _)) HM7.out HF2.out ya yl hy1 (by omega)
              rw [HFI.out] at hc
              go_wp2_with fail
              refine hc.mono ?_
              rintro e w8 ⟨fa, fc, rfl, hfc, hM⟩
              have HM8 := hide hM
              clear hc hM x0 x1 x2 x3 HM7
              obtain ⟨x0, x1, x2, x3⟩ := objX (Mine.le (Th.Le.trans (Th.Le.trans (Th.Le.mono (Th.Le.refl _) (Th.Le.trans (Th.Le.mono (Th.Le.refl _) (Th.Le.swap _ _)) (Th.Le.rot _ _ _))) (Th.Le.rot _ _ _)) (Th.Le.mono (Th.Le.refl _) (Th.Le.refl _))) HM8.out)
              have hc := holes_mine ((listT_good _ _).and ((mapT_good _ _).and (objT_good _ _))) (Mine.le (Th.Le.trans (Th.Le.rot _ _ _) (Th.Le.mono (Th.Le.refl _) (Th.Le.refl _))) HM8.out) HF2.out ya yl hy1 (by omega)
              go_wp2_with fail
              refine hc.mono ?_
              rintro e w9 ⟨ha, ys, hcp, rfl, hhc, hset, hwi, hM⟩
              have HM9 := hide hM
              clear hc hM x0 x1 x2 x3 HM8
              obtain ⟨x0, x1, x2, x3⟩ := objX (Mine.le (Th.Le.trans (Th.Le.trans (Th.Le.mono (Th.Le.refl _) (Th.Le.trans (Th.Le.mono (Th.Le.refl _) (Th.Le.trans (Th.Le.mono (Th.Le.refl _) (Th.Le.swap _ _)) (Th.Le.rot _ _ _))) (Th.Le.rot _ _ _))) (Th.Le.rot _ _ _)) (Th.Le.mono (Th.Le.refl _) (Th.Le.refl _))) HM9.out)
              have hmay : Sp.mayB ((ya : Int), (yl : Int)) = true := Sp.mayB_ok ⟨by show (0 : Int) ≤ ya; omega, by show (1 : Int) ≤ yl; omega, by show (ya : Int) + yl ≤ 65536; omega⟩
              have hys : ys = [((ya : Int), (yl : Int))] := Sp.set_ext hset (setB_one hmay) fun i => by
                rw [hwi i, show Sp.wi [((ya : Int), (yl : Int))] i = (decide ((ya : Int) ≤ i) && decide (i < (ya : Int) + yl)) by simp [Sp.wi], Bool.and_eq_true, decide_eq_true_eq, decide_eq_true_eq]
                constructor
                · rintro ⟨j, rfl, q1, q2, q3⟩
                  omega
                · rintro ⟨q1, q2⟩
                  exact ⟨i.toNat, by omega, by omega, by omega, by rw [HSP.out, if_pos (by omega)]; rfl⟩
              have HOW : Hid (∀ w', Below w9.heap.size w9 w' → Sp.Sl w' ha ys.length ys) := fun w' hb => by
                obtain ⟨_, ⟨_, _, h1, _⟩, _⟩ := HM9.out
                obtain ⟨a2, c2, e2, _, hs⟩ := (h1.1.later hb).sl' (fun z hz => by rw [hys] at hz; simp at hz; subst hz; exact Sp.Fit.of_may hmay)
                injection e2 with e3 _ _
                rw [e3]
                exact hs
              have hbb := below_alloc w9 (.cells #[.int .i64 (ya : Nat), .int .i64 (yl : Nat)] 38)
              have hone := sl_one (Sp.Fit.of_may hmay) (heap_alloc_new w9 (.cells #[.int .i64 (ya : Nat), .int .i64 (yl : Nat)] 38))
              have hc := Sp.same_any ha (some ⟨w9.heap.size, 0, none⟩) ys.length 1 hcp 1 ys [((ya : Int), (yl : Int))] _ (HOW.out _ hbb) hone
              rw [decide_eq_true hys] at hc
              have HMA := hide (Mine.later ((ownT_good _ _).and ((mapT_good _ _).and ((listT_good _ _).and ((mapT_good _ _).and (objT_good _ _))))) HM9.out hbb)
              clear hset hwi hys hmay hone hbb HOW
              go_wp2_with fail
              refine hc.mono ?_
              rintro e w10 ⟨rfl, hb10⟩
              have HMB := hide (Mine.le (Th.Le.trans (Th.Le.rot _ _ _) (Th.Le.mono (Th.Le.refl _) (Th.Le.trans (Th.Le.trans (Th.Le.mono (Th.Le.refl _) (Th.Le.rot _ _ _)) (Th.Le.rot _ _ _)) (Th.Le.mono (Th.Le.refl _) (Th.Le.trans (Th.Le.trans (Th.Le.mono (Th.Le.refl _) (Th.Le.swap _ _)) (Th.Le.rot _ _ _)) (Th.Le.fst _ _)))))) (Mine.later ((ownT_good _ _).and ((mapT_good _ _).and ((listT_good _ _).and ((mapT_good _ _).and (objT_good _ _))))) HMA.out hb10))
              clear hc hb10 x0 x1 x2 x3 HM9 HMA
              obtain ⟨x0, x1, x2, x3⟩ := objX (Mine.le (Th.Le.trans (Th.Le.trans (Th.Le.mono (Th.Le.refl _) (Th.Le.swap _ _)) (Th.Le.rot _ _ _)) (Th.Le.mono (Th.Le.refl _) (Th.Le.refl _))) HMB.out)
              go_wp2
              go_loopw [15] (fun i wr => ∃ j : Nat, j ≤ 300 ∧ i = .int .i64 j ∧ Mine W wr ((mapT c l2).and ((mapT b l).and (objT W.heap.size (.cells #[.int .i64 (ya : Nat), .int .i64 (yl : Nat), .int .i64 (yq : Nat), .int .i64 (yt : Nat)] 40))))) (fun i _ => 300 - (intOf i).toNat)
              case atStart => exact ⟨0, Nat.zero_le _, rfl, HMB.out⟩
              case round =>
                clear x0 x1 x2 x3 HMB
                obtain ⟨j, hj, rfl, hM⟩ := hrel
                have HM := hide hM
                clear hM
                obtain ⟨x0, x1, x2, x3⟩ := objX (Mine.le (Th.Le.trans (Th.Le.trans (Th.Le.mono (Th.Le.refl _) (Th.Le.swap _ _)) (Th.Le.rot _ _ _)) (Th.Le.mono (Th.Le.refl _) (Th.Le.refl _))) HM.out)
                have hwr2 : IntKind.i64.wrap ((ya : Int) + (yl : Int)) = (ya : Int) + (yl : Int) := by rw [IntKind.wrap_i64]; omega
                by_cases hlt : j < 300
                · by_cases hge : ya ≤ j
                  · by_cases hle : j < ya + yl
                    · have hq1 : decide ((ya : Int) ≤ (j : Int)) = true := decide_eq_true (by omega)
                      have hq2 : decide ((j : Int) < (ya : Int) + (yl : Int)) = true := decide_eq_true (by omega)
                      go_wp2
                      go_roundw
                      case rel => exact ⟨j + 1, by omega, by go_num, HM.out⟩
                      case measure => simp [intOf]; omega
                    · have hq1 : decide ((ya : Int) ≤ (j : Int)) = true := decide_eq_true (by omega)
                      have hq2 : decide ((j : Int) < (ya : Int) + (yl : Int)) = false := decide_eq_false (by omega)
                      have HOF := hide (HOFF.out j (by omega))
                      have hc := find_mine ((mapT_good _ _).and (objT_good _ _)) (Mine.le (Th.Le.trans (Th.Le.rot _ _ _) (Th.Le.mono (Th.Le.refl _) (Th.Le.refl _))) HM.out) HFT.out j 1 (by omega) (by omega)
                      go_wp2_with fail
                      refine hc.mono ?_
                      rintro e w11 ⟨va, vc, rfl, hvc, hM⟩
                      have HM11 := hide (Mine.le (Th.Le.trans (Th.Le.trans (Th.Le.mono (Th.Le.refl _) (Th.Le.rot _ _ _)) (Th.Le.rot _ _ _)) (Th.Le.mono (Th.Le.refl _) (Th.Le.trans (Th.Le.rot _ _ _) (Th.Le.mono (Th.Le.refl _) (Th.Le.refl _))))) hM)
                      clear hc hM x0 x1 x2 x3 hq1 HM
                      have hc := find_mine ((mapT_good _ _).and ((listT_good _ _).and (objT_good _ _))) HM11.out HF2.out j 1 (by omega) (by omega)
                      rw [HOF.out] at hc
                      go_wp2_with fail
                      refine hc.mono ?_
                      rintro e w12 ⟨ua, uc, rfl, huc, hM⟩
                      have HM12 := hide hM
                      clear hc hM HM11
                      have hlen : (wasL l j (j + 1)).length ≤ 1000000 := Nat.le_trans (was_len _ _ _) (Nat.le_trans HFT.out.len (by omega))
                      have hc := same_mine (Mine.le (Th.Le.trans (Th.Le.trans (Th.Le.mono (Th.Le.refl _) (Th.Le.trans (Th.Le.mono (Th.Le.refl _) (Th.Le.rot _ _ _)) (Th.Le.rot _ _ _))) (Th.Le.rot _ _ _)) (Th.Le.mono (Th.Le.refl _) (Th.Le.refl _))) HM12.out) HM12.out hlen ((listT_good _ _).and ((mapT_good _ _).and ((mapT_good _ _).and ((listT_good _ _).and (objT_good _ _))))) HM12.out
                      clear hlen
                      go_wp2_with fail
                      refine hc.mono ?_
                      rintro e w13 ⟨rfl, hM⟩
                      have HM13 := hide (Mine.le (Th.Le.trans (Th.Le.rot _ _ _) (Th.Le.mono (Th.Le.refl _) (Th.Le.trans (Th.Le.rot _ _ _) (Th.Le.mono (Th.Le.refl _) (Th.Le.trans (Th.Le.trans (Th.Le.mono (Th.Le.refl _) (Th.Le.swap _ _)) (Th.Le.rot _ _ _)) (Th.Le.fst _ _)))))) hM)
                      clear hc hM HM12
                      go_wp2
                      go_roundw
                      case rel => exact ⟨j + 1, by omega, by go_num, HM13.out⟩
                      case measure => simp [intOf]; omega
                  · have hq1 : decide ((ya : Int) ≤ (j : Int)) = false := decide_eq_false (by omega)
                    have HOF := hide (HOFF.out j (by omega))
                    have hc := find_mine ((mapT_good _ _).and (objT_good _ _)) (Mine.le (Th.Le.trans (Th.Le.rot _ _ _) (Th.Le.mono (Th.Le.refl _) (Th.Le.refl _))) HM.out) HFT.out j 1 (by omega) (by omega)
                    go_wp2_with fail
                    refine hc.mono ?_
                    rintro e w11 ⟨va, vc, rfl, hvc, hM⟩
                    have HM11 := hide (Mine.le (Th.Le.trans (Th.Le.trans (Th.Le.mono (Th.Le.refl _) (Th.Le.rot _ _ _)) (Th.Le.rot _ _ _)) (Th.Le.mono (Th.Le.refl _) (Th.Le.trans (Th.Le.rot _ _ _) (Th.Le.mono (Th.Le.refl _) (Th.Le.refl _))))) hM)
                    clear hc hM x0 x1 x2 x3 hq1 HM
                    have hc := find_mine ((mapT_good _ _).and ((listT_good _ _).and (objT_good _ _))) HM11.out HF2.out j 1 (by omega) (by omega)
                    rw [HOF.out] at hc
                    go_wp2_with fail
                    refine hc.mono ?_
                    rintro e w12 ⟨ua, uc, rfl, huc, hM⟩
                    have HM12 := hide hM
                    clear hc hM HM11
                    have hlen : (wasL l j (j + 1)).length ≤ 1000000 := Nat.le_trans (was_len _ _ _) (Nat.le_trans HFT.out.len (by omega))
                    have hc := same_mine (Mine.le (Th.Le.trans (Th.Le.trans (Th.Le.mono (Th.Le.refl _) (Th.Le.trans (Th.Le.mono (Th.Le.refl _) (Th.Le.rot _ _ _)) (Th.Le.rot _ _ _))) (Th.Le.rot _ _ _)) (Th.Le.mono (Th.Le.refl _) (Th.Le.refl _))) HM12.out) HM12.out hlen ((listT_good _ _).and ((mapT_good _ _).and ((mapT_good _ _).and ((listT_good _ _).and (objT_good _ _))))) HM12.out
                    clear hlen
                    go_wp2_with fail
                    refine hc.mono ?_
                    rintro e w13 ⟨rfl, hM⟩
                    have HM13 := hide (Mine.le (Th.Le.trans (Th.Le.rot _ _ _) (Th.Le.mono (Th.Le.refl _) (Th.Le.trans (Th.Le.rot _ _ _) (Th.Le.mono (Th.Le.refl _) (Th.Le.trans (Th.Le.trans (Th.Le.mono (Th.Le.refl _) (Th.Le.swap _ _)) (Th.Le.rot _ _ _)) (Th.Le.fst _ _)))))) hM)
                    clear hc hM HM12
                    go_wp2
                    go_roundw
                    case rel => exact ⟨j + 1, by omega, by go_num, HM13.out⟩
                    case measure => simp [intOf]; omega
                · obtain rfl : j = 300 := by omega
                  clear x0 x1 x2 x3
                  have hc := awake_mine HM.out
                  go_wp2_with fail
                  refine hc.mono ?_
                  rintro e w9 ⟨rfl, hb9⟩
                  have HB9 := hide hb9
                  clear hc hb9
                  go_wp2
                  go_ret
                  exact ⟨rfl, HB9.out⟩
            | false =>
              have hc := put_new ((mapT_good _ _).and (objT_good _ _)) HM6.out HFT.out [⟨ya, yl, yq, yt⟩] (fun z hz => by simp at hz; subst hz; exact HYM.out) (by simp) 1 rfl #[.int .i64 (ya : Nat), .int .i64 (yl : Nat), .int .i64 (yq : Nat), .int .i64 (yt : Nat)] rfl
              rw [put_one_P] at hc
              have HF2 : Hid (Fit (layL l ya (ya + yl) [⟨ya, yl, yq, yt⟩])) := HFT.out.put HYS.out hy1
              have HFI : Hid (wasL (layL l ya (ya + yl) [⟨ya, yl, yq, yt⟩]) ya (ya + yl) = [⟨ya, yl, yq, yt⟩]) := was_lay_one (x := ⟨ya, yl, yq, yt⟩) HFT.out.can hy1
              have HSP : Hid (∀ i, spot (layL l ya (ya + yl) [⟨ya, yl, yq, yt⟩]) i = if ya ≤ i ∧ i < ya + yl then spot [⟨ya, yl, yq, yt⟩] i else spot l i) := fun i => lay_spot HFT.out.can.ris (one_ris hy1) hab (fun z hz => by simp at hz; subst hz; exact ⟨Nat.le_refl _, Nat.le_refl _⟩) i
              have HOFF : Hid (∀ i, ¬ (ya ≤ i ∧ i < ya + yl) → wasL (layL l ya (ya + yl) [⟨ya, yl, yq, yt⟩]) i (i + 1) = wasL l i (i + 1)) := fun i hi => was_lay_off HFT.out.can (one_ris hy1) hab (fun z hz => by simp at hz; subst hz; exact ⟨Nat.le_refl _, Nat.le_refl _⟩) hi
              have he2 : (layL l (Xt.at_ ⟨ya, yl, yq, yt⟩) (Xt.fin ⟨ya, yl, yq, yt⟩) [⟨ya, yl, yq, yt⟩], wasL l (Xt.at_ ⟨ya, yl, yq, yt⟩) (Xt.fin ⟨ya, yl, yq, yt⟩)) = (layL l ya (ya + yl) [⟨ya, yl, yq, yt⟩], wasL l ya (ya + yl)) := rfl
              rw [he2] at hc
              clear he2
              simp only at hc
              generalize layL l ya (ya + yl) [⟨ya, yl, yq, yt⟩] = l2 at *
              go_wp2_with fail
              refine hc.mono ?_
              rintro e w7 ⟨f, rfl, hM⟩
              have HM7 := hide (Mine.le (Th.Le.mono (Th.Le.refl _) (Th.Le.trans (Th.Le.rot _ _ _) (Th.Le.mono (Th.Le.refl _) (Th.Le.trans (Th.Le.swap _ _) (Th.Le.fst _ _))))) hM)
              clear hc hM HM6 x0 x1 x2 x3
              obtain ⟨x0, x1, x2, x3⟩ := objX (Mine.le (Th.Le.trans (Th.Le.trans (Th.Le.mono (Th.Le.refl _) (Th.Le.swap _ _)) (Th.Le.rot _ _ _)) (Th.Le.mono (Th.Le.refl _) (Th.Le.refl _))) HM7.out)
              have hc := find_mine ((mapT_good _ _).and (objT_good _ _)) HM7.out HF2.out ya yl hy1 (by omega)
              rw [HFI.out] at hc
              go_wp2_with fail
              refine hc.mono ?_
              rintro e w8 ⟨fa, fc, rfl, hfc, hM⟩
              have HM8 := hide hM
              clear hc hM x0 x1 x2 x3 HM7
              obtain ⟨x0, x1, x2, x3⟩ := objX (Mine.le (Th.Le.trans (Th.Le.trans (Th.Le.mono (Th.Le.refl _) (Th.Le.trans (Th.Le.mono (Th.Le.refl _) (Th.Le.swap _ _)) (Th.Le.rot _ _ _))) (Th.Le.rot _ _ _)) (Th.Le.mono (Th.Le.refl _) (Th.Le.refl _))) HM8.out)
              have hc := holes_mine ((listT_good _ _).and ((mapT_good _ _).and (objT_good _ _))) (Mine.le (Th.Le.trans (Th.Le.rot _ _ _) (Th.Le.mono (Th.Le.refl _) (Th.Le.refl _))) HM8.out) HF2.out ya yl hy1 (by omega)
              go_wp2_with fail
              refine hc.mono ?_
              rintro e w9 ⟨ha, ys, hcp, rfl, hhc, hset, hwi, hM⟩
              have HM9 := hide hM
              clear hc hM x0 x1 x2 x3 HM8
              obtain ⟨x0, x1, x2, x3⟩ := objX (Mine.le (Th.Le.trans (Th.Le.trans (Th.Le.mono (Th.Le.refl _) (Th.Le.trans (Th.Le.mono (Th.Le.refl _) (Th.Le.trans (Th.Le.mono (Th.Le.refl _) (Th.Le.swap _ _)) (Th.Le.rot _ _ _))) (Th.Le.rot _ _ _))) (Th.Le.rot _ _ _)) (Th.Le.mono (Th.Le.refl _) (Th.Le.refl _))) HM9.out)
              have hys : ys = [] := Sp.set_ext hset (Sp.setB_true fun k hk => by simp at hk) fun i => by
                rw [hwi i]
                constructor
                · rintro ⟨j, rfl, q1, q2, q3⟩
                  rw [HSP.out, if_pos ⟨q1, q2⟩, one_spot, if_pos ⟨q1, q2⟩] at q3
                  cases q3
                · intro q
                  simp [Sp.wi] at q
              subst hys
              have hM10 := Mine.obj ((ownT_good _ _).and ((mapT_good _ _).and ((listT_good _ _).and ((mapT_good _ _).and (objT_good _ _))))) HM9.out (.cells #[.int .i64 (ya : Nat), .int .i64 (yl : Nat), .int .i64 (yq : Nat), .int .i64 (yt : Nat)] 40)
              have hX10 := (Mine.xs (Mine.le (Th.Le.trans (Th.Le.trans (Th.Le.mono (Th.Le.refl _) (Th.Le.rot _ _ _)) (Th.Le.rot _ _ _)) (Th.Le.mono (Th.Le.refl _) (Th.Le.refl _))) HM9.out)).later (below_alloc w9 (.cells #[.int .i64 (ya : Nat), .int .i64 (yl : Nat), .int .i64 (yq : Nat), .int .i64 (yt : Nat)] 40))
              have hY10 := xs_block (l := [⟨ya, yl, yq, yt⟩]) (heap_alloc_new w9 (.cells #[.int .i64 (ya : Nat), .int .i64 (yl : Nat), .int .i64 (yq : Nat), .int .i64 (yt : Nat)] 40)) (by simp)
              have hc := same_yes hX10 hY10 (by simp)
              have HMA := hide hM10
              clear hset hwi hM10 hX10 hY10
              simp only [List.length_cons, List.length_nil, Nat.zero_add] at hc
              go_wp2_with fail
              refine hc.mono ?_
              rintro e w10 ⟨rfl, hb10⟩
              have HMB := hide (Mine.le (Th.Le.trans (Th.Le.trans (Th.Le.mono (Th.Le.refl _) (Th.Le.rot _ _ _)) (Th.Le.rot _ _ _)) (Th.Le.mono (Th.Le.refl _) (Th.Le.trans (Th.Le.trans (Th.Le.mono (Th.Le.refl _) (Th.Le.trans (Th.Le.mono (Th.Le.refl _) (Th.Le.rot _ _ _)) (Th.Le.rot _ _ _))) (Th.Le.rot _ _ _)) (Th.Le.mono (Th.Le.refl _) (Th.Le.trans (Th.Le.trans (Th.Le.mono (Th.Le.refl _) (Th.Le.trans (Th.Le.mono (Th.Le.refl _) (Th.Le.swap _ _)) (Th.Le.rot _ _ _))) (Th.Le.rot _ _ _)) (Th.Le.fst _ _)))))) (Mine.later ((objT_good _ _).and ((ownT_good _ _).and ((mapT_good _ _).and ((listT_good _ _).and ((mapT_good _ _).and (objT_good _ _)))))) HMA.out hb10))
              clear hc hb10 x0 x1 x2 x3 HM9 HMA
              obtain ⟨x0, x1, x2, x3⟩ := objX (Mine.le (Th.Le.trans (Th.Le.trans (Th.Le.mono (Th.Le.refl _) (Th.Le.swap _ _)) (Th.Le.rot _ _ _)) (Th.Le.mono (Th.Le.refl _) (Th.Le.refl _))) HMB.out)
              go_wp2
              go_loopw [15] (fun i wr => ∃ j : Nat, j ≤ 300 ∧ i = .int .i64 j ∧ Mine W wr ((mapT c l2).and ((mapT b l).and (objT W.heap.size (.cells #[.int .i64 (ya : Nat), .int .i64 (yl : Nat), .int .i64 (yq : Nat), .int .i64 (yt : Nat)] 40))))) (fun i _ => 300 - (intOf i).toNat)
              case atStart => exact ⟨0, Nat.zero_le _, rfl, HMB.out⟩
              case round =>
                clear x0 x1 x2 x3 HMB
                obtain ⟨j, hj, rfl, hM⟩ := hrel
                have HM := hide hM
                clear hM
                obtain ⟨x0, x1, x2, x3⟩ := objX (Mine.le (Th.Le.trans (Th.Le.trans (Th.Le.mono (Th.Le.refl _) (Th.Le.swap _ _)) (Th.Le.rot _ _ _)) (Th.Le.mono (Th.Le.refl _) (Th.Le.refl _))) HM.out)
                have hwr2 : IntKind.i64.wrap ((ya : Int) + (yl : Int)) = (ya : Int) + (yl : Int) := by rw [IntKind.wrap_i64]; omega
                by_cases hlt : j < 300
                · by_cases hge : ya ≤ j
                  · by_cases hle : j < ya + yl
                    · have hq1 : decide ((ya : Int) ≤ (j : Int)) = true := decide_eq_true (by omega)
                      have hq2 : decide ((j : Int) < (ya : Int) + (yl : Int)) = true := decide_eq_true (by omega)
                      go_wp2
                      go_roundw
                      case rel => exact ⟨j + 1, by omega, by go_num, HM.out⟩
                      case measure => simp [intOf]; omega
                    · have hq1 : decide ((ya : Int) ≤ (j : Int)) = true := decide_eq_true (by omega)
                      have hq2 : decide ((j : Int) < (ya : Int) + (yl : Int)) = false := decide_eq_false (by omega)
                      have HOF := hide (HOFF.out j (by omega))
                      have hc := find_mine ((mapT_good _ _).and (objT_good _ _)) (Mine.le (Th.Le.trans (Th.Le.rot _ _ _) (Th.Le.mono (Th.Le.refl _) (Th.Le.refl _))) HM.out) HFT.out j 1 (by omega) (by omega)
                      go_wp2_with fail
                      refine hc.mono ?_
                      rintro e w11 ⟨va, vc, rfl, hvc, hM⟩
                      have HM11 := hide (Mine.le (Th.Le.trans (Th.Le.trans (Th.Le.mono (Th.Le.refl _) (Th.Le.rot _ _ _)) (Th.Le.rot _ _ _)) (Th.Le.mono (Th.Le.refl _) (Th.Le.trans (Th.Le.rot _ _ _) (Th.Le.mono (Th.Le.refl _) (Th.Le.refl _))))) hM)
                      clear hc hM x0 x1 x2 x3 hq1 HM
                      have hc := find_mine ((mapT_good _ _).and ((listT_good _ _).and (objT_good _ _))) HM11.out HF2.out j 1 (by omega) (by omega)
                      rw [HOF.out] at hc
                      go_wp2_with fail
                      refine hc.mono ?_
                      rintro e w12 ⟨ua, uc, rfl, huc, hM⟩
                      have HM12 := hide hM
                      clear hc hM HM11
                      have hlen : (wasL l j (j + 1)).length ≤ 1000000 := Nat.le_trans (was_len _ _ _) (Nat.le_trans HFT.out.len (by omega))
                      have hc := same_mine (Mine.le (Th.Le.trans (Th.Le.trans (Th.Le.mono (Th.Le.refl _) (Th.Le.trans (Th.Le.mono (Th.Le.refl _) (Th.Le.rot _ _ _)) (Th.Le.rot _ _ _))) (Th.Le.rot _ _ _)) (Th.Le.mono (Th.Le.refl _) (Th.Le.refl _))) HM12.out) HM12.out hlen ((listT_good _ _).and ((mapT_good _ _).and ((mapT_good _ _).and ((listT_good _ _).and (objT_good _ _))))) HM12.out
                      clear hlen
                      go_wp2_with fail
                      refine hc.mono ?_
                      rintro e w13 ⟨rfl, hM⟩
                      have HM13 := hide (Mine.le (Th.Le.trans (Th.Le.rot _ _ _) (Th.Le.mono (Th.Le.refl _) (Th.Le.trans (Th.Le.rot _ _ _) (Th.Le.mono (Th.Le.refl _) (Th.Le.trans (Th.Le.trans (Th.Le.mono (Th.Le.refl _) (Th.Le.swap _ _)) (Th.Le.rot _ _ _)) (Th.Le.fst _ _)))))) hM)
                      clear hc hM HM12
                      go_wp2
                      go_roundw
                      case rel => exact ⟨j + 1, by omega, by go_num, HM13.out⟩
                      case measure => simp [intOf]; omega
                  · have hq1 : decide ((ya : Int) ≤ (j : Int)) = false := decide_eq_false (by omega)
                    have HOF := hide (HOFF.out j (by omega))
                    have hc := find_mine ((mapT_good _ _).and (objT_good _ _)) (Mine.le (Th.Le.trans (Th.Le.rot _ _ _) (Th.Le.mono (Th.Le.refl _) (Th.Le.refl _))) HM.out) HFT.out j 1 (by omega) (by omega)
                    go_wp2_with fail
                    refine hc.mono ?_
                    rintro e w11 ⟨va, vc, rfl, hvc, hM⟩
                    have HM11 := hide (Mine.le (Th.Le.trans (Th.Le.trans (Th.Le.mono (Th.Le.refl _) (Th.Le.rot _ _ _)) (Th.Le.rot _ _ _)) (Th.Le.mono (Th.Le.refl _) (Th.Le.trans (Th.Le.rot _ _ _) (Th.Le.mono (Th.Le.refl _) (Th.Le.refl _))))) hM)
                    clear hc hM x0 x1 x2 x3 hq1 HM
                    have hc := find_mine ((mapT_good _ _).and ((listT_good _ _).and (objT_good _ _))) HM11.out HF2.out j 1 (by omega) (by omega)
                    rw [HOF.out] at hc
                    go_wp2_with fail
                    refine hc.mono ?_
                    rintro e w12 ⟨ua, uc, rfl, huc, hM⟩
                    have HM12 := hide hM
                    clear hc hM HM11
                    have hlen : (wasL l j (j + 1)).length ≤ 1000000 := Nat.le_trans (was_len _ _ _) (Nat.le_trans HFT.out.len (by omega))
                    have hc := same_mine (Mine.le (Th.Le.trans (Th.Le.trans (Th.Le.mono (Th.Le.refl _) (Th.Le.trans (Th.Le.mono (Th.Le.refl _) (Th.Le.rot _ _ _)) (Th.Le.rot _ _ _))) (Th.Le.rot _ _ _)) (Th.Le.mono (Th.Le.refl _) (Th.Le.refl _))) HM12.out) HM12.out hlen ((listT_good _ _).and ((mapT_good _ _).and ((mapT_good _ _).and ((listT_good _ _).and (objT_good _ _))))) HM12.out
                    clear hlen
                    go_wp2_with fail
                    refine hc.mono ?_
                    rintro e w13 ⟨rfl, hM⟩
                    have HM13 := hide (Mine.le (Th.Le.trans (Th.Le.rot _ _ _) (Th.Le.mono (Th.Le.refl _) (Th.Le.trans (Th.Le.rot _ _ _) (Th.Le.mono (Th.Le.refl _) (Th.Le.trans (Th.Le.trans (Th.Le.mono (Th.Le.refl _) (Th.Le.swap _ _)) (Th.Le.rot _ _ _)) (Th.Le.fst _ _)))))) hM)
                    clear hc hM HM12
                    go_wp2
                    go_roundw
                    case rel => exact ⟨j + 1, by omega, by go_num, HM13.out⟩
                    case measure => simp [intOf]; omega
                · obtain rfl : j = 300 := by omega
                  clear x0 x1 x2 x3
                  have hc := awake_mine HM.out
                  go_wp2_with fail
                  refine hc.mono ?_
                  rintro e w9 ⟨rfl, hb9⟩
                  have HB9 := hide hb9
                  clear hc hb9
                  go_wp2
                  go_ret
                  exact ⟨rfl, HB9.out⟩

end Wi
end Go.Proofs.Ytjbgojccfkmlnaa
