/- The law ExtmapAgain, walked. -/
import Derived.Test.YtjbgojccfkmlnaaLm
import Derived.Test.YtjbgojccfkmlnaaSx
namespace Go.Proofs.Ytjbgojccfkmlnaa
open Go.RowKit
namespace Wi

set_option maxRecDepth 100000 in
set_option maxHeartbeats 16000000 in
theorem extmapAgain_walk (a : Option Addr) (n cap : Nat) (os : List OpV) (x : Ix) (at_ : Int) (W : World) (h : Os W a n os) (hn : n ≤ cap) (hx : x.Rng) (hat : I64 at_) : Calls Try.prog 9 #[.slice a n cap, .agg #[.int .i64 x.a, .int .i64 x.n, .int .i64 x.q, .int .i64 x.t], .int .i64 at_] W fun e w' => e = .returned (.bool true) ∧ Below W.heap.size W w' := by
  have HAT := hide hat
  clear hat
  have HO := hide h
  have HLn := hide h.len
  have hmost := h.most
  have HR := hide hx
  clear h
  obtain ⟨xa, xn, xq, xt⟩ := x
  simp only at *
  have hM0 : Mine W (W.alloc (.cells #[.int .i64 xa, .int .i64 xn, .int .i64 xq, .int .i64 xt] 40)) (objT W.heap.size (.cells #[.int .i64 xa, .int .i64 xn, .int .i64 xq, .int .i64 xt] 40)) := ⟨_, objT_new W _, fun k hk => by rw [hk]; exact Nat.le_refl _, below_alloc W _⟩
  have hc := new_mine (objT_good _ _) hM0
  have HI1 : Hid (I64 xa) := HR.out.a
  have HI2 : Hid (I64 xn) := HR.out.n
  clear hM0 hx
  go_enter Try.func9, Try.ntmps9
  go_wp2_with fail
  refine hc.mono ?_
  rintro e w1 ⟨b, rfl, hM⟩
  have HM1 := hide hM
  clear hc hM
  have hc := few_mine ((mapT_good _ _).and (objT_good _ _)) HM1.out HO.out hn
  cases hf : fewB os with
  | false =>
    rw [hf] at hc
    clear hf
    go_wp2_with fail
    refine hc.mono ?_
    rintro e w2 ⟨rfl, hM⟩
    have HM2 := hide hM
    clear hc hM
    have hc := awake_mine HM2.out
    go_wp2_with fail
    refine hc.mono ?_
    rintro e w9 ⟨rfl, hb9⟩
    have HB9 := hide hb9
    clear hc hb9
    go_wp2
    go_ret
    exact ⟨rfl, HB9.out⟩
  | true =>
    rw [hf] at hc
    have HFEW := hide hf
    clear hf
    go_wp2_with fail
    refine hc.mono ?_
    rintro e w2 ⟨rfl, hM⟩
    have HM2 := hide hM
    clear hc hM
    obtain ⟨x0, x1, x2, x3⟩ := objX (Mine.le (Th.Le.swap _ _) HM2.out)
    have hc := may_mine ((mapT_good _ _).and (objT_good _ _)) HM2.out xa xn xq xt HI1.out HI2.out
    cases hmx : mayX xa xn xq xt with
    | false =>
      rw [hmx] at hc
      clear hmx
      go_wp2_with fail
      refine hc.mono ?_
      rintro e w3 ⟨rfl, hM⟩
      have HM3 := hide hM
      clear hc hM
      have hc := awake_mine HM3.out
      go_wp2_with fail
      refine hc.mono ?_
      rintro e w9 ⟨rfl, hb9⟩
      have HB9 := hide hb9
      clear hc hb9
      go_wp2
      go_ret
      exact ⟨rfl, HB9.out⟩
    | true =>
      rw [hmx] at hc
      have HMX : Hid (Ix.may ⟨xa, xn, xq, xt⟩ = true) := hmx
      clear hmx
      go_wp2_with fail
      refine hc.mono ?_
      rintro e w3 ⟨rfl, hM⟩
      have HM3 := hide hM
      clear hc hM x0 x1 x2 x3
      obtain ⟨x0, x1, x2, x3⟩ := objX (Mine.le (Th.Le.swap _ _) HM3.out)
      have hc := far_mine ((mapT_good _ _).and (objT_good _ _)) HM3.out xa xn xq xt HI1.out HI2.out
      cases hfar : farB xa xn with
      | true =>
        rw [hfar] at hc
        clear hfar
        go_wp2_with fail
        refine hc.mono ?_
        rintro e w4 ⟨rfl, hM⟩
        have HM4 := hide hM
        clear hc hM x0 x1 x2 x3
        have hc := awake_mine HM4.out
        go_wp2_with fail
        refine hc.mono ?_
        rintro e w9 ⟨rfl, hb9⟩
        have HB9 := hide hb9
        clear hc hb9
        go_wp2
        go_ret
        exact ⟨rfl, HB9.out⟩
      | false =>
        rw [hfar] at hc
        obtain ⟨y, hy, hym, hys, hy1, hy3⟩ := near_x HMX.out hfar
        obtain ⟨ya, yl, yq, yt⟩ := y
        simp only [Xt.ix] at hy
        injection hy with q1 q2 q3 q4
        subst q1 q2 q3 q4
        have hy33 := hy3
        unfold Xt.fin at hy3
        simp only at hy1 hy3
        have HYM := hide hym
        have HYS := hide hys
        clear hfar hym hys
        go_wp2_with fail
        refine hc.mono ?_
        rintro e w4 ⟨rfl, hM⟩
        have HM4 := hide hM
        clear hc hM x0 x1 x2 x3
        obtain ⟨x0, x1, x2, x3⟩ := objX (Mine.le (Th.Le.swap _ _) HM4.out)
        have hs3 := HYS.out.2.2
        simp only at hs3
        have hwr0 : IntKind.i64.wrap ((yt : Int) + (yl : Int)) = (yt : Int) + (yl : Int) := by rw [IntKind.wrap_i64]; omega
        by_cases hov : yt + yl < 1099511627776
        case neg =>
          have hd0 : decide ((1099511627776 : Int) ≤ (yt : Int) + (yl : Int)) = true := decide_eq_true (by omega)
          have hc := awake_mine HM4.out
          go_wp2_with fail
          refine hc.mono ?_
          rintro e w9 ⟨rfl, hb9⟩
          have HB9 := hide hb9
          clear hc hb9
          go_wp2
          go_ret
          exact ⟨rfl, HB9.out⟩
        case pos =>
        have hd0 : decide ((1099511627776 : Int) ≤ (yt : Int) + (yl : Int)) = false := decide_eq_false (by omega)
        have hc := refnew_mine ((mapT_good _ _).and (objT_good _ _)) HM4.out
        go_wp2_with fail
        refine hc.mono ?_
        rintro e w5 ⟨r, rfl, hM⟩
        have HM5 := hide (Mine.le (Th.Le.trans (Th.Le.rot _ _ _) (Th.Le.mono (Th.Le.refl _) (Th.Le.refl _))) hM)
        clear hc hM
        go_wp2
        go_loopw [9] (fun i wr => ∃ m : Nat, m ≤ n ∧ i = .int .i64 m ∧ ∃ l d, Inv l d ∧ Mine W wr ((mapT b l).and ((refT r 300 d).and (objT W.heap.size (.cells #[.int .i64 (ya : Nat), .int .i64 (yl : Nat), .int .i64 (yq : Nat), .int .i64 (yt : Nat)] 40))))) (fun i _ => n - (intOf i).toNat)
        case atStart => exact ⟨0, Nat.zero_le _, rfl, [], rf0, Inv.start, HM5.out⟩
        case round =>
          clear HM5 HM1 HM2 HM3 HM4
          obtain ⟨m, hm, rfl, l, d, hI, hM⟩ := hrel
          have HM := hide hM
          have HI := hide hI
          clear hM hI
          by_cases hlt : m < n
          · obtain ⟨o, ho⟩ : ∃ o, os[m]? = some o := ⟨_, List.getElem?_eq_getElem (by have := HLn.out; omega)⟩
            obtain ⟨g, off, rfl, hg, e0, e1, e2, e3⟩ := (HO.out.later HM.out.below).at ho
            have hc := does_any (objT_good _ _) HM.out HI.out (HO.out.ok o (List.mem_of_getElem? ho)) (fewB_at HFEW.out (List.mem_of_getElem? ho))
            obtain ⟨ask, la, ln, lc, q, t, xs⟩ := o
            unfold OpV.cells at hc
            simp only at e0 e1 e2 e3 hc
            clear ho HM HI
            go_wp2_with fail
            refine hc.mono ?_
            rintro e w6 ⟨rfl, l2, d2, hI2, hM2⟩
            have HM6 := hide hM2
            have HI6 := hide hI2
            clear hc hM2 hI2 e0 e1 e2 e3
            go_wp2
            go_roundw
            case rel => exact ⟨m + 1, by omega, by go_num, l2, d2, HI6.out, HM6.out⟩
            case measure => simp [intOf]; omega
          · obtain rfl : m = n := by omega
            have HFT := hide HI.out.fit
            have HF3 : Hid (∀ y ∈ l, y.fin ≤ 300) := rel_fin HI.out.fit.can HI.out.rel
            have HMN := hide (Mine.le (Th.Le.mono (Th.Le.refl _) (Th.Le.trans (Th.Le.swap _ _) (Th.Le.fst _ _))) HM.out)
            clear HM HI hlt hm
            have hc := copy_mine (objT_good _ _) HMN.out HFT.out
            go_wp2_with fail
            refine hc.mono ?_
            rintro e w6 ⟨c, rfl, hM⟩
            have HM6 := hide (Mine.le (Th.Le.trans (Th.Le.rot _ _ _) (Th.Le.mono (Th.Le.refl _) (Th.Le.refl _))) hM)
            clear hc hM HMN
            obtain ⟨x0, x1, x2, x3⟩ := objX (Mine.le (Th.Le.trans (Th.Le.trans (Th.Le.mono (Th.Le.refl _) (Th.Le.swap _ _)) (Th.Le.rot _ _ _)) (Th.Le.mono (Th.Le.refl _) (Th.Le.refl _))) HM6.out)
            have hab : ya ≤ ya + yl := by omega
            have hc := put_new ((mapT_good _ _).and (objT_good _ _)) HM6.out HFT.out [⟨ya, yl, yq, yt⟩] (fun z hz => by simp at hz; subst hz; exact HYM.out) (by simp) 1 rfl #[.int .i64 (ya : Nat), .int .i64 (yl : Nat), .int .i64 (yq : Nat), .int .i64 (yt : Nat)] rfl
            have he2 : putP l [⟨ya, yl, yq, yt⟩] = (layL l ya (ya + yl) [⟨ya, yl, yq, yt⟩], wasL l ya (ya + yl)) := rfl
            rw [he2] at hc
            simp only at hc
            have HF2 : Hid (Fit (layL l ya (ya + yl) [⟨ya, yl, yq, yt⟩])) := HFT.out.put HYS.out hy1
            have HAG : Hid (putP (layL l ya (ya + yl) [⟨ya, yl, yq, yt⟩]) [⟨ya, yl, yq, yt⟩] = (layL l ya (ya + yl) [⟨ya, yl, yq, yt⟩], [⟨ya, yl, yq, yt⟩])) := by
              show _ = _
              have e1 : putP (layL l ya (ya + yl) [⟨ya, yl, yq, yt⟩]) [⟨ya, yl, yq, yt⟩] = (layL (layL l ya (ya + yl) [⟨ya, yl, yq, yt⟩]) ya (ya + yl) [⟨ya, yl, yq, yt⟩], wasL (layL l ya (ya + yl) [⟨ya, yl, yq, yt⟩]) ya (ya + yl)) := rfl
              rw [e1]
              have e2 := lay_again (x := ⟨ya, yl, yq, yt⟩) HFT.out.can hy1
              have e3 := was_lay_one (x := ⟨ya, yl, yq, yt⟩) HFT.out.can hy1
              exact Prod.ext e2 e3
            have HPT : Hid (∀ k : Nat, 1 ≤ k → k < yl → (putP l [⟨ya + k, yl - k, yq, yt + k⟩, ⟨ya, k, yq, yt⟩]).1 = layL l ya (ya + yl) [⟨ya, yl, yq, yt⟩]) := fun k h1 h2 => lay_parts (x := ⟨ya, yl, yq, yt⟩) HFT.out.can h1 h2
            clear he2
            generalize layL l ya (ya + yl) [⟨ya, yl, yq, yt⟩] = l2 at *
            go_wp2_with fail
            refine hc.mono ?_
            rintro e w7 ⟨f, rfl, hM⟩
            have HM7 := hide (Mine.le (Th.Le.mono (Th.Le.refl _) (Th.Le.trans (Th.Le.rot _ _ _) (Th.Le.mono (Th.Le.refl _) (Th.Le.trans (Th.Le.swap _ _) (Th.Le.fst _ _))))) hM)
            clear hc hM HM6 x0 x1 x2 x3
            have hc := all_mine ((mapT_good _ _).and (objT_good _ _)) HM7.out HF2.out
            go_wp2_with fail
            refine hc.mono ?_
            rintro e w8 ⟨va, vc, rfl, hvc, hM⟩
            have HM8 := hide hM
            clear hc hM HM7
            obtain ⟨x0, x1, x2, x3⟩ := objX (Mine.le (Th.Le.trans (Th.Le.trans (Th.Le.mono (Th.Le.refl _) (Th.Le.trans (Th.Le.mono (Th.Le.refl _) (Th.Le.swap _ _)) (Th.Le.rot _ _ _))) (Th.Le.rot _ _ _)) (Th.Le.mono (Th.Le.refl _) (Th.Le.refl _))) HM8.out)
            have hc := put_new ((listT_good _ _).and ((mapT_good _ _).and (objT_good _ _))) (Mine.le (Th.Le.trans (Th.Le.rot _ _ _) (Th.Le.mono (Th.Le.refl _) (Th.Le.refl _))) HM8.out) HF2.out [⟨ya, yl, yq, yt⟩] (fun z hz => by simp at hz; subst hz; exact HYM.out) (by simp) 1 rfl #[.int .i64 (ya : Nat), .int .i64 (yl : Nat), .int .i64 (yq : Nat), .int .i64 (yt : Nat)] rfl
            rw [HAG.out] at hc
            simp only at hc
            go_wp2_with fail
            refine hc.mono ?_
            rintro e w9 ⟨f2, rfl, hM⟩
            have HM9 := hide hM
            clear hc hM HM8 x0 x1 x2 x3
            obtain ⟨x0, x1, x2, x3⟩ := objX (Mine.le (Th.Le.trans (Th.Le.trans (Th.Le.mono (Th.Le.refl _) (Th.Le.trans (Th.Le.mono (Th.Le.refl _) (Th.Le.trans (Th.Le.mono (Th.Le.refl _) (Th.Le.swap _ _)) (Th.Le.rot _ _ _))) (Th.Le.rot _ _ _))) (Th.Le.rot _ _ _)) (Th.Le.mono (Th.Le.refl _) (Th.Le.refl _))) HM9.out)
            have hM10 := Mine.obj ((mapT_good _ _).and ((listT_good _ _).and ((listT_good _ _).and ((mapT_good _ _).and (objT_good _ _))))) HM9.out (.cells #[.int .i64 (ya : Nat), .int .i64 (yl : Nat), .int .i64 (yq : Nat), .int .i64 (yt : Nat)] 40)
            have hX10 := (Mine.xs (Mine.le (Th.Le.trans (Th.Le.rot _ _ _) (Th.Le.mono (Th.Le.refl _) (Th.Le.refl _))) HM9.out)).later (below_alloc w9 (.cells #[.int .i64 (ya : Nat), .int .i64 (yl : Nat), .int .i64 (yq : Nat), .int .i64 (yt : Nat)] 40))
            have hY10 := xs_block (l := [⟨ya, yl, yq, yt⟩]) (heap_alloc_new w9 (.cells #[.int .i64 (ya : Nat), .int .i64 (yl : Nat), .int .i64 (yq : Nat), .int .i64 (yt : Nat)] 40)) (by simp)
            have hc := same_yes hX10 hY10 (by simp)
            have HMA := hide hM10
            clear hM10 hX10 hY10
            simp only [List.length_cons, List.length_nil, Nat.zero_add] at hc
            go_wp2_with fail
            refine hc.mono ?_
            rintro e w10 ⟨rfl, hb10⟩
            have HMB := hide (Mine.le (Th.Le.trans (Th.Le.rot _ _ _) (Th.Le.mono (Th.Le.refl _) (Th.Le.trans (Th.Le.trans (Th.Le.mono (Th.Le.refl _) (Th.Le.rot _ _ _)) (Th.Le.rot _ _ _)) (Th.Le.mono (Th.Le.refl _) (Th.Le.trans (Th.Le.trans (Th.Le.mono (Th.Le.refl _) (Th.Le.rot _ _ _)) (Th.Le.rot _ _ _)) (Th.Le.mono (Th.Le.refl _) (Th.Le.trans (Th.Le.trans (Th.Le.mono (Th.Le.refl _) (Th.Le.swap _ _)) (Th.Le.rot _ _ _)) (Th.Le.fst _ _)))))))) (Mine.later ((objT_good _ _).and ((mapT_good _ _).and ((listT_good _ _).and ((listT_good _ _).and ((mapT_good _ _).and (objT_good _ _)))))) HMA.out hb10))
            clear hc hb10 x0 x1 x2 x3 HM9 HMA
            have hc := all_mine ((listT_good _ _).and ((mapT_good _ _).and (objT_good _ _))) HMB.out HF2.out
            go_wp2_with fail
            refine hc.mono ?_
            rintro e w11 ⟨ua, uc, rfl, huc, hM⟩
            have HMC := hide hM
            clear hc hM HMB
            have hlen : l2.length ≤ 1000000 := Nat.le_trans HF2.out.len (by omega)
            have hc := same_mine HMC.out (Mine.le (Th.Le.trans (Th.Le.trans (Th.Le.mono (Th.Le.refl _) (Th.Le.rot _ _ _)) (Th.Le.rot _ _ _)) (Th.Le.mono (Th.Le.refl _) (Th.Le.refl _))) HMC.out) hlen ((listT_good _ _).and ((mapT_good _ _).and ((listT_good _ _).and ((mapT_good _ _).and (objT_good _ _))))) HMC.out
            clear hlen
            go_wp2_with fail
            refine hc.mono ?_
            rintro e w12 ⟨rfl, hM⟩
            have HMD := hide (Mine.le (Th.Le.trans (Th.Le.rot _ _ _) (Th.Le.mono (Th.Le.refl _) (Th.Le.trans (Th.Le.rot _ _ _) (Th.Le.mono (Th.Le.refl _) (Th.Le.trans (Th.Le.rot _ _ _) (Th.Le.mono (Th.Le.refl _) (Th.Le.trans (Th.Le.swap _ _) (Th.Le.fst _ _)))))))) hM)
            clear hc hM HMC
            obtain ⟨x0, x1, x2, x3⟩ := objX (Mine.le (Th.Le.trans (Th.Le.trans (Th.Le.mono (Th.Le.refl _) (Th.Le.trans (Th.Le.mono (Th.Le.refl _) (Th.Le.swap _ _)) (Th.Le.rot _ _ _))) (Th.Le.rot _ _ _)) (Th.Le.mono (Th.Le.refl _) (Th.Le.refl _))) HMD.out)
            by_cases ht1 : at_ < 1
            · have hd1 : decide (at_ < 1) = true := decide_eq_true ht1
              have hc := awake_mine HMD.out
              go_wp2_with fail
              refine hc.mono ?_
              rintro e w9 ⟨rfl, hb9⟩
              have HB9 := hide hb9
              clear hc hb9
              go_wp2
              go_ret
              exact ⟨rfl, HB9.out⟩
            · have hd1 : decide (at_ < 1) = false := decide_eq_false ht1
              by_cases ht2 : (yl : Int) ≤ at_
              · have hd2 : decide ((yl : Int) ≤ at_) = true := decide_eq_true ht2
                have hc := awake_mine HMD.out
                go_wp2_with fail
                refine hc.mono ?_
                rintro e w9 ⟨rfl, hb9⟩
                have HB9 := hide hb9
                clear hc hb9
                go_wp2
                go_ret
                exact ⟨rfl, HB9.out⟩
              · have hd2 : decide ((yl : Int) ≤ at_) = false := decide_eq_false ht2
                obtain ⟨k, rfl⟩ : ∃ k : Nat, at_ = k := ⟨at_.toNat, by omega⟩
                have hk1 : 1 ≤ k := by omega
                have hk2 : k < yl := by omega
                have X0 : ∀ P : Later w12, _ := fun P => (objX (Mine.le (Th.Le.trans (Th.Le.trans (Th.Le.mono (Th.Le.refl _) (Th.Le.trans (Th.Le.mono (Th.Le.refl _) (Th.Le.swap _ _)) (Th.Le.rot _ _ _))) (Th.Le.rot _ _ _)) (Th.Le.mono (Th.Le.refl _) (Th.Le.refl _))) (Mine.later ((mapT_good _ _).and ((listT_good _ _).and ((mapT_good _ _).and (objT_good _ _)))) HMD.out P.below))).1
                have X1 : ∀ P : Later w12, _ := fun P => (objX (Mine.le (Th.Le.trans (Th.Le.trans (Th.Le.mono (Th.Le.refl _) (Th.Le.trans (Th.Le.mono (Th.Le.refl _) (Th.Le.swap _ _)) (Th.Le.rot _ _ _))) (Th.Le.rot _ _ _)) (Th.Le.mono (Th.Le.refl _) (Th.Le.refl _))) (Mine.later ((mapT_good _ _).and ((listT_good _ _).and ((mapT_good _ _).and (objT_good _ _)))) HMD.out P.below))).2.1
                have X2 : ∀ P : Later w12, _ := fun P => (objX (Mine.le (Th.Le.trans (Th.Le.trans (Th.Le.mono (Th.Le.refl _) (Th.Le.trans (Th.Le.mono (Th.Le.refl _) (Th.Le.swap _ _)) (Th.Le.rot _ _ _))) (Th.Le.rot _ _ _)) (Th.Le.mono (Th.Le.refl _) (Th.Le.refl _))) (Mine.later ((mapT_good _ _).and ((listT_good _ _).and ((mapT_good _ _).and (objT_good _ _)))) HMD.out P.below))).2.2.1
                have X3 : ∀ P : Later w12, _ := fun P => (objX (Mine.le (Th.Le.trans (Th.Le.trans (Th.Le.mono (Th.Le.refl _) (Th.Le.trans (Th.Le.mono (Th.Le.refl _) (Th.Le.swap _ _)) (Th.Le.rot _ _ _))) (Th.Le.rot _ _ _)) (Th.Le.mono (Th.Le.refl _) (Th.Le.refl _))) (Mine.later ((mapT_good _ _).and ((listT_good _ _).and ((mapT_good _ _).and (objT_good _ _)))) HMD.out P.below))).2.2.2
                have hw1 : IntKind.i64.wrap ((ya : Int) + (k : Int)) = (ya : Int) + (k : Int) := by rw [IntKind.wrap_i64]; omega
                have hw2 : IntKind.i64.wrap ((yl : Int) - (k : Int)) = (yl : Int) - (k : Int) := by rw [IntKind.wrap_i64]; omega
                have hw3 : IntKind.i64.wrap ((yt : Int) + (k : Int)) = (yt : Int) + (k : Int) := by rw [IntKind.wrap_i64]; omega
                have E1 : ∀ P : Later w12, _ := fun P => ext_any ((ya : Int) + (k : Int)) ((yl : Int) - (k : Int)) yq ((yt : Int) + (k : Int)) P.val
                have E2 : ∀ P : Later w12, _ := fun P => ext_any ya k yq yt P.val
                have hne := later_ne w12
                go_wp2
                clear x0 x1 x2 x3 hd1 hd2 ht1 ht2
                refine wp_region_any (by kernel_rfl) ?_
                change wpAny _ _ _ _ _ _ _ (World.drew _)
                refine takeX (i := 0) (some 115) (.pointer (some ⟨c, 0, none⟩)) rfl (by kernel_rfl) (by kernel_rfl) (by kernel_rfl) rfl rfl (by intro w; first | rfl | go_simp) (fun _ _ _ h => h) ?_
                simp only [Act.put, List.setIfInBounds_toArray, List.set_cons_zero, List.set_cons_succ]
                refine wpAny_skipA (C := fun w' => ∃ p : Later w12, w' = p.val) 31 7 [0] [1, 2, 3, 4, 5, 6, 7, 8, 9, 10, 11, 12, 13, 14, 15, 16, 17, 18, 19, 20, 21, 22, 23, 24, 25, 26, 27, 28, 29, 30] (by kernel_rfl) rfl (by kernel_rfl) ⟨⟨World.drew w12, (Below.refl _ _).drew⟩, rfl⟩ ?_
                simp only [List.filterMap_cons, List.filterMap_nil, List.getElem?_toArray, List.getElem?_cons_succ, List.getElem?_cons_zero]
                change wpQuiet _ _ _ _ [_, _, _, _, _, _, _, _, _, _, _, _, _, _, _, _, _, _, _, _, _, _, _, _, _, _, _, _, _, _] _
                (repeat (first | go_big_quiet_skip | (go_big_quiet_want; go_big_quiet_op; go_big_quiet_on)))
                (go_big_quiet_want; go_big_quiet_op; apply Exists.intro; refine ⟨fun p => ?_, ?_⟩; (· exact later_of (E1 p)); go_big_quiet_on)
                (repeat (first | go_big_quiet_skip | (go_big_quiet_want; go_big_quiet_op; go_big_quiet_on)))
                (go_big_quiet_want; go_big_quiet_op; apply Exists.intro; refine ⟨fun p => ?_, ?_⟩; (· exact later_of (E2 p)); go_big_quiet_on)
                (repeat (first | go_big_quiet_skip | (go_big_quiet_want; go_big_quiet_op; go_big_quiet_on)))
                refine wpQuiet_nil ?_
                rintro _ ⟨P, rfl⟩
                have HME := hide (Mine.later ((mapT_good _ _).and ((listT_good _ _).and ((mapT_good _ _).and (objT_good _ _)))) HMD.out P.below)
                clear X0 X1 X2 X3 E1 E2 hne HMD
                generalize P.val = w13 at *
                have hys := HYS.out
                have hm1 : (⟨ya + k, yl - k, yq, yt + k⟩ : Xt).ix.may = true := by
                  have hp := HYM.out
                  unfold Xt.ix Ix.may mayX mayS mayP at hp ⊢
                  simp only [Bool.and_eq_true, decide_eq_true_eq] at hp ⊢
                  omega
                have hm2 : (⟨ya, k, yq, yt⟩ : Xt).ix.may = true := by
                  have hp := HYM.out
                  unfold Xt.ix Ix.may mayX mayS mayP at hp ⊢
                  simp only [Bool.and_eq_true, decide_eq_true_eq] at hp ⊢
                  omega
                have hc := put_new ((mapT_good _ _).and ((listT_good _ _).and (objT_good _ _))) (Mine.le (Th.Le.trans (Th.Le.trans (Th.Le.mono (Th.Le.refl _) (Th.Le.rot _ _ _)) (Th.Le.rot _ _ _)) (Th.Le.mono (Th.Le.refl _) (Th.Le.refl _))) HME.out) HFT.out [⟨ya + k, yl - k, yq, yt + k⟩, ⟨ya, k, yq, yt⟩] (fun z hz => by
                  simp at hz
                  rcases hz with rfl | rfl
                  · exact hm1
                  · exact hm2) (by simp) 2 rfl #[.int .i64 ((ya : Int) + (k : Int)), .int .i64 ((yl : Int) - (k : Int)), .int .i64 (yq : Nat), .int .i64 ((yt : Int) + (k : Int)), .int .i64 (ya : Nat), .int .i64 (k : Nat), .int .i64 (yq : Nat), .int .i64 (yt : Nat)] (by
                  simp only [encXs, encX, List.flatMap_cons, List.flatMap_nil, List.cons_append, List.nil_append]
                  rw [show ((ya + k : Nat) : Int) = (ya : Int) + (k : Int) by omega, show ((yl - k : Nat) : Int) = (yl : Int) - (k : Int) by omega, show ((yt + k : Nat) : Int) = (yt : Int) + (k : Int) by omega])
                rw [HPT.out k hk1 hk2] at hc
                have HPL := hide hk2
                clear hm1 hm2 hys
                refine oneX (i := 31) (some 146) (.slice (some ⟨w13.heap.size, 0, none⟩) 2 2) (w' := w13.alloc (.cells #[.int .i64 ((ya : Int) + (k : Int)), .int .i64 ((yl : Int) - (k : Int)), .int .i64 (yq : Nat), .int .i64 ((yt : Int) + (k : Int)), .int .i64 (ya : Nat), .int .i64 (k : Nat), .int .i64 (yq : Nat), .int .i64 (yt : Nat)] 40)) (by kernel_rfl) rfl rfl rfl (by first | rfl | (go_simp; done) | (go_simp; rfl)) ?_
                simp only [Act.put, List.setIfInBounds_toArray, List.set_cons_zero, List.set_cons_succ]
                refine oneC (i := 32) (some 147) 28 #[.pointer (some ⟨c, 0, none⟩), .slice (some ⟨w13.heap.size, 0, none⟩) 2 2] (by kernel_rfl) rfl rfl rfl (by first | rfl | (go_simp; done) | (go_simp; rfl)) (hc.mono ?_)
                rintro e w14 ⟨f3, rfl, hM⟩
                have HMF := hide (Mine.le (Th.Le.mono (Th.Le.refl _) (Th.Le.trans (Th.Le.rot _ _ _) (Th.Le.mono (Th.Le.refl _) (Th.Le.trans (Th.Le.rot _ _ _) (Th.Le.mono (Th.Le.refl _) (Th.Le.trans (Th.Le.swap _ _) (Th.Le.fst _ _))))))) hM)
                clear hc hM HME
                refine ⟨_, rfl, ?_⟩
                simp only [Act.put, List.setIfInBounds_toArray, List.set_cons_zero, List.set_cons_succ]
                refine oneX (i := 33) (some 114) (.tuple #[f3, .int .i64 0]) (by kernel_rfl) rfl rfl rfl (by first | rfl | (go_simp; done) | (go_simp; rfl)) ?_
                simp only [Act.put, List.setIfInBounds_toArray, List.set_cons_zero, List.set_cons_succ]
                refine takeX (i := 34) (some 148) (f3) rfl (by kernel_rfl) (by kernel_rfl) (by kernel_rfl) rfl rfl (by intro w; first | rfl | go_simp) (fun _ _ _ h => h) ?_
                simp only [Act.put, List.setIfInBounds_toArray, List.set_cons_zero, List.set_cons_succ]
                refine takeX (i := 35) (some 149) (.int .i64 0) rfl (by kernel_rfl) (by kernel_rfl) (by kernel_rfl) rfl rfl (by intro w; first | rfl | go_simp) (fun _ _ _ h => h) ?_
                simp only [Act.put, List.setIfInBounds_toArray, List.set_cons_zero, List.set_cons_succ]
                refine takeX (i := 36) (some 16) (f3) rfl (by kernel_rfl) (by kernel_rfl) (by kernel_rfl) rfl rfl (by intro w; first | rfl | go_simp) (fun _ _ _ h => h) ?_
                simp only [Act.put, List.setIfInBounds_toArray, List.set_cons_zero, List.set_cons_succ]
                refine takeX (i := 37) (some 17) (.int .i64 0) rfl (by kernel_rfl) (by kernel_rfl) (by kernel_rfl) rfl rfl (by intro w; first | rfl | go_simp) (fun _ _ _ h => h) ?_
                simp only [Act.put, List.setIfInBounds_toArray, List.set_cons_zero, List.set_cons_succ]
                refine ⟨by kernel_rfl, ?_⟩
                have hc := all_mine ((mapT_good _ _).and ((listT_good _ _).and (objT_good _ _))) HMF.out HF2.out
                go_wp2_with fail
                refine hc.mono ?_
                rintro e w15 ⟨za, zc, rfl, hzc, hM⟩
                have HMG := hide hM
                clear hc hM HMF
                have hlen : l2.length ≤ 1000000 := Nat.le_trans HF2.out.len (by omega)
                have hc := same_mine HMG.out (Mine.le (Th.Le.trans (Th.Le.trans (Th.Le.mono (Th.Le.refl _) (Th.Le.trans (Th.Le.mono (Th.Le.refl _) (Th.Le.rot _ _ _)) (Th.Le.rot _ _ _))) (Th.Le.rot _ _ _)) (Th.Le.mono (Th.Le.refl _) (Th.Le.refl _))) HMG.out) hlen ((listT_good _ _).and ((mapT_good _ _).and ((mapT_good _ _).and ((listT_good _ _).and (objT_good _ _))))) HMG.out
                clear hlen
                go_wp2_with fail
                refine hc.mono ?_
                rintro e w16 ⟨rfl, hM⟩
                have HMH := hide hM
                clear hc hM HMG
                have hc := awake_mine HMH.out
                go_wp2_with fail
                refine hc.mono ?_
                rintro e w9 ⟨rfl, hb9⟩
                have HB9 := hide hb9
                clear hc hb9
                go_wp2
                go_ret
                exact ⟨rfl, HB9.out⟩

end Wi
end Go.Proofs.Ytjbgojccfkmlnaa
