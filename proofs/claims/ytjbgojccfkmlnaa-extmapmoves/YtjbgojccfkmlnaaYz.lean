/- The law's own call with both maps. -/
import Derived.Test.YtjbgojccfkmlnaaYx
namespace Go.Proofs.Ytjbgojccfkmlnaa
open Go.RowKit
namespace Wi

set_option maxRecDepth 100000 in
set_option maxHeartbeats 8000000 in
theorem does_put {W w : World} {B : Th} {b r : Nat} {l : List Xt} {d : Rf} (hB : B.Good) (hM : Mine W w ((mapT b l).and ((refT r 300 d).and B))) (hI : Inv l d) {o : OpV} (ho : OpOk W o) (hop : opB o = true) (hask : o.ask = 0) :
    Calls Try.prog 14 #[.pointer (some ⟨b, 0, none⟩), .pointer (some ⟨r, 0, none⟩), .agg o.cells.toArray] w (DoesPost W B b r) := by
  have hMB := Mine.obj ((mapT_good b l).and ((refT_good r 300 d).and hB)) hM (.cells o.cells.toArray 34)
  have HM0 := hide hMB
  have HES := hide ho.es
  have hcap := ho.cap
  have HL := hide ho.es.len
  have hmost := ho.es.most
  have hln := opB_ln hop
  have HFAR := hide (opB_far hop)
  have HI := hide hI
  have HRQ : Hid (I64 o.q ∧ I64 o.t ∧ I64 o.ask) := ⟨ho.q, ho.t, ho.ask⟩
  obtain ⟨ask, la, ln, lc, q, t, xs⟩ := o
  unfold OpV.cells at *
  simp only at *
  obtain rfl : ask = 0 := hask
  have HC0 : Hid (∀ w' : World, w'.heap[w.heap.size]? = some (.cells #[.int .i64 0, .slice la ln lc, .int .i64 q, .int .i64 t] 34 (0, 0)) → w'.cell? ⟨w.heap.size, 0, none⟩ = some (.int .i64 0) ∧ w'.cell? ⟨w.heap.size, 1, none⟩ = some (.slice la ln lc) ∧ w'.cell? ⟨w.heap.size, 2, none⟩ = some (.int .i64 q) ∧ w'.cell? ⟨w.heap.size, 3, none⟩ = some (.int .i64 t)) := fun w' hh => by
    refine ⟨?_, ?_, ?_, ?_⟩ <;> (rw [cell_of_row _ _ _ _ _ _ hh]; rfl)
  have HOB : Hid (∀ (w' : World) (A : Th), Mine W w' ((objT w.heap.size (.cells #[.int .i64 0, .slice la ln lc, .int .i64 q, .int .i64 t] 34)).and A) → w'.heap[w.heap.size]? = some (.cells #[.int .i64 0, .slice la ln lc, .int .i64 q, .int .i64 t] 34 (0, 0))) := fun w' A h => by
    obtain ⟨_, ⟨_, _, h1, _⟩, _⟩ := h
    exact h1.1
  obtain ⟨W0, hW0⟩ : ∃ W0, W0 = w.alloc (.cells #[.int .i64 0, .slice la ln lc, .int .i64 q, .int .i64 t] 34) := ⟨_, rfl⟩
  have HW0 := hide hW0
  have HMW : Hid (Mine W W0 ((objT w.heap.size (.cells #[.int .i64 0, .slice la ln lc, .int .i64 q, .int .i64 t] 34)).and ((mapT b l).and ((refT r 300 d).and B)))) := by show Mine _ _ _; rw [hW0]; exact HM0.out
  clear hMB hM ho hop hI HM0 hW0 
  obtain ⟨c0, c1, c2, c3⟩ := HC0.out W0 (HOB.out W0 _ HMW.out)
  go_enter Try.func14, Try.ntmps14
  go_wp2
  rw [← HW0.out]
  go_loopw [7, 8, 9] (fun u v i wr => ∃ k : Nat, k ≤ ln ∧ i = .int .i64 k ∧ u = .bool ((xs.take k).all Ix.may) ∧ v = .bool ((xs.take k).all Ix.mays) ∧ Below W0.heap.size W0 wr) (fun _ _ i _ => ln - (intOf i).toNat)
  case atStart => exact ⟨0, Nat.zero_le _, rfl, by simp, by simp, Below.refl _ _⟩
  case round =>
    clear c0 c1 c2 c3
    obtain ⟨k, hk, rfl, rfl, rfl, hbw⟩ := hrel
    have HM1 := hide (Mine.later ((objT_good _ _).and ((mapT_good b l).and ((refT_good r 300 d).and hB))) HMW.out hbw)
    have HBW := hide hbw
    obtain ⟨c0, c1, c2, c3⟩ := HC0.out wr (HOB.out wr _ HM1.out)
    by_cases hlt : k < ln
    · obtain ⟨x, hx⟩ : ∃ x, xs[k]? = some x := ⟨_, List.getElem?_eq_getElem (by have := HL.out; omega)⟩
      have hr := HES.out.rng x (List.mem_of_getElem? hx)
      obtain ⟨g, off, rfl, hg, e0, e1, e2, e3⟩ := (HES.out.later HM1.out.below).cells k x hx
      have HT1 := hide (take_all Ix.may hx)
      have HT2 := hide (take_all Ix.mays hx)
      have HX := hide hx
      have HMM : Hid ((xs.take k).all Ix.may = true → (xs.take k).all Ix.mays = true) := fun h => all_may_mays h
      have hcm := refmay_any x.a x.n x.q x.t hr.a hr.n wr
      have HCS : Hid (∀ w', _) := fun w' => refspan_any x.a x.n hr.a hr.n w'
      have HME : Hid (x.may = mayX x.a x.n x.q x.t) := rfl
      have HMS : Hid (x.mays = mayS x.a x.n) := rfl
      rw [HME.out] at HT1
      rw [HMS.out] at HT2
      obtain ⟨xa, xn, xq, xt⟩ := x
      simp only at *
      generalize hu : (xs.take k).all Ix.may = U at *
      generalize hv : (xs.take k).all Ix.mays = V at *
      generalize hm1 : mayX xa xn xq xt = M1 at *
      generalize hm2 : mayS xa xn = M2 at *
      clear hx hr hu hv hm1 hm2 hbw
      cases V with
      | true =>
        cases U with
        | true =>
          have hEL := HES.out.later HM1.out.below
          go_wp2_with fail
          refine hcm.mono ?_
          rintro e w2 ⟨rfl, hb2⟩
          have HM2 := hide (Mine.later ((objT_good _ _).and ((mapT_good b l).and ((refT_good r 300 d).and hB))) HM1.out hb2)
          have HB2 := hide (HBW.out.trans (hb2.mono HBW.out.size))
          clear c0 c1 c2 c3 e0 e1 e2 e3 hcm hb2 hEL
          obtain ⟨c0, c1, c2, c3⟩ := HC0.out w2 (HOB.out w2 _ HM2.out)
          obtain ⟨g', off', ea, hg', e0, e1, e2, e3⟩ := (HES.out.later HM2.out.below).cells k _ HX.out
          injection ea with ea
          injection ea with ea1 ea2 _
          subst ea1 ea2
          simp only at e0 e1 e2 e3
          have hcs := HCS.out w2
          go_wp2_with fail
          refine hcs.mono ?_
          rintro e w3 ⟨rfl, hb3⟩
          have HB3 := hide (HB2.out.trans (hb3.mono HB2.out.size))
          clear c0 c1 c2 c3 e0 e1 e2 e3 hcs hb3
          go_wp2
          go_roundw
          case rel => exact ⟨k + 1, by omega, by go_num, by rw [HT1.out, Bool.true_and], by rw [HT2.out, Bool.true_and], HB3.out⟩
          case measure => simp [intOf]; omega
        | false =>
          have hcs := HCS.out wr
          go_wp2_with fail
          refine hcs.mono ?_
          rintro e w3 ⟨rfl, hb3⟩
          have HB3 := hide (HBW.out.trans (hb3.mono HBW.out.size))
          clear c0 c1 c2 c3 e0 e1 e2 e3 hcs hb3 hcm
          go_wp2
          go_roundw
          case rel => exact ⟨k + 1, by omega, by go_num, by rw [HT1.out, Bool.false_and], by rw [HT2.out, Bool.true_and], HB3.out⟩
          case measure => simp [intOf]; omega
      | false =>
        obtain rfl : U = false := by
          cases U with
          | false => rfl
          | true => exact absurd (HMM.out rfl) (by decide)
        clear e0 e1 e2 e3 hcm
        go_wp2
        go_roundw
        case rel => exact ⟨k + 1, by omega, by go_num, by rw [HT1.out, Bool.false_and], by rw [HT2.out, Bool.false_and], HBW.out⟩
        case measure => simp [intOf]; omega
    · obtain rfl : k = ln := by omega
      have hfull : xs.take k = xs := List.take_of_length_le (by rw [← HL.out]; exact Nat.le_refl _)
      rw [hfull]
      have HSE := hide (HES.out.later HM1.out.below)
      clear hbw hlt hk HMW
      cases hu : xs.all Ix.may with
      | false =>
        have hc := put_no (b := b) HSE.out hcap (all_no hu)
        have HV := hide (all_may_mays (xs := xs))
        generalize xs.all Ix.mays = V at *
        clear hu
        go_wp2_with fail
        refine hc.mono ?_
        rintro e w2 ⟨rfl, hb2⟩
        have HM2 := hide (Mine.later ((objT_good _ _).and ((mapT_good b l).and ((refT_good r 300 d).and hB))) HM1.out hb2)
        clear hc hb2 c0 c1 c2 c3 HV
        go_wp2
        go_ret
        exact ⟨rfl, l, d, HI.out, Mine.le (Th.Le.trans (Th.Le.rot _ _ _) (Th.Le.mono (Th.Le.refl _) (Th.Le.trans (Th.Le.rot _ _ _) (Th.Le.mono (Th.Le.refl _) (Th.Le.trans (Th.Le.swap _ _) (Th.Le.fst _ _)))))) HM2.out⟩
      | true =>
        have HALL : Hid (∀ x ∈ xs, x.may = true) := fun x hx => by rw [List.all_eq_true] at hu; exact hu x hx
        have HXF : Hid (∀ x ∈ xof xs, x.Sm ∧ 1 ≤ x.len ∧ x.fin ≤ 300) := xof_mem (p := fun x => x ∈ xs) (fun x hx => hx) fun x hx => ⟨(Ix.sm (HALL.out x hx)).1, (Ix.sm (HALL.out x hx)).2, HFAR.out x hx (may_mays (HALL.out x hx))⟩
        obtain ⟨XM, hXM, hge, hgo⟩ := Mine.go ((objT_good _ _).and ((refT_good r 300 d).and hB)) (Mine.le (Th.Le.trans (Th.Le.rot _ _ _) (Th.Le.mono (Th.Le.refl _) (Th.Le.refl _))) HM1.out)
        have hc := put_ok HSE.out hcap hln hXM HI.out.fit (fun hp g off e hx => by
          obtain ⟨x, hxx⟩ : ∃ x, xs[0]? = some x := ⟨_, List.getElem?_eq_getElem (by have := HL.out; omega)⟩
          obtain ⟨g', off', ea, hg', _⟩ := HES.out.cells 0 x hxx
          rw [e] at ea
          injection ea with ea
          injection ea with ea1 ea2 _
          subst ea1
          have := hge g hx
          omega) HALL.out
        obtain ⟨hF2, hR2, hW2⟩ := puts_rel (ws := []) HI.out.fit HI.out.rel HXF.out
        have HF2 : Hid (Fit (putP l (xof xs)).1) := hF2
        have HR2 : Hid (Rel (putP l (xof xs)).1 ((xof xs).foldl stepRP (d, [])).1 300) := hR2
        have HW2 : Hid ((putP l (xof xs)).2 = ((xof xs).foldl stepRP (d, [])).2) := hW2
        have HGO : Hid (∀ w' f, LeftT ((mapT b (putP l (xof xs)).1).and (listT f (putP l (xof xs)).2)) wr XM w' → Mine W w' (((mapT b (putP l (xof xs)).1).and (listT f (putP l (xof xs)).2)).and ((objT w.heap.size (.cells #[.int .i64 0, .slice la k lc, .int .i64 q, .int .i64 t] 34)).and ((refT r 300 d).and B)))) := fun w' f h => hgo h
        have HVV := hide (all_may_mays hu)
        rw [HVV.out]
        clear hu hXM hge hgo hF2 hR2 hW2
        generalize (putP l (xof xs)).1 = l2 at *
        generalize (putP l (xof xs)).2 = ws at *
        go_wp2_with fail
        refine hc.mono ?_
        rintro e w2 ⟨f, rfl, hl⟩
        have HM2 := hide (Mine.le (Th.Le.trans (Th.Le.mono (Th.Le.refl _) (Th.Le.right _ _ _)) (Th.Le.trans (Th.Le.trans (Th.Le.mono (Th.Le.refl _) (Th.Le.trans (Th.Le.mono (Th.Le.refl _) (Th.Le.trans (Th.Le.mono (Th.Le.refl _) (Th.Le.rot _ _ _)) (Th.Le.rot _ _ _))) (Th.Le.rot _ _ _))) (Th.Le.rot _ _ _)) (Th.Le.mono (Th.Le.refl _) (Th.Le.refl _)))) (Mine.nilT (HGO.out w2 f hl)))
        clear hc hl HGO c0 c1 c2 c3
        obtain ⟨c0, c1, c2, c3⟩ := HC0.out w2 (HOB.out w2 _ (Mine.le (Th.Le.trans (Th.Le.trans (Th.Le.mono (Th.Le.refl _) (Th.Le.trans (Th.Le.mono (Th.Le.refl _) (Th.Le.trans (Th.Le.mono (Th.Le.refl _) (Th.Le.rot _ _ _)) (Th.Le.rot _ _ _))) (Th.Le.rot _ _ _))) (Th.Le.rot _ _ _)) (Th.Le.mono (Th.Le.refl _) (Th.Le.mono (Th.Le.refl _) (Th.Le.trans (Th.Le.rot _ _ _) (Th.Le.mono (Th.Le.refl _) (Th.Le.refl _)))))) HM2.out))
        go_wp2
        go_loopw [10, 13] (fun g i wr => ∃ m : Nat, m ≤ k ∧ i = .int .i64 m ∧ Mine W wr ((refT r 300 (((xof xs).take m).foldl stepRP (d, [])).1).and ((listT g (((xof xs).take m).foldl stepRP (d, [])).2).and ((mapT b l2).and ((listT f ws).and ((objT w.heap.size (.cells #[.int .i64 0, .slice la k lc, .int .i64 q, .int .i64 t] 34)).and B)))))) (fun _ i _ => k - (intOf i).toNat)
        case atStart => exact ⟨0, Nat.zero_le _, rfl, HM2.out⟩
        case round =>
          clear c0 c1 c2 c3 HM2
          obtain ⟨m, hmk, rfl, hM3⟩ := hrel
          have HM3 := hide hM3
          clear hM3
          by_cases hlt : m < k
          · obtain ⟨c0, c1, c2, c3⟩ := HC0.out _ (HOB.out _ _ (Mine.le (Th.Le.trans (Th.Le.trans (Th.Le.mono (Th.Le.refl _) (Th.Le.trans (Th.Le.mono (Th.Le.refl _) (Th.Le.trans (Th.Le.mono (Th.Le.refl _) (Th.Le.rot _ _ _)) (Th.Le.rot _ _ _))) (Th.Le.rot _ _ _))) (Th.Le.rot _ _ _)) (Th.Le.mono (Th.Le.refl _) (Th.Le.mono (Th.Le.refl _) (Th.Le.trans (Th.Le.rot _ _ _) (Th.Le.mono (Th.Le.refl _) (Th.Le.refl _)))))) HM3.out))
            obtain ⟨x, hx⟩ : ∃ x, xs[m]? = some x := ⟨_, List.getElem?_eq_getElem (by have := HL.out; omega)⟩
            have hr := HES.out.rng x (List.mem_of_getElem? hx)
            have hmm := HALL.out x (List.mem_of_getElem? hx)
            obtain ⟨s1, s2, s3⟩ := HXF.out x.x (List.mem_of_getElem? (xof_get hx))
            have HT := hide (fold_take stepRP (d, []) (xof_get hx))
            have hlm : ((xof xs).take m).length ≤ m := by rw [List.length_take]; omega
            have HOK := hide (putsN_ok (xs := (xof xs).take m) (ws := []) HI.out.ok fun y hy => HXF.out y (List.mem_of_mem_take hy))
            have hxi := Ix.x_ix hmm
            obtain ⟨gg, off, rfl, hg, e0, e1, e2, e3⟩ := (HES.out.later HM3.out.below).cells m x hx
            have HEA : Hid (∀ w', Below W.heap.size W w' → w'.cell? ⟨gg, off + m * 4, none⟩ = some (.int .i64 x.a) ∧ w'.cell? ⟨gg, off + m * 4 + 1, none⟩ = some (.int .i64 x.n) ∧ w'.cell? ⟨gg, off + m * 4 + 2, none⟩ = some (.int .i64 x.q) ∧ w'.cell? ⟨gg, off + m * 4 + 3, none⟩ = some (.int .i64 x.t)) := fun w' hb' => by
              obtain ⟨g', off', ea, _, r0, r1, r2, r3⟩ := (HES.out.later hb').cells m x hx
              injection ea with ea
              injection ea with ea1 ea2 _
              subst ea1 ea2
              exact ⟨r0, r1, r2, r3⟩
            rw [← hxi] at e0 e1 e2 e3 HEA
            generalize hy : x.x = y at *
            obtain ⟨ya, yl, yq, yt⟩ := y
            simp only [Xt.ix] at e0 e1 e2 e3 HEA
            unfold Xt.fin at s3
            obtain ⟨t1, t2, t3⟩ := s1
            simp only at s2 s3 t2 t3
            clear hr hmm hxi hx hy t1 hlm
            generalize hP : (((xof xs).take m).foldl stepRP (d, [])) = P at *
            obtain ⟨D, acc⟩ := P
            simp only [List.length_nil, Nat.zero_add] at HOK HM3
            have hacc : acc.length ≤ 300 * 10 := by have h1 := HOK.out.2; rw [List.length_take] at h1; omega
            have HST : Hid (stepRP (D, acc) ⟨ya, yl, yq, yt⟩ = (D.putN ⟨ya, yl, yq, yt⟩ yl, acc ++ findN D ya yl)) := rfl
            rw [HST.out] at HT
            have hfl := findN_len D ya yl
            obtain ⟨XR, ⟨gi, gs, hR, hXR⟩, _, _⟩ := Mine.go ((listT_good _ _).and ((mapT_good b l2).and ((listT_good f ws).and ((objT_good _ _).and hB)))) HM3.out
            have hc := reffind_any hR HOK.out.1 (by omega) ya yl (by omega)
            clear hR hXR hP
            generalize hL2 : findN D ya yl = L2 at *
            go_wp2_with fail
            refine hc.mono ?_
            rintro e w3 ⟨f2, rfl, hf2, hn2, hb3⟩
            obtain ⟨va, vc, rfl, hvl, hvm⟩ := hf2.len
            have HM4 := hide (Mine.new ((refT_good _ _ _).and ((listT_good _ _).and ((mapT_good b l2).and ((listT_good f ws).and ((objT_good _ _).and hB))))) HM3.out hb3 (B := listT (.slice va L2.length vc) L2) ⟨_, ⟨hf2, fun _ => Iff.rfl⟩, hn2⟩)
            clear hc hb3 hn2 c0 c1 c2 c3 e0 e1 e2 e3
            have HV3 := hide hf2
            obtain ⟨XA, hXA, _, hrun⟩ := Mine.run (Mine.le (Th.Le.trans (Th.Le.trans (Th.Le.trans (Th.Le.mono (Th.Le.refl _) (Th.Le.rot _ _ _)) (Th.Le.rot _ _ _)) (Th.Le.mono (Th.Le.refl _) (Th.Le.refl _))) (Th.Le.trans (Th.Le.swap _ _) (Th.Le.mono (Th.Le.swap _ _) (Th.Le.refl _)))) HM4.out)
            have HF3 : Hid (Xs w3 u10 acc) := by
              obtain ⟨_, _, _, h2, _⟩ := hXA
              exact h2.1
            have HQ := hide (encXs_oneCell L2)
            have b1 : acc.length + L2.length ≤ maxLen := by unfold maxLen; omega
            have b2 : (acc.length + L2.length) * 32 ≤ 140737488355328 := by omega
            have HAP : Hid (∀ v4 w4, Rw w4 40 4 v4 (acc.length + L2.length) (encXs acc ++ encXs L2) → w3.grownBy w4 u10.ownBlock → Moved w3 u10 v4 → Mine W w4 ((refT r 300 D).and ((listT v4 (acc ++ L2)).and ((mapT b l2).and ((listT f ws).and ((objT w.heap.size (.cells #[.int .i64 0, .slice (some ⟨gg, off, none⟩) k lc, .int .i64 q, .int .i64 t] 34)).and B)))))) := fun v4 w4 g1 g2 g3 => Mine.le (Th.Le.trans (Th.Le.swap _ _) (Th.Le.trans (Th.Le.rot _ _ _) (Th.Le.mono (Th.Le.refl _) (Th.Le.refl _)))) (hrun (append_step ((refT_good r 300 D).and ((mapT_good b l2).and ((listT_good f ws).and ((objT_good _ _).and hB)))) hXA g1 g2 g3))
            clear hf2 hXA hrun
            go_wp2_with (at_builtin; refine append30 rfl (.tmp 79) (.tmp 87) rfl _ _ _ rfl HF3.out va _ vc _ rfl HV3.out HQ.out b1 b2 ?_; intro v4 w4 g1 g2 g3; have HM5 := hide (HAP.out v4 w4 g1 g2 g3); clear g1 g2 g3; obtain ⟨c0, c1, c2, c3⟩ := HC0.out _ (HOB.out _ _ (Mine.le (Th.Le.trans (Th.Le.trans (Th.Le.mono (Th.Le.refl _) (Th.Le.trans (Th.Le.mono (Th.Le.refl _) (Th.Le.trans (Th.Le.mono (Th.Le.refl _) (Th.Le.rot _ _ _)) (Th.Le.rot _ _ _))) (Th.Le.rot _ _ _))) (Th.Le.rot _ _ _)) (Th.Le.mono (Th.Le.refl _) (Th.Le.mono (Th.Le.refl _) (Th.Le.trans (Th.Le.rot _ _ _) (Th.Le.mono (Th.Le.refl _) (Th.Le.refl _)))))) HM5.out)); obtain ⟨e0, e1, e2, e3⟩ := HEA.out w4 HM5.out.below; obtain ⟨XR, ⟨gi, gs, hR, hXR⟩, _, hgo⟩ := Mine.go ((listT_good _ _).and ((mapT_good b l2).and ((listT_good f ws).and ((objT_good _ _).and hB)))) HM5.out; have hc := refput_any hR (by omega) ya yl yq yt (by omega) t3; have HGO : Hid (∀ w', RefL w4 w' r gi gs 300 (D.putN ⟨ya, yl, yq, yt⟩ yl) → _) := fun w' h => hgo (h.left hXR); clear hR hXR hgo HM5 HAP HM4 HF3 HV3 b1 b2)
            refine hc.mono ?_
            rintro e w5 ⟨rfl, hl5⟩
            have HM6 := hide (HGO.out w5 hl5)
            clear hc hl5 HGO c0 c1 c2 c3 e0 e1 e2 e3
            go_wp2
            go_roundw
            case rel => exact ⟨m + 1, by omega, by go_num, by rw [HT.out]; exact HM6.out⟩
            case measure => simp [intOf]; omega
          · obtain rfl : m = k := by omega
            have hfull : (xof xs).take m = xof xs := List.take_of_length_le (by rw [xof_len, ← HL.out]; exact Nat.le_refl _)
            rw [hfull] at HM3
            obtain ⟨c0, c1, c2, c3⟩ := HC0.out _ (HOB.out _ _ (Mine.le (Th.Le.trans (Th.Le.trans (Th.Le.mono (Th.Le.refl _) (Th.Le.trans (Th.Le.mono (Th.Le.refl _) (Th.Le.trans (Th.Le.mono (Th.Le.refl _) (Th.Le.rot _ _ _)) (Th.Le.rot _ _ _))) (Th.Le.rot _ _ _))) (Th.Le.rot _ _ _)) (Th.Le.mono (Th.Le.refl _) (Th.Le.mono (Th.Le.refl _) (Th.Le.trans (Th.Le.rot _ _ _) (Th.Le.mono (Th.Le.refl _) (Th.Le.refl _)))))) HM3.out))
            have HOK := hide (putsN_ok (xs := xof xs) (ws := []) HI.out.ok HXF.out)
            have hws : ws.length ≤ 1000000 := by
              have h1 := HOK.out.2
              rw [HW2.out]
              rw [xof_len, ← HL.out, List.length_nil] at h1
              omega
            have HFIN : Hid (Inv l2 ((xof xs).foldl stepRP (d, [])).1) := ⟨HF2.out, HR2.out, HOK.out.1⟩
            rw [← HW2.out] at HM3
            generalize ((xof xs).foldl stepRP (d, [])).1 = D at *
            have hxs : Xs wr f ws ∧ Xs wr u10 ws := by
              obtain ⟨_, ⟨_, _, _, ⟨_, _, h1, ⟨_, _, _, ⟨_, _, h2, _⟩, _⟩, _⟩, _⟩, _⟩ := HM3.out
              exact ⟨h2.1, h1.1⟩
            have hc := same_yes hxs.1 hxs.2 hws
            clear hxs
            go_wp2_with fail
            refine hc.mono ?_
            rintro e w3 ⟨rfl, hb3⟩
            have HM4 := hide (Mine.later ((refT_good _ _ _).and ((listT_good _ _).and ((mapT_good b l2).and ((listT_good f ws).and ((objT_good _ _).and hB))))) HM3.out hb3)
            clear hc hb3 c0 c1 c2 c3
            go_wp2
            go_ret
            exact ⟨rfl, l2, D, HFIN.out, Mine.le (Th.Le.trans (Th.Le.trans (Th.Le.mono (Th.Le.refl _) (Th.Le.rot _ _ _)) (Th.Le.rot _ _ _)) (Th.Le.mono (Th.Le.refl _) (Th.Le.mono (Th.Le.refl _) (Th.Le.trans (Th.Le.trans (Th.Le.mono (Th.Le.refl _) (Th.Le.trans (Th.Le.mono (Th.Le.refl _) (Th.Le.swap _ _)) (Th.Le.rot _ _ _))) (Th.Le.rot _ _ _)) (Th.Le.fst _ _))))) HM4.out⟩

end Wi
end Go.Proofs.Ytjbgojccfkmlnaa

namespace Go.Proofs.Ytjbgojccfkmlnaa
open Go.RowKit
namespace Wi

/-- The spans of extents that are handed in. -/
def ispans (xs : List Ix) : List (Int × Int) := xs.map fun x => (x.a, x.n)
theorem ispans_take {xs : List Ix} {k : Nat} {x : Ix} (h : xs[k]? = some x) : ispans (xs.take (k + 1)) = ispans (xs.take k) ++ [(x.a, x.n)] := by
  unfold ispans
  have hk : k < xs.length := (List.getElem?_eq_some_iff.1 h).1
  have hx : xs[k] = x := (List.getElem?_eq_some_iff.1 h).2
  rw [List.take_succ_eq_append_getElem hk, List.map_append, hx]
  rfl
theorem ispans_len (xs : List Ix) (k : Nat) (h : k ≤ xs.length) : (ispans (xs.take k)).length = k := by
  unfold ispans
  rw [List.length_map, List.length_take]
  omega
theorem own_es2 {w : World} {v : Value} {xs : List Ix} (h : Sp.Own w v (ispans xs)) (hr : ∀ x ∈ xs, x.Rng) (hl : xs.length ≤ 10) : ∃ a cap, v = .slice a xs.length cap ∧ xs.length ≤ cap ∧ Es2 w a xs.length xs := by
  have he : (ispans xs).length = xs.length := by unfold ispans; rw [List.length_map]
  obtain ⟨a, cap, hv, hc, hs⟩ := h.sl' (fun y hy => by
    obtain ⟨x, hx, rfl⟩ := List.mem_map.1 hy
    exact ⟨(hr x hx).a, (hr x hx).n⟩)
  rw [he] at hv hc hs
  refine ⟨a, cap, hv, hc, rfl, by omega, hr, fun i x hi => ?_⟩
  have hk : i < xs.length := (List.getElem?_eq_some_iff.1 hi).1
  have hx : xs[i] = x := (List.getElem?_eq_some_iff.1 hi).2
  obtain ⟨g, off, e, hg, c0, c1⟩ := hs.cells i (by omega)
  have hn : Sp.nth (ispans xs) i = (x.a, x.n) := by
    rw [Sp.nth_eq (by omega)]
    unfold ispans
    rw [List.getElem_map, hx]
  rw [hn] at c0 c1
  exact ⟨g, off, e, hg, c0, c1⟩
theorem Mine.go2 {W w : World} {A B C : Th} (hB : B.Good) (hC : C.Good) (h : Mine W w (A.and (B.and C))) : ∃ X, A w X ∧ (∀ k, X k → W.heap.size ≤ k) ∧ (∃ Y, B w Y ∧ ∀ k, X k → ¬ Y k) ∧ ∀ {w' : World} {A' : Th}, LeftT A' w X w' → Mine W w' (A'.and (B.and C)) := by
  obtain ⟨Z, ⟨X, Y, h1, ⟨Y1, Y2, k1, k2, k3, k4⟩, h3, h4⟩, h5, h6⟩ := h
  refine ⟨X, h1, fun k hk => h5 k ((h4 k).2 (.inl hk)), ⟨Y1, k1, fun k hx hy => h3 k hx ((k4 k).2 (.inl hy))⟩, fun {w' A'} hl => ?_⟩
  have := LeftT.frame_at (hB.and hC) (⟨Y1, Y2, k1, k2, k3, k4⟩ : (B.and C) w Y) h3 h4 hl
  obtain ⟨Z', g1, g2, g3⟩ := this
  exact ⟨Z', g1, fun k hk => by
    rcases g3 k hk with e | e
    · exact h5 k e
    · have := h6.size; omega, h6.trans (g2.below h6.size fun k hk hz => by have := h5 k hz; omega)⟩

set_option maxRecDepth 100000 in
set_option maxHeartbeats 8000000 in
theorem does_cut {W w : World} {B : Th} {b r : Nat} {l : List Xt} {d : Rf} (hB : B.Good) (hM : Mine W w ((mapT b l).and ((refT r 300 d).and B))) (hI : Inv l d) {o : OpV} (ho : OpOk W o) (hop : opB o = true) (hask : o.ask = 1) :
    Calls Try.prog 14 #[.pointer (some ⟨b, 0, none⟩), .pointer (some ⟨r, 0, none⟩), .agg o.cells.toArray] w (DoesPost W B b r) := by
  have hMB := Mine.obj ((mapT_good b l).and ((refT_good r 300 d).and hB)) hM (.cells o.cells.toArray 34)
  have HM0 := hide hMB
  have HES := hide ho.es
  have hcap := ho.cap
  have HL := hide ho.es.len
  have hmost := ho.es.most
  have hln := opB_ln hop
  have HFAR := hide (opB_far hop)
  have HI := hide hI
  have HRQ : Hid (I64 o.q ∧ I64 o.t ∧ I64 o.ask) := ⟨ho.q, ho.t, ho.ask⟩
  obtain ⟨ask, la, ln, lc, q, t, xs⟩ := o
  unfold OpV.cells at *
  simp only at *
  obtain rfl : ask = 1 := hask
  have HC0 : Hid (∀ w' : World, w'.heap[w.heap.size]? = some (.cells #[.int .i64 1, .slice la ln lc, .int .i64 q, .int .i64 t] 34 (0, 0)) → w'.cell? ⟨w.heap.size, 0, none⟩ = some (.int .i64 1) ∧ w'.cell? ⟨w.heap.size, 1, none⟩ = some (.slice la ln lc) ∧ w'.cell? ⟨w.heap.size, 2, none⟩ = some (.int .i64 q) ∧ w'.cell? ⟨w.heap.size, 3, none⟩ = some (.int .i64 t)) := fun w' hh => by
    refine ⟨?_, ?_, ?_, ?_⟩ <;> (rw [cell_of_row _ _ _ _ _ _ hh]; rfl)
  have HOB : Hid (∀ (w' : World) (A : Th), Mine W w' ((objT w.heap.size (.cells #[.int .i64 1, .slice la ln lc, .int .i64 q, .int .i64 t] 34)).and A) → w'.heap[w.heap.size]? = some (.cells #[.int .i64 1, .slice la ln lc, .int .i64 q, .int .i64 t] 34 (0, 0))) := fun w' A h => by
    obtain ⟨_, ⟨_, _, h1, _⟩, _⟩ := h
    exact h1.1
  obtain ⟨W0, hW0⟩ : ∃ W0, W0 = w.alloc (.cells #[.int .i64 1, .slice la ln lc, .int .i64 q, .int .i64 t] 34) := ⟨_, rfl⟩
  have HW0 := hide hW0
  have HMW : Hid (Mine W W0 ((objT w.heap.size (.cells #[.int .i64 1, .slice la ln lc, .int .i64 q, .int .i64 t] 34)).and ((mapT b l).and ((refT r 300 d).and B)))) := by show Mine _ _ _; rw [hW0]; exact HM0.out
  clear hMB hM ho hop hI HM0 hW0 
  obtain ⟨c0, c1, c2, c3⟩ := HC0.out W0 (HOB.out W0 _ HMW.out)
  go_enter Try.func14, Try.ntmps14
  go_wp2
  rw [← HW0.out]
  go_loopw [7, 8, 9] (fun u v i wr => ∃ k : Nat, k ≤ ln ∧ i = .int .i64 k ∧ u = .bool ((xs.take k).all Ix.may) ∧ v = .bool ((xs.take k).all Ix.mays) ∧ Below W0.heap.size W0 wr) (fun _ _ i _ => ln - (intOf i).toNat)
  case atStart => exact ⟨0, Nat.zero_le _, rfl, by simp, by simp, Below.refl _ _⟩
  case round =>
    clear c0 c1 c2 c3
    obtain ⟨k, hk, rfl, rfl, rfl, hbw⟩ := hrel
    have HM1 := hide (Mine.later ((objT_good _ _).and ((mapT_good b l).and ((refT_good r 300 d).and hB))) HMW.out hbw)
    have HBW := hide hbw
    obtain ⟨c0, c1, c2, c3⟩ := HC0.out wr (HOB.out wr _ HM1.out)
    by_cases hlt : k < ln
    · obtain ⟨x, hx⟩ : ∃ x, xs[k]? = some x := ⟨_, List.getElem?_eq_getElem (by have := HL.out; omega)⟩
      have hr := HES.out.rng x (List.mem_of_getElem? hx)
      obtain ⟨g, off, rfl, hg, e0, e1, e2, e3⟩ := (HES.out.later HM1.out.below).cells k x hx
      have HT1 := hide (take_all Ix.may hx)
      have HT2 := hide (take_all Ix.mays hx)
      have HX := hide hx
      have HMM : Hid ((xs.take k).all Ix.may = true → (xs.take k).all Ix.mays = true) := fun h => all_may_mays h
      have hcm := refmay_any x.a x.n x.q x.t hr.a hr.n wr
      have HCS : Hid (∀ w', _) := fun w' => refspan_any x.a x.n hr.a hr.n w'
      have HME : Hid (x.may = mayX x.a x.n x.q x.t) := rfl
      have HMS : Hid (x.mays = mayS x.a x.n) := rfl
      rw [HME.out] at HT1
      rw [HMS.out] at HT2
      obtain ⟨xa, xn, xq, xt⟩ := x
      simp only at *
      generalize hu : (xs.take k).all Ix.may = U at *
      generalize hv : (xs.take k).all Ix.mays = V at *
      generalize hm1 : mayX xa xn xq xt = M1 at *
      generalize hm2 : mayS xa xn = M2 at *
      clear hx hr hu hv hm1 hm2 hbw
      cases V with
      | true =>
        cases U with
        | true =>
          have hEL := HES.out.later HM1.out.below
          go_wp2_with fail
          refine hcm.mono ?_
          rintro e w2 ⟨rfl, hb2⟩
          have HM2 := hide (Mine.later ((objT_good _ _).and ((mapT_good b l).and ((refT_good r 300 d).and hB))) HM1.out hb2)
          have HB2 := hide (HBW.out.trans (hb2.mono HBW.out.size))
          clear c0 c1 c2 c3 e0 e1 e2 e3 hcm hb2 hEL
          obtain ⟨c0, c1, c2, c3⟩ := HC0.out w2 (HOB.out w2 _ HM2.out)
          obtain ⟨g', off', ea, hg', e0, e1, e2, e3⟩ := (HES.out.later HM2.out.below).cells k _ HX.out
          injection ea with ea
          injection ea with ea1 ea2 _
          subst ea1 ea2
          simp only at e0 e1 e2 e3
          have hcs := HCS.out w2
          go_wp2_with fail
          refine hcs.mono ?_
          rintro e w3 ⟨rfl, hb3⟩
          have HB3 := hide (HB2.out.trans (hb3.mono HB2.out.size))
          clear c0 c1 c2 c3 e0 e1 e2 e3 hcs hb3
          go_wp2
          go_roundw
          case rel => exact ⟨k + 1, by omega, by go_num, by rw [HT1.out, Bool.true_and], by rw [HT2.out, Bool.true_and], HB3.out⟩
          case measure => simp [intOf]; omega
        | false =>
          have hcs := HCS.out wr
          go_wp2_with fail
          refine hcs.mono ?_
          rintro e w3 ⟨rfl, hb3⟩
          have HB3 := hide (HBW.out.trans (hb3.mono HBW.out.size))
          clear c0 c1 c2 c3 e0 e1 e2 e3 hcs hb3 hcm
          go_wp2
          go_roundw
          case rel => exact ⟨k + 1, by omega, by go_num, by rw [HT1.out, Bool.false_and], by rw [HT2.out, Bool.true_and], HB3.out⟩
          case measure => simp [intOf]; omega
      | false =>
        obtain rfl : U = false := by
          cases U with
          | false => rfl
          | true => exact absurd (HMM.out rfl) (by decide)
        clear e0 e1 e2 e3 hcm
        go_wp2
        go_roundw
        case rel => exact ⟨k + 1, by omega, by go_num, by rw [HT1.out, Bool.false_and], by rw [HT2.out, Bool.false_and], HBW.out⟩
        case measure => simp [intOf]; omega
    · obtain rfl : k = ln := by omega
      have hfull : xs.take k = xs := List.take_of_length_le (by rw [← HL.out]; exact Nat.le_refl _)
      rw [hfull]
      have HSE := hide (HES.out.later HM1.out.below)
      clear hbw hlt hk HMW
      obtain ⟨W1, hW1⟩ : ∃ W1, W1 = wr := ⟨_, rfl⟩
      subst hW1
      generalize xs.all Ix.may = U at *
      have HRN : Hid (∀ x ∈ xs, x.Rng) := HES.out.rng
      go_wp2
      go_loopw [14, 15] (fun s i wr => ∃ m : Nat, m ≤ k ∧ i = .int .i64 m ∧ Sp.Own wr s (ispans (xs.take m)) ∧ From W1.heap.size s ∧ Below W1.heap.size W1 wr) (fun _ i _ => k - (intOf i).toNat)
      case atStart => exact ⟨0, Nat.zero_le _, rfl, Sp.Own.nil _, From.nil _ _ _, Below.refl _ _⟩
      case round =>
        clear c0 c1 c2 c3
        obtain ⟨m, hmk, rfl, hown, hfrom, hbr⟩ := hrel
        have HMR := hide (Mine.later ((objT_good _ _).and ((mapT_good b l).and ((refT_good r 300 d).and hB))) HM1.out hbr)
        obtain ⟨c0, c1, c2, c3⟩ := HC0.out wr (HOB.out wr _ HMR.out)
        by_cases hlt : m < k
        · obtain ⟨x, hx⟩ : ∃ x, xs[m]? = some x := ⟨_, List.getElem?_eq_getElem (by have := HL.out; omega)⟩
          obtain ⟨g, off, rfl, hg, e0, e1, e2, e3⟩ := (HES.out.later HMR.out.below).cells m x hx
          have HT := hide (ispans_take hx)
          have HTL := hide (ispans_len xs m (by have := HL.out; omega))
          have hkk : ∀ o, (wr.alloc o).ownsRow 0 38 2 u14 m (Sp.enc2 (ispans (xs.take m))) := fun o => by
            have := Sp.Own.later hown (below_alloc wr o)
            unfold Sp.Own at this
            rwa [HTL.out] at this
          obtain ⟨i0, hi, hz0, hz1, hz2⟩ := info_parts Sp.info27
          obtain ⟨xa, xn, xq, xt⟩ := x
          simp only at *
          have HBR := hide hbr
          have HFR := hide hfrom
          clear hx hown hbr hfrom
          go_wp2_with (at_builtin; refine wpList_append_moved rfl (.tmp 112) (.tmp 119) 59 rfl 38 i0 _ 2 16 Try.underlying59 hi hz0 hz1 hz2 rfl (by decide) _ _ _ rfl (hkk _) ⟨wr.heap.size, 0, none⟩ 1 1 [.int .i64 xa, .int .i64 xn] rfl rfl (Sp.cells_two (by simp) (by simp)) (Sp.enc2_oneCell [(xa, xn)]) (by unfold maxLen; omega) (by omega) ?_; intro v' w' g1 g2 g3; replace g1 := hide g1; replace g2 := hide g2; replace g3 := hide g3)
          have hb2 := HBR.out.alloc HBR.out.size (.cells #[.int .i64 xa, .int .i64 xn] 38)
          have R2 := hide (below_grown hb2 g2.out hb2.size HFR.out)
          have R3 := hide (HFR.out.moved g3.out hb2.size)
          have R4 : Hid (Sp.Own w' v' (ispans (xs.take (m + 1)))) := by
            show Sp.Own w' v' _
            rw [HT.out]
            unfold Sp.Own
            rw [Sp.enc2_append, List.length_append, HTL.out]
            exact g1.out
          clear g1 g2 g3 hkk hb2
          go_wp2
          go_roundw
          case rel => exact ⟨m + 1, by omega, by go_num, R4.out, R3.out, R2.out⟩
          case measure => simp [intOf]; omega
        · obtain rfl : m = k := by omega
          have hfull : xs.take m = xs := List.take_of_length_le (by rw [← HL.out]; exact Nat.le_refl _)
          rw [hfull] at hown
          have hln2 : xs.length ≤ 10 := by rw [← HL.out]; exact hln
          obtain ⟨va, vc, rfl, hvc, hE2⟩ := own_es2 hown HRN.out hln2
          have hL2 := HL.out
          rw [← hL2] at hE2 hvc
          have HMO := hide (Mine.new ((objT_good _ _).and ((mapT_good b l).and ((refT_good r 300 d).and hB))) HM1.out hbr (B := ownT (.slice va xs.length vc) (ispans xs)) ⟨_, ⟨hown, fun _ => Iff.rfl⟩, hfrom⟩)
          have HE2 := hide hE2
          rw [← hL2]
          rw [← hL2] at HMO
          clear hown hfrom hbr hE2 hL2 HMR HM1 hlt hmk
          cases hu : xs.all Ix.mays with
          | false =>
            have hc := cut_no (b := b) HE2.out hvc (all_no hu)
            clear hu
            go_wp2_with fail
            refine hc.mono ?_
            rintro e w2 ⟨rfl, hb2⟩
            have HM2 := hide (Mine.later ((ownT_good _ _).and ((objT_good _ _).and ((mapT_good b l).and ((refT_good r 300 d).and hB)))) HMO.out hb2)
            clear hc hb2 c0 c1 c2 c3
            go_wp2
            go_ret
            exact ⟨rfl, l, d, HI.out, Mine.le (Th.Le.trans (Th.Le.trans (Th.Le.mono (Th.Le.refl _) (Th.Le.rot _ _ _)) (Th.Le.rot _ _ _)) (Th.Le.mono (Th.Le.refl _) (Th.Le.trans (Th.Le.trans (Th.Le.mono (Th.Le.refl _) (Th.Le.rot _ _ _)) (Th.Le.rot _ _ _)) (Th.Le.mono (Th.Le.refl _) (Th.Le.trans (Th.Le.trans (Th.Le.mono (Th.Le.refl _) (Th.Le.swap _ _)) (Th.Le.rot _ _ _)) (Th.Le.fst _ _)))))) HM2.out⟩
          | true =>
            have HALL : Hid (∀ x ∈ xs, x.mays = true) := fun x hx => by rw [List.all_eq_true] at hu; exact hu x hx
            have HXF : Hid (∀ x ∈ xof xs, x.fin ≤ 300) := xof_mem (p := fun x => x ∈ xs) (fun x hx => hx) fun x hx => HFAR.out x hx (HALL.out x hx)
            obtain ⟨XM, hXM, hge, ⟨Y, hY, hdis⟩, hgo⟩ := Mine.go2 (ownT_good _ _) ((objT_good _ _).and ((refT_good r 300 d).and hB)) (Mine.le (Th.Le.trans (Th.Le.trans (Th.Le.mono (Th.Le.refl _) (Th.Le.rot _ _ _)) (Th.Le.rot _ _ _)) (Th.Le.mono (Th.Le.refl _) (Th.Le.refl _))) HMO.out)
            have hc := cut_ok HE2.out hvc hln hXM HI.out.fit (fun hp g off e hx => hdis g hx ((hY.2 g).2 (by rw [e]; rfl))) HALL.out
            obtain ⟨hF2, hR2, hW2⟩ := cuts_rel (ws := []) HI.out.fit HI.out.rel HXF.out
            have HF2 : Hid (Fit (cutP l (xof xs)).1) := hF2
            have HR2 : Hid (Rel (cutP l (xof xs)).1 ((xof xs).foldl stepRC (d, [])).1 300) := hR2
            have HW2 : Hid ((cutP l (xof xs)).2 = ((xof xs).foldl stepRC (d, [])).2) := hW2
            have HGO : Hid (∀ w' f, LeftT ((mapT b (cutP l (xof xs)).1).and (listT f (cutP l (xof xs)).2)) wr XM w' → Mine W w' (((mapT b (cutP l (xof xs)).1).and (listT f (cutP l (xof xs)).2)).and ((ownT (.slice va m vc) (ispans xs)).and ((objT w.heap.size (.cells #[.int .i64 1, .slice la m lc, .int .i64 q, .int .i64 t] 34)).and ((refT r 300 d).and B))))) := fun w' f h => hgo h
            clear hu hXM hge hgo hF2 hR2 hW2 hY hdis
            generalize (cutP l (xof xs)).1 = l2 at *
            generalize (cutP l (xof xs)).2 = ws at *
            go_wp2_with fail
            refine hc.mono ?_
            rintro e w2 ⟨f, rfl, hl⟩
            have HM2 := hide (Mine.le (Th.Le.trans (Th.Le.mono (Th.Le.refl _) (Th.Le.right _ _ _)) (Th.Le.trans (Th.Le.trans (Th.Le.mono (Th.Le.refl _) (Th.Le.trans (Th.Le.mono (Th.Le.refl _) (Th.Le.trans (Th.Le.mono (Th.Le.refl _) (Th.Le.trans (Th.Le.mono (Th.Le.refl _) (Th.Le.rot _ _ _)) (Th.Le.rot _ _ _))) (Th.Le.rot _ _ _))) (Th.Le.rot _ _ _))) (Th.Le.rot _ _ _)) (Th.Le.mono (Th.Le.refl _) (Th.Le.mono (Th.Le.refl _) (Th.Le.mono (Th.Le.refl _) (Th.Le.mono (Th.Le.refl _) (Th.Le.trans (Th.Le.rot _ _ _) (Th.Le.mono (Th.Le.refl _) (Th.Le.trans (Th.Le.swap _ _) (Th.Le.fst _ _)))))))))) (Mine.nilT (HGO.out w2 f hl)))
            clear hc hl HGO c0 c1 c2 c3 HMO HE2
            obtain ⟨c0, c1, c2, c3⟩ := HC0.out w2 (HOB.out w2 _ (Mine.le (Th.Le.trans (Th.Le.trans (Th.Le.mono (Th.Le.refl _) (Th.Le.trans (Th.Le.mono (Th.Le.refl _) (Th.Le.trans (Th.Le.mono (Th.Le.refl _) (Th.Le.rot _ _ _)) (Th.Le.rot _ _ _))) (Th.Le.rot _ _ _))) (Th.Le.rot _ _ _)) (Th.Le.mono (Th.Le.refl _) (Th.Le.mono (Th.Le.refl _) (Th.Le.trans (Th.Le.rot _ _ _) (Th.Le.mono (Th.Le.refl _) (Th.Le.refl _)))))) HM2.out))
            go_wp2
            go_loopw [10, 18] (fun g i wr => ∃ n : Nat, n ≤ m ∧ i = .int .i64 n ∧ Mine W wr ((refT r 300 (((xof xs).take n).foldl stepRC (d, [])).1).and ((listT g (((xof xs).take n).foldl stepRC (d, [])).2).and ((mapT b l2).and ((listT f ws).and ((objT w.heap.size (.cells #[.int .i64 1, .slice la m lc, .int .i64 q, .int .i64 t] 34)).and B)))))) (fun _ i _ => m - (intOf i).toNat)
            case atStart => exact ⟨0, Nat.zero_le _, rfl, HM2.out⟩
            case round =>
              clear c0 c1 c2 c3 HM2
              obtain ⟨n, hnm, rfl, hM3⟩ := hrel
              have HM3 := hide hM3
              clear hM3
              by_cases hlt : n < m
              · obtain ⟨c0, c1, c2, c3⟩ := HC0.out _ (HOB.out _ _ (Mine.le (Th.Le.trans (Th.Le.trans (Th.Le.mono (Th.Le.refl _) (Th.Le.trans (Th.Le.mono (Th.Le.refl _) (Th.Le.trans (Th.Le.mono (Th.Le.refl _) (Th.Le.rot _ _ _)) (Th.Le.rot _ _ _))) (Th.Le.rot _ _ _))) (Th.Le.rot _ _ _)) (Th.Le.mono (Th.Le.refl _) (Th.Le.mono (Th.Le.refl _) (Th.Le.trans (Th.Le.rot _ _ _) (Th.Le.mono (Th.Le.refl _) (Th.Le.refl _)))))) HM3.out))
                obtain ⟨x, hx⟩ : ∃ x, xs[n]? = some x := ⟨_, List.getElem?_eq_getElem (by have := HL.out; omega)⟩
                have hmm := HALL.out x (List.mem_of_getElem? hx)
                have s3 := HXF.out x.x (List.mem_of_getElem? (xof_get hx))
                have HT := hide (fold_take stepRC (d, []) (xof_get hx))
                have HOK := hide (cutsN_ok (xs := (xof xs).take n) (ws := []) HI.out.ok fun y hy => HXF.out y (List.mem_of_mem_take hy))
                obtain ⟨hxa, hxn, s2, _⟩ := Ix.s_ix hmm
                obtain ⟨gg, off, rfl, hg, e0, e1, _, _⟩ := (HES.out.later HM3.out.below).cells n x hx
                have HEA : Hid (∀ w', Below W.heap.size W w' → w'.cell? ⟨gg, off + n * 4, none⟩ = some (.int .i64 x.a) ∧ w'.cell? ⟨gg, off + n * 4 + 1, none⟩ = some (.int .i64 x.n)) := fun w' hb' => by
                  obtain ⟨g', off', ea, _, r0, r1, r2, r3⟩ := (HES.out.later hb').cells n x hx
                  injection ea with ea
                  injection ea with ea1 ea2 _
                  subst ea1 ea2
                  exact ⟨r0, r1⟩
                rw [hxa] at e0 HEA
                rw [hxn] at e1 HEA
                generalize hy : x.x = y at *
                obtain ⟨ya, yl, yq, yt⟩ := y
                simp only at e0 e1 HEA
                unfold Xt.fin at s3
                simp only at s2 s3
                clear hmm hxa hxn hx hy
                generalize hP : (((xof xs).take n).foldl stepRC (d, [])) = P at *
                obtain ⟨D, acc⟩ := P
                simp only [List.length_nil, Nat.zero_add] at HOK HM3
                have hacc : acc.length ≤ 300 * 10 := by have h1 := HOK.out.2; rw [List.length_take] at h1; omega
                have HST : Hid (stepRC (D, acc) ⟨ya, yl, yq, yt⟩ = (D.cutN ya yl, acc ++ findN D ya yl)) := rfl
                rw [HST.out] at HT
                have hfl := findN_len D ya yl
                obtain ⟨XR, ⟨gi, gs, hR, hXR⟩, _, _⟩ := Mine.go ((listT_good _ _).and ((mapT_good b l2).and ((listT_good f ws).and ((objT_good _ _).and hB)))) HM3.out
                have hc := reffind_any hR HOK.out.1 (by omega) ya yl (by omega)
                clear hR hXR hP
                generalize hL2 : findN D ya yl = L2 at *
                go_wp2_with fail
                refine hc.mono ?_
                rintro e w3 ⟨f2, rfl, hf2, hn2, hb3⟩
                obtain ⟨va, vc, rfl, hvl, hvm⟩ := hf2.len
                have HM4 := hide (Mine.new ((refT_good _ _ _).and ((listT_good _ _).and ((mapT_good b l2).and ((listT_good f ws).and ((objT_good _ _).and hB))))) HM3.out hb3 (B := listT (.slice va L2.length vc) L2) ⟨_, ⟨hf2, fun _ => Iff.rfl⟩, hn2⟩)
                clear hc hb3 hn2 c0 c1 c2 c3 e0 e1
                have HV3 := hide hf2
                obtain ⟨XA, hXA, _, hrun⟩ := Mine.run (Mine.le (Th.Le.trans (Th.Le.trans (Th.Le.trans (Th.Le.mono (Th.Le.refl _) (Th.Le.rot _ _ _)) (Th.Le.rot _ _ _)) (Th.Le.mono (Th.Le.refl _) (Th.Le.refl _))) (Th.Le.trans (Th.Le.swap _ _) (Th.Le.mono (Th.Le.swap _ _) (Th.Le.refl _)))) HM4.out)
                have HF3 : Hid (Xs w3 u10 acc) := by
                  obtain ⟨_, _, _, h2, _⟩ := hXA
                  exact h2.1
                have HQ := hide (encXs_oneCell L2)
                have b1 : acc.length + L2.length ≤ maxLen := by unfold maxLen; omega
                have b2 : (acc.length + L2.length) * 32 ≤ 140737488355328 := by omega
                have HAP : Hid (∀ v4 w4, Rw w4 40 4 v4 (acc.length + L2.length) (encXs acc ++ encXs L2) → w3.grownBy w4 u10.ownBlock → Moved w3 u10 v4 → Mine W w4 ((refT r 300 D).and ((listT v4 (acc ++ L2)).and ((mapT b l2).and ((listT f ws).and ((objT w.heap.size (.cells #[.int .i64 1, .slice (some ⟨gg, off, none⟩) m lc, .int .i64 q, .int .i64 t] 34)).and B)))))) := fun v4 w4 g1 g2 g3 => Mine.le (Th.Le.trans (Th.Le.swap _ _) (Th.Le.trans (Th.Le.rot _ _ _) (Th.Le.mono (Th.Le.refl _) (Th.Le.refl _)))) (hrun (append_step ((refT_good r 300 D).and ((mapT_good b l2).and ((listT_good f ws).and ((objT_good _ _).and hB)))) hXA g1 g2 g3))
                clear hf2 hXA hrun
                go_wp2_with (at_builtin; refine append30 rfl (.tmp 143) (.tmp 151) rfl _ _ _ rfl HF3.out va _ vc _ rfl HV3.out HQ.out b1 b2 ?_; intro v4 w4 g1 g2 g3; have HM5 := hide (HAP.out v4 w4 g1 g2 g3); clear g1 g2 g3; obtain ⟨c0, c1, c2, c3⟩ := HC0.out _ (HOB.out _ _ (Mine.le (Th.Le.trans (Th.Le.trans (Th.Le.mono (Th.Le.refl _) (Th.Le.trans (Th.Le.mono (Th.Le.refl _) (Th.Le.trans (Th.Le.mono (Th.Le.refl _) (Th.Le.rot _ _ _)) (Th.Le.rot _ _ _))) (Th.Le.rot _ _ _))) (Th.Le.rot _ _ _)) (Th.Le.mono (Th.Le.refl _) (Th.Le.mono (Th.Le.refl _) (Th.Le.trans (Th.Le.rot _ _ _) (Th.Le.mono (Th.Le.refl _) (Th.Le.refl _)))))) HM5.out)); obtain ⟨e0, e1⟩ := HEA.out w4 HM5.out.below; obtain ⟨XR, ⟨gi, gs, hR, hXR⟩, _, hgo⟩ := Mine.go ((listT_good _ _).and ((mapT_good b l2).and ((listT_good f ws).and ((objT_good _ _).and hB)))) HM5.out; have hc := refcut_any hR (by omega) ya yl (by omega); have HGO : Hid (∀ w', RefL w4 w' r gi gs 300 (D.cutN ya yl) → _) := fun w' h => hgo (h.left hXR); clear hR hXR hgo HM5 HAP HM4 HF3 HV3 b1 b2)
                refine hc.mono ?_
                rintro e w5 ⟨rfl, hl5⟩
                have HM6 := hide (HGO.out w5 hl5)
                clear hc hl5 HGO c0 c1 c2 c3 e0 e1
                go_wp2
                go_roundw
                case rel => exact ⟨n + 1, by omega, by go_num, by rw [HT.out]; exact HM6.out⟩
                case measure => simp [intOf]; omega
              · obtain rfl : n = m := by omega
                have hfull : (xof xs).take n = xof xs := List.take_of_length_le (by rw [xof_len, ← HL.out]; exact Nat.le_refl _)
                rw [hfull] at HM3
                obtain ⟨c0, c1, c2, c3⟩ := HC0.out _ (HOB.out _ _ (Mine.le (Th.Le.trans (Th.Le.trans (Th.Le.mono (Th.Le.refl _) (Th.Le.trans (Th.Le.mono (Th.Le.refl _) (Th.Le.trans (Th.Le.mono (Th.Le.refl _) (Th.Le.rot _ _ _)) (Th.Le.rot _ _ _))) (Th.Le.rot _ _ _))) (Th.Le.rot _ _ _)) (Th.Le.mono (Th.Le.refl _) (Th.Le.mono (Th.Le.refl _) (Th.Le.trans (Th.Le.rot _ _ _) (Th.Le.mono (Th.Le.refl _) (Th.Le.refl _)))))) HM3.out))
                have HOK := hide (cutsN_ok (xs := xof xs) (ws := []) HI.out.ok HXF.out)
                have hws : ws.length ≤ 1000000 := by
                  have h1 := HOK.out.2
                  rw [HW2.out]
                  rw [xof_len, ← HL.out, List.length_nil] at h1
                  omega
                have HFIN : Hid (Inv l2 ((xof xs).foldl stepRC (d, [])).1) := ⟨HF2.out, HR2.out, HOK.out.1⟩
                rw [← HW2.out] at HM3
                generalize ((xof xs).foldl stepRC (d, [])).1 = D at *
                have hxs : Xs wr f ws ∧ Xs wr u10 ws := by
                  obtain ⟨_, ⟨_, _, _, ⟨_, _, h1, ⟨_, _, _, ⟨_, _, h2, _⟩, _⟩, _⟩, _⟩, _⟩ := HM3.out
                  exact ⟨h2.1, h1.1⟩
                have hc := same_yes hxs.1 hxs.2 hws
                clear hxs
                go_wp2_with fail
                refine hc.mono ?_
                rintro e w3 ⟨rfl, hb3⟩
                have HM4 := hide (Mine.later ((refT_good _ _ _).and ((listT_good _ _).and ((mapT_good b l2).and ((listT_good f ws).and ((objT_good _ _).and hB))))) HM3.out hb3)
                clear hc hb3 c0 c1 c2 c3
                go_wp2
                go_ret
                exact ⟨rfl, l2, D, HFIN.out, Mine.le (Th.Le.trans (Th.Le.trans (Th.Le.mono (Th.Le.refl _) (Th.Le.rot _ _ _)) (Th.Le.rot _ _ _)) (Th.Le.mono (Th.Le.refl _) (Th.Le.mono (Th.Le.refl _) (Th.Le.trans (Th.Le.trans (Th.Le.mono (Th.Le.refl _) (Th.Le.trans (Th.Le.mono (Th.Le.refl _) (Th.Le.swap _ _)) (Th.Le.rot _ _ _))) (Th.Le.rot _ _ _)) (Th.Le.fst _ _))))) HM4.out⟩

end Wi
end Go.Proofs.Ytjbgojccfkmlnaa

namespace Go.Proofs.Ytjbgojccfkmlnaa
open Go.RowKit
namespace Wi

theorem Fit.mv {l : List Xt} (h : Fit l) {x : Xt} (hx : x.fin ≤ 65536) {q t : Nat} (hq : q < 1099511627776) (ht : t < 1099511627776) : Fit (mvL l x q t) := by
  obtain ⟨m1, m2⟩ := mv_in h.can x q t
  refine h.lay m1 (fun y hy => ?_) (by unfold Xt.fin; omega) m2
  have hsw : Sm (wasL l x.at_ x.fin) := (h.sm.behind h.can.ris).ahead (behind_ris h.can.ris)
  obtain ⟨z, hz, rfl⟩ := List.mem_map.1 hy
  obtain ⟨b1, b2, b3⟩ := hsw z hz
  have b4 := was_in h.can.ris z hz
  unfold mvX
  split
  · unfold Xt.Sm Xt.fin at *
    simp only at *
    omega
  · exact ⟨b1, b2, b3⟩
theorem Inv.move {l : List Xt} {d : Rf} (h : Inv l d) {x : Xt} (hx : x.fin ≤ 300) {q t : Nat} (hq : q < 1099511627776) (ht : t < 1099511627776) : Inv (mvL l x q t) (d.moveN x q t x.len) :=
  ⟨h.fit.mv (by omega) hq ht, mv_rel h.fit.can h.rel hx q t, h.ok.moveN (by unfold Xt.fin at hx; omega) hq ht⟩
theorem mayP_nat {q t : Int} (h : mayP q t = true) : q = (q.toNat : Nat) ∧ t = (t.toNat : Nat) ∧ q.toNat < 1099511627776 ∧ t.toNat < 1099511627776 := by
  unfold mayP at h
  have := of_decide_eq_true h
  omega

set_option maxRecDepth 100000 in
set_option maxHeartbeats 8000000 in
theorem does_move {W w : World} {B : Th} {b r : Nat} {l : List Xt} {d : Rf} (hB : B.Good) (hM : Mine W w ((mapT b l).and ((refT r 300 d).and B))) (hI : Inv l d) {o : OpV} (ho : OpOk W o) (hop : opB o = true) (hask : o.ask = 2) :
    Calls Try.prog 14 #[.pointer (some ⟨b, 0, none⟩), .pointer (some ⟨r, 0, none⟩), .agg o.cells.toArray] w (DoesPost W B b r) := by
  have hMB := Mine.obj ((mapT_good b l).and ((refT_good r 300 d).and hB)) hM (.cells o.cells.toArray 34)
  have HM0 := hide hMB
  have HES := hide ho.es
  have hcap := ho.cap
  have HL := hide ho.es.len
  have hmost := ho.es.most
  have hln := opB_ln hop
  have HFAR := hide (opB_far hop)
  have HI := hide hI
  have HRQ : Hid (I64 o.q ∧ I64 o.t ∧ I64 o.ask) := ⟨ho.q, ho.t, ho.ask⟩
  obtain ⟨ask, la, ln, lc, q, t, xs⟩ := o
  unfold OpV.cells at *
  simp only at *
  obtain rfl : ask = 2 := hask
  have HC0 : Hid (∀ w' : World, w'.heap[w.heap.size]? = some (.cells #[.int .i64 2, .slice la ln lc, .int .i64 q, .int .i64 t] 34 (0, 0)) → w'.cell? ⟨w.heap.size, 0, none⟩ = some (.int .i64 2) ∧ w'.cell? ⟨w.heap.size, 1, none⟩ = some (.slice la ln lc) ∧ w'.cell? ⟨w.heap.size, 2, none⟩ = some (.int .i64 q) ∧ w'.cell? ⟨w.heap.size, 3, none⟩ = some (.int .i64 t)) := fun w' hh => by
    refine ⟨?_, ?_, ?_, ?_⟩ <;> (rw [cell_of_row _ _ _ _ _ _ hh]; rfl)
  have HOB : Hid (∀ (w' : World) (A : Th), Mine W w' ((objT w.heap.size (.cells #[.int .i64 2, .slice la ln lc, .int .i64 q, .int .i64 t] 34)).and A) → w'.heap[w.heap.size]? = some (.cells #[.int .i64 2, .slice la ln lc, .int .i64 q, .int .i64 t] 34 (0, 0))) := fun w' A h => by
    obtain ⟨_, ⟨_, _, h1, _⟩, _⟩ := h
    exact h1.1
  obtain ⟨W0, hW0⟩ : ∃ W0, W0 = w.alloc (.cells #[.int .i64 2, .slice la ln lc, .int .i64 q, .int .i64 t] 34) := ⟨_, rfl⟩
  have HW0 := hide hW0
  have HMW : Hid (Mine W W0 ((objT w.heap.size (.cells #[.int .i64 2, .slice la ln lc, .int .i64 q, .int .i64 t] 34)).and ((mapT b l).and ((refT r 300 d).and B)))) := by show Mine _ _ _; rw [hW0]; exact HM0.out
  clear hMB hM ho hop hI HM0 hW0 
  obtain ⟨c0, c1, c2, c3⟩ := HC0.out W0 (HOB.out W0 _ HMW.out)
  go_enter Try.func14, Try.ntmps14
  go_wp2
  rw [← HW0.out]
  go_loopw [7, 8, 9] (fun u v i wr => ∃ k : Nat, k ≤ ln ∧ i = .int .i64 k ∧ u = .bool ((xs.take k).all Ix.may) ∧ v = .bool ((xs.take k).all Ix.mays) ∧ Below W0.heap.size W0 wr) (fun _ _ i _ => ln - (intOf i).toNat)
  case atStart => exact ⟨0, Nat.zero_le _, rfl, by simp, by simp, Below.refl _ _⟩
  case round =>
    clear c0 c1 c2 c3
    obtain ⟨k, hk, rfl, rfl, rfl, hbw⟩ := hrel
    have HM1 := hide (Mine.later ((objT_good _ _).and ((mapT_good b l).and ((refT_good r 300 d).and hB))) HMW.out hbw)
    have HBW := hide hbw
    obtain ⟨c0, c1, c2, c3⟩ := HC0.out wr (HOB.out wr _ HM1.out)
    by_cases hlt : k < ln
    · obtain ⟨x, hx⟩ : ∃ x, xs[k]? = some x := ⟨_, List.getElem?_eq_getElem (by have := HL.out; omega)⟩
      have hr := HES.out.rng x (List.mem_of_getElem? hx)
      obtain ⟨g, off, rfl, hg, e0, e1, e2, e3⟩ := (HES.out.later HM1.out.below).cells k x hx
      have HT1 := hide (take_all Ix.may hx)
      have HT2 := hide (take_all Ix.mays hx)
      have HX := hide hx
      have HMM : Hid ((xs.take k).all Ix.may = true → (xs.take k).all Ix.mays = true) := fun h => all_may_mays h
      have hcm := refmay_any x.a x.n x.q x.t hr.a hr.n wr
      have HCS : Hid (∀ w', _) := fun w' => refspan_any x.a x.n hr.a hr.n w'
      have HME : Hid (x.may = mayX x.a x.n x.q x.t) := rfl
      have HMS : Hid (x.mays = mayS x.a x.n) := rfl
      rw [HME.out] at HT1
      rw [HMS.out] at HT2
      obtain ⟨xa, xn, xq, xt⟩ := x
      simp only at *
      generalize hu : (xs.take k).all Ix.may = U at *
      generalize hv : (xs.take k).all Ix.mays = V at *
      generalize hm1 : mayX xa xn xq xt = M1 at *
      generalize hm2 : mayS xa xn = M2 at *
      clear hx hr hu hv hm1 hm2 hbw
      cases V with
      | true =>
        cases U with
        | true =>
          have hEL := HES.out.later HM1.out.below
          go_wp2_with fail
          refine hcm.mono ?_
          rintro e w2 ⟨rfl, hb2⟩
          have HM2 := hide (Mine.later ((objT_good _ _).and ((mapT_good b l).and ((refT_good r 300 d).and hB))) HM1.out hb2)
          have HB2 := hide (HBW.out.trans (hb2.mono HBW.out.size))
          clear c0 c1 c2 c3 e0 e1 e2 e3 hcm hb2 hEL
          obtain ⟨c0, c1, c2, c3⟩ := HC0.out w2 (HOB.out w2 _ HM2.out)
          obtain ⟨g', off', ea, hg', e0, e1, e2, e3⟩ := (HES.out.later HM2.out.below).cells k _ HX.out
          injection ea with ea
          injection ea with ea1 ea2 _
          subst ea1 ea2
          simp only at e0 e1 e2 e3
          have hcs := HCS.out w2
          go_wp2_with fail
          refine hcs.mono ?_
          rintro e w3 ⟨rfl, hb3⟩
          have HB3 := hide (HB2.out.trans (hb3.mono HB2.out.size))
          clear c0 c1 c2 c3 e0 e1 e2 e3 hcs hb3
          go_wp2
          go_roundw
          case rel => exact ⟨k + 1, by omega, by go_num, by rw [HT1.out, Bool.true_and], by rw [HT2.out, Bool.true_and], HB3.out⟩
          case measure => simp [intOf]; omega
        | false =>
          have hcs := HCS.out wr
          go_wp2_with fail
          refine hcs.mono ?_
          rintro e w3 ⟨rfl, hb3⟩
          have HB3 := hide (HBW.out.trans (hb3.mono HBW.out.size))
          clear c0 c1 c2 c3 e0 e1 e2 e3 hcs hb3 hcm
          go_wp2
          go_roundw
          case rel => exact ⟨k + 1, by omega, by go_num, by rw [HT1.out, Bool.false_and], by rw [HT2.out, Bool.true_and], HB3.out⟩
          case measure => simp [intOf]; omega
      | false =>
        obtain rfl : U = false := by
          cases U with
          | false => rfl
          | true => exact absurd (HMM.out rfl) (by decide)
        clear e0 e1 e2 e3 hcm
        go_wp2
        go_roundw
        case rel => exact ⟨k + 1, by omega, by go_num, by rw [HT1.out, Bool.false_and], by rw [HT2.out, Bool.false_and], HBW.out⟩
        case measure => simp [intOf]; omega
    · obtain rfl : k = ln := by omega
      have hfull : xs.take k = xs := List.take_of_length_le (by rw [← HL.out]; exact Nat.le_refl _)
      rw [hfull]
      have HSE := hide (HES.out.later HM1.out.below)
      clear hbw hlt hk HMW
      generalize xs.all Ix.may = U at *
      generalize xs.all Ix.mays = V at *
      by_cases hk0 : k = 0
      · subst hk0
        go_wp2
        go_ret
        exact ⟨rfl, l, d, HI.out, Mine.le (Th.Le.trans (Th.Le.rot _ _ _) (Th.Le.mono (Th.Le.refl _) (Th.Le.trans (Th.Le.rot _ _ _) (Th.Le.mono (Th.Le.refl _) (Th.Le.trans (Th.Le.swap _ _) (Th.Le.fst _ _)))))) HM1.out⟩
      · obtain ⟨x, hx⟩ : ∃ x, xs[0]? = some x := ⟨_, List.getElem?_eq_getElem (by have := HL.out; omega)⟩
        have hr := HES.out.rng x (List.mem_of_getElem? hx)
        have hfar := HFAR.out x (List.mem_of_getElem? hx)
        obtain ⟨g, off, rfl, hg, e0, e1, e2, e3⟩ := (HES.out.later HM1.out.below).cells 0 x hx
        simp only [Nat.zero_mul, Nat.add_zero] at e0 e1 e2 e3
        have hkp : 0 < k := by omega
        have hix : mayX x.a x.n x.q x.t = true → x.may = true := fun h => h
        have HXX : Hid (mayX x.a x.n x.q x.t = true → x.x.ix = x ∧ x.x.Sm ∧ 1 ≤ x.x.len ∧ x.x.fin ≤ 300) := fun h => ⟨Ix.x_ix (hix h), (Ix.sm (hix h)).1, (Ix.sm (hix h)).2, hfar (may_mays (hix h))⟩
        have HMN : Hid (∀ (w' : World) (bb : Nat), (mayX x.a x.n x.q x.t = false ∨ mayP q t = false) → _) := fun w' bb h => move_no (w := w') (b := bb) x.a x.n x.q x.t q t hr.a hr.n h
        have HCM : Hid (∀ w' : World, _) := fun w' => refmay_any x.a x.n x.q x.t hr.a hr.n w'
        have HCP : Hid (∀ w' : World, _) := fun w' => refspot_any q t w'
        obtain ⟨xa, xn, xq, xt⟩ := x
        simp only at *
        have HMX := hide (Mine.obj ((objT_good _ _).and ((mapT_good b l).and ((refT_good r 300 d).and hB))) HM1.out (.cells #[.int .i64 xa, .int .i64 xn, .int .i64 xq, .int .i64 xt] 40))
        have HCX : Hid (∀ (w' : World) (A : Th), Mine W w' ((objT wr.heap.size (.cells #[.int .i64 xa, .int .i64 xn, .int .i64 xq, .int .i64 xt] 40)).and A) → w'.cell? ⟨wr.heap.size, 0, none⟩ = some (.int .i64 xa) ∧ w'.cell? ⟨wr.heap.size, 1, none⟩ = some (.int .i64 xn) ∧ w'.cell? ⟨wr.heap.size, 2, none⟩ = some (.int .i64 xq) ∧ w'.cell? ⟨wr.heap.size, 3, none⟩ = some (.int .i64 xt)) := fun w' A h => by
          obtain ⟨_, ⟨_, _, h1, _⟩, _⟩ := h
          have hh := h1.1
          refine ⟨?_, ?_, ?_, ?_⟩ <;> (rw [cell_of_row _ _ _ _ _ _ hh]; rfl)
        obtain ⟨WX, hWX⟩ : ∃ WX, WX = wr.alloc (.cells #[.int .i64 xa, .int .i64 xn, .int .i64 xq, .int .i64 xt] 40) := ⟨_, rfl⟩
        rw [← hWX] at HMX
        have HWX := hide hWX
        clear hx hr hfar hix hg hWX
        cases hmx : mayX xa xn xq xt with
        | false =>
          have hc := HMN.out WX b (.inl hmx)
          have hc2 := fun w' => HCM.out w'
          rw [hmx] at hc2
          obtain ⟨d0, d1, d2, d3⟩ := HC0.out WX (HOB.out WX _ (Mine.le (Th.Le.trans (Th.Le.rot _ _ _) (Th.Le.mono (Th.Le.refl _) (Th.Le.refl _))) HMX.out))
          obtain ⟨x0, x1, x2, x3⟩ := HCX.out WX _ HMX.out
          clear hmx
          rw [HWX.out] at hc d0 d1 d2 d3 x0 x1 x2 x3
          go_wp2_with fail
          refine hc.mono ?_
          rintro e w2 ⟨rfl, hb2⟩
          rw [← HWX.out] at hb2
          have HM2 := hide (Mine.later ((objT_good _ _).and ((objT_good _ _).and ((mapT_good b l).and ((refT_good r 300 d).and hB)))) HMX.out hb2)
          clear hc hb2 c0 c1 c2 c3 d0 d1 d2 d3 x0 x1 x2 x3 e0 e1 e2 e3
          obtain ⟨x0, x1, x2, x3⟩ := HCX.out w2 _ HM2.out
          have hc := hc2 w2
          go_wp2_with fail
          refine hc.mono ?_
          rintro e w3 ⟨rfl, hb3⟩
          have HM3 := hide (Mine.later ((objT_good _ _).and ((objT_good _ _).and ((mapT_good b l).and ((refT_good r 300 d).and hB)))) HM2.out hb3)
          clear hc hb3 x0 x1 x2 x3 hc2
          go_wp2
          go_ret
          exact ⟨rfl, l, d, HI.out, Mine.le (Th.Le.trans (Th.Le.trans (Th.Le.mono (Th.Le.refl _) (Th.Le.rot _ _ _)) (Th.Le.rot _ _ _)) (Th.Le.mono (Th.Le.refl _) (Th.Le.trans (Th.Le.trans (Th.Le.mono (Th.Le.refl _) (Th.Le.rot _ _ _)) (Th.Le.rot _ _ _)) (Th.Le.mono (Th.Le.refl _) (Th.Le.trans (Th.Le.trans (Th.Le.mono (Th.Le.refl _) (Th.Le.swap _ _)) (Th.Le.rot _ _ _)) (Th.Le.fst _ _)))))) HM3.out⟩
        | true =>
          have hc2 := fun w' => HCM.out w'
          rw [hmx] at hc2
          cases hmp : mayP q t with
          | false =>
            have hc := HMN.out WX b (.inr hmp)
            have hc3 := fun w' => HCP.out w'
            rw [hmp] at hc3
            obtain ⟨d0, d1, d2, d3⟩ := HC0.out WX (HOB.out WX _ (Mine.le (Th.Le.trans (Th.Le.rot _ _ _) (Th.Le.mono (Th.Le.refl _) (Th.Le.refl _))) HMX.out))
            obtain ⟨x0, x1, x2, x3⟩ := HCX.out WX _ HMX.out
            clear hmx hmp
            rw [HWX.out] at hc d0 d1 d2 d3 x0 x1 x2 x3
            go_wp2_with fail
            refine hc.mono ?_
            rintro e w2 ⟨rfl, hb2⟩
            rw [← HWX.out] at hb2
            have HM2 := hide (Mine.later ((objT_good _ _).and ((objT_good _ _).and ((mapT_good b l).and ((refT_good r 300 d).and hB)))) HMX.out hb2)
            clear hc hb2 c0 c1 c2 c3 d0 d1 d2 d3 x0 x1 x2 x3 e0 e1 e2 e3
            obtain ⟨x0, x1, x2, x3⟩ := HCX.out w2 _ HM2.out
            have hc := hc2 w2
            go_wp2_with fail
            refine hc.mono ?_
            rintro e w3 ⟨rfl, hb3⟩
            have HM3 := hide (Mine.later ((objT_good _ _).and ((objT_good _ _).and ((mapT_good b l).and ((refT_good r 300 d).and hB)))) HM2.out hb3)
            clear hc hb3 x0 x1 x2 x3 hc2
            obtain ⟨d0, d1, d2, d3⟩ := HC0.out w3 (HOB.out w3 _ (Mine.le (Th.Le.trans (Th.Le.rot _ _ _) (Th.Le.mono (Th.Le.refl _) (Th.Le.refl _))) HM3.out))
            have hc := hc3 w3
            go_wp2_with fail
            refine hc.mono ?_
            rintro e w4 ⟨rfl, hb4⟩
            have HM4 := hide (Mine.later ((objT_good _ _).and ((objT_good _ _).and ((mapT_good b l).and ((refT_good r 300 d).and hB)))) HM3.out hb4)
            clear hc hb4 d0 d1 d2 d3 hc3
            go_wp2
            go_ret
            exact ⟨rfl, l, d, HI.out, Mine.le (Th.Le.trans (Th.Le.trans (Th.Le.mono (Th.Le.refl _) (Th.Le.rot _ _ _)) (Th.Le.rot _ _ _)) (Th.Le.mono (Th.Le.refl _) (Th.Le.trans (Th.Le.trans (Th.Le.mono (Th.Le.refl _) (Th.Le.rot _ _ _)) (Th.Le.rot _ _ _)) (Th.Le.mono (Th.Le.refl _) (Th.Le.trans (Th.Le.trans (Th.Le.mono (Th.Le.refl _) (Th.Le.swap _ _)) (Th.Le.rot _ _ _)) (Th.Le.fst _ _)))))) HM4.out⟩
          | true =>
            have hc3 := fun w' => HCP.out w'
            rw [hmp] at hc3
            obtain ⟨hxi, hxs, hx1, hx3⟩ := HXX.out hmx
            obtain ⟨hq1, ht1, hq2, ht2⟩ := mayP_nat hmp
            have ea := congrArg Ix.a hxi
            have en := congrArg Ix.n hxi
            have eq := congrArg Ix.q hxi
            have et := congrArg Ix.t hxi
            simp only [Xt.ix] at ea en eq et
            generalize hy : (Ix.x ⟨xa, xn, xq, xt⟩) = y at *
            obtain ⟨ya, yl, yq, yt⟩ := y
            simp only at ea en eq et hx1
            subst ea en eq et
            obtain ⟨qn, rfl⟩ : ∃ n : Nat, q = n := ⟨_, hq1⟩
            obtain ⟨tn, rfl⟩ : ∃ n : Nat, t = n := ⟨_, ht1⟩
            simp only [Int.toNat_natCast] at hq2 ht2
            have hx33 := hx3
            unfold Xt.fin at hx3
            simp only at hx3
            obtain ⟨s1, s2, s3⟩ := hxs
            simp only at s2 s3
            obtain ⟨XM, hXM, hge, hgo⟩ := Mine.go ((objT_good _ _).and ((objT_good _ _).and ((refT_good r 300 d).and hB))) (Mine.le (Th.Le.trans (Th.Le.trans (Th.Le.mono (Th.Le.refl _) (Th.Le.rot _ _ _)) (Th.Le.rot _ _ _)) (Th.Le.mono (Th.Le.refl _) (Th.Le.refl _))) HMX.out)
            have hc := move_ok hXM HI.out.fit ya yl yq yt qn tn ⟨s1, s2, s3⟩ hx1 hmx hmp hq2 ht2
            have HGO : Hid (∀ w', LeftT (mapT b (mvL l ⟨ya, yl, yq, yt⟩ qn tn)) WX XM w' → Mine W w' ((mapT b (mvL l ⟨ya, yl, yq, yt⟩ qn tn)).and ((objT wr.heap.size (.cells #[.int .i64 (ya : Nat), .int .i64 (yl : Nat), .int .i64 (yq : Nat), .int .i64 (yt : Nat)] 40)).and ((objT w.heap.size (.cells #[.int .i64 2, .slice (some ⟨g, off, none⟩) k lc, .int .i64 (qn : Nat), .int .i64 (tn : Nat)] 34)).and ((refT r 300 d).and B))))) := fun w' h => hgo h
            have HIV : Hid (Inv (mvL l ⟨ya, yl, yq, yt⟩ qn tn) (d.moveN ⟨ya, yl, yq, yt⟩ qn tn yl)) := HI.out.move hx33 hq2 ht2
            have HCN : Hid (lens ((wasL l ya (ya + yl)).filter (hitX ⟨ya, yl, yq, yt⟩)) = d.moved ⟨ya, yl, yq, yt⟩ yl) := mv_count HI.out.fit.can HI.out.rel hx33
            rw [HCN.out] at hc
            generalize mvL l ⟨ya, yl, yq, yt⟩ qn tn = l2 at *
            obtain ⟨d0, d1, d2, d3⟩ := HC0.out WX (HOB.out WX _ (Mine.le (Th.Le.trans (Th.Le.rot _ _ _) (Th.Le.mono (Th.Le.refl _) (Th.Le.refl _))) HMX.out))
            obtain ⟨x0, x1, x2, x3⟩ := HCX.out WX _ HMX.out
            clear hmx hmp hXM hge hgo hxi hy hq1 ht1 HXX HMN HCM HCP s1
            generalize hnn : d.moved ⟨ya, yl, yq, yt⟩ yl = nn at *
            have HNN := hide hnn
            clear hnn
            rw [HWX.out] at hc d0 d1 d2 d3 x0 x1 x2 x3
            go_wp2_with fail
            refine hc.mono ?_
            rintro e w2 ⟨rfl, hl2⟩
            rw [← HWX.out] at hl2
            have HM2 := hide (HGO.out w2 hl2)
            clear hc hl2 HGO c0 c1 c2 c3 d0 d1 d2 d3 x0 x1 x2 x3 e0 e1 e2 e3
            obtain ⟨x0, x1, x2, x3⟩ := HCX.out w2 _ (Mine.le (Th.Le.trans (Th.Le.rot _ _ _) (Th.Le.mono (Th.Le.refl _) (Th.Le.refl _))) HM2.out)
            have hc := hc2 w2
            go_wp2_with fail
            refine hc.mono ?_
            rintro e w3 ⟨rfl, hb3⟩
            have HM3 := hide (Mine.later ((mapT_good b l2).and ((objT_good _ _).and ((objT_good _ _).and ((refT_good r 300 d).and hB)))) HM2.out hb3)
            clear hc hb3 x0 x1 x2 x3 hc2 HM2
            obtain ⟨d0, d1, d2, d3⟩ := HC0.out w3 (HOB.out w3 _ (Mine.le (Th.Le.trans (Th.Le.trans (Th.Le.mono (Th.Le.refl _) (Th.Le.rot _ _ _)) (Th.Le.rot _ _ _)) (Th.Le.mono (Th.Le.refl _) (Th.Le.trans (Th.Le.rot _ _ _) (Th.Le.mono (Th.Le.refl _) (Th.Le.refl _))))) HM3.out))
            have hc := hc3 w3
            go_wp2_with fail
            refine hc.mono ?_
            rintro e w4 ⟨rfl, hb4⟩
            have HM4 := hide (Mine.later ((mapT_good b l2).and ((objT_good _ _).and ((objT_good _ _).and ((refT_good r 300 d).and hB)))) HM3.out hb4)
            clear hc hb4 d0 d1 d2 d3 hc3 HM3
            obtain ⟨d0, d1, d2, d3⟩ := HC0.out w4 (HOB.out w4 _ (Mine.le (Th.Le.trans (Th.Le.trans (Th.Le.mono (Th.Le.refl _) (Th.Le.rot _ _ _)) (Th.Le.rot _ _ _)) (Th.Le.mono (Th.Le.refl _) (Th.Le.trans (Th.Le.rot _ _ _) (Th.Le.mono (Th.Le.refl _) (Th.Le.refl _))))) HM4.out))
            obtain ⟨x0, x1, x2, x3⟩ := HCX.out w4 _ (Mine.le (Th.Le.trans (Th.Le.rot _ _ _) (Th.Le.mono (Th.Le.refl _) (Th.Le.refl _))) HM4.out)
            obtain ⟨XR, ⟨gi, gs, hR, hXR⟩, _, hgo⟩ := Mine.go ((mapT_good b l2).and ((objT_good _ _).and ((objT_good _ _).and hB))) (Mine.le (Th.Le.trans (Th.Le.trans (Th.Le.mono (Th.Le.refl _) (Th.Le.trans (Th.Le.mono (Th.Le.refl _) (Th.Le.rot _ _ _)) (Th.Le.rot _ _ _))) (Th.Le.rot _ _ _)) (Th.Le.mono (Th.Le.refl _) (Th.Le.refl _))) HM4.out)
            have hc := refmove_any hR (by omega) ya yl yq yt qn tn (by omega) s3 (by omega)
            rw [HNN.out] at hc
            have HGO : Hid (∀ w', RefL w4 w' r gi gs 300 (d.moveN ⟨ya, yl, yq, yt⟩ qn tn yl) → _) := fun w' h => hgo (h.left hXR)
            clear hR hXR hgo HM4
            go_wp2_with fail
            refine hc.mono ?_
            rintro e w5 ⟨rfl, hl5⟩
            have HM5 := hide (HGO.out w5 hl5)
            clear hc hl5 HGO d0 d1 d2 d3 x0 x1 x2 x3
            go_wp2
            go_ret
            exact ⟨rfl, l2, _, HIV.out, Mine.le (Th.Le.trans (Th.Le.rot _ _ _) (Th.Le.mono (Th.Le.refl _) (Th.Le.mono (Th.Le.refl _) (Th.Le.trans (Th.Le.trans (Th.Le.mono (Th.Le.refl _) (Th.Le.swap _ _)) (Th.Le.rot _ _ _)) (Th.Le.fst _ _))))) HM5.out⟩

end Wi
end Go.Proofs.Ytjbgojccfkmlnaa

namespace Go.Proofs.Ytjbgojccfkmlnaa
open Go.RowKit
namespace Wi

set_option maxRecDepth 100000 in
set_option maxHeartbeats 8000000 in
theorem does_find {W w : World} {B : Th} {b r : Nat} {l : List Xt} {d : Rf} (hB : B.Good) (hM : Mine W w ((mapT b l).and ((refT r 300 d).and B))) (hI : Inv l d) {o : OpV} (ho : OpOk W o) (hop : opB o = true) (h0 : ¬ o.ask = 0) (h1 : ¬ o.ask = 1) (h2 : ¬ o.ask = 2) :
    Calls Try.prog 14 #[.pointer (some ⟨b, 0, none⟩), .pointer (some ⟨r, 0, none⟩), .agg o.cells.toArray] w (DoesPost W B b r) := by
  have hMB := Mine.obj ((mapT_good b l).and ((refT_good r 300 d).and hB)) hM (.cells o.cells.toArray 34)
  have HM0 := hide hMB
  have HES := hide ho.es
  have hcap := ho.cap
  have HL := hide ho.es.len
  have hmost := ho.es.most
  have hln := opB_ln hop
  have HFAR := hide (opB_far hop)
  have HI := hide hI
  have HRQ : Hid (I64 o.q ∧ I64 o.t ∧ I64 o.ask) := ⟨ho.q, ho.t, ho.ask⟩
  obtain ⟨ask, la, ln, lc, q, t, xs⟩ := o
  unfold OpV.cells at *
  simp only at *
  have HC0 : Hid (∀ w' : World, w'.heap[w.heap.size]? = some (.cells #[.int .i64 ask, .slice la ln lc, .int .i64 q, .int .i64 t] 34 (0, 0)) → w'.cell? ⟨w.heap.size, 0, none⟩ = some (.int .i64 ask) ∧ w'.cell? ⟨w.heap.size, 1, none⟩ = some (.slice la ln lc) ∧ w'.cell? ⟨w.heap.size, 2, none⟩ = some (.int .i64 q) ∧ w'.cell? ⟨w.heap.size, 3, none⟩ = some (.int .i64 t)) := fun w' hh => by
    refine ⟨?_, ?_, ?_, ?_⟩ <;> (rw [cell_of_row _ _ _ _ _ _ hh]; rfl)
  have HOB : Hid (∀ (w' : World) (A : Th), Mine W w' ((objT w.heap.size (.cells #[.int .i64 ask, .slice la ln lc, .int .i64 q, .int .i64 t] 34)).and A) → w'.heap[w.heap.size]? = some (.cells #[.int .i64 ask, .slice la ln lc, .int .i64 q, .int .i64 t] 34 (0, 0))) := fun w' A h => by
    obtain ⟨_, ⟨_, _, h1, _⟩, _⟩ := h
    exact h1.1
  obtain ⟨W0, hW0⟩ : ∃ W0, W0 = w.alloc (.cells #[.int .i64 ask, .slice la ln lc, .int .i64 q, .int .i64 t] 34) := ⟨_, rfl⟩
  have HW0 := hide hW0
  have HMW : Hid (Mine W W0 ((objT w.heap.size (.cells #[.int .i64 ask, .slice la ln lc, .int .i64 q, .int .i64 t] 34)).and ((mapT b l).and ((refT r 300 d).and B)))) := by show Mine _ _ _; rw [hW0]; exact HM0.out
  clear hMB hM ho hop hI HM0 hW0 
  obtain ⟨c0, c1, c2, c3⟩ := HC0.out W0 (HOB.out W0 _ HMW.out)
  go_enter Try.func14, Try.ntmps14
  go_wp2
  rw [← HW0.out]
  go_loopw [7, 8, 9] (fun u v i wr => ∃ k : Nat, k ≤ ln ∧ i = .int .i64 k ∧ u = .bool ((xs.take k).all Ix.may) ∧ v = .bool ((xs.take k).all Ix.mays) ∧ Below W0.heap.size W0 wr) (fun _ _ i _ => ln - (intOf i).toNat)
  case atStart => exact ⟨0, Nat.zero_le _, rfl, by simp, by simp, Below.refl _ _⟩
  case round =>
    clear c0 c1 c2 c3
    obtain ⟨k, hk, rfl, rfl, rfl, hbw⟩ := hrel
    have HM1 := hide (Mine.later ((objT_good _ _).and ((mapT_good b l).and ((refT_good r 300 d).and hB))) HMW.out hbw)
    have HBW := hide hbw
    obtain ⟨c0, c1, c2, c3⟩ := HC0.out wr (HOB.out wr _ HM1.out)
    by_cases hlt : k < ln
    · obtain ⟨x, hx⟩ : ∃ x, xs[k]? = some x := ⟨_, List.getElem?_eq_getElem (by have := HL.out; omega)⟩
      have hr := HES.out.rng x (List.mem_of_getElem? hx)
      obtain ⟨g, off, rfl, hg, e0, e1, e2, e3⟩ := (HES.out.later HM1.out.below).cells k x hx
      have HT1 := hide (take_all Ix.may hx)
      have HT2 := hide (take_all Ix.mays hx)
      have HX := hide hx
      have HMM : Hid ((xs.take k).all Ix.may = true → (xs.take k).all Ix.mays = true) := fun h => all_may_mays h
      have hcm := refmay_any x.a x.n x.q x.t hr.a hr.n wr
      have HCS : Hid (∀ w', _) := fun w' => refspan_any x.a x.n hr.a hr.n w'
      have HME : Hid (x.may = mayX x.a x.n x.q x.t) := rfl
      have HMS : Hid (x.mays = mayS x.a x.n) := rfl
      rw [HME.out] at HT1
      rw [HMS.out] at HT2
      obtain ⟨xa, xn, xq, xt⟩ := x
      simp only at *
      generalize hu : (xs.take k).all Ix.may = U at *
      generalize hv : (xs.take k).all Ix.mays = V at *
      generalize hm1 : mayX xa xn xq xt = M1 at *
      generalize hm2 : mayS xa xn = M2 at *
      clear hx hr hu hv hm1 hm2 hbw
      cases V with
      | true =>
        cases U with
        | true =>
          have hEL := HES.out.later HM1.out.below
          go_wp2_with fail
          refine hcm.mono ?_
          rintro e w2 ⟨rfl, hb2⟩
          have HM2 := hide (Mine.later ((objT_good _ _).and ((mapT_good b l).and ((refT_good r 300 d).and hB))) HM1.out hb2)
          have HB2 := hide (HBW.out.trans (hb2.mono HBW.out.size))
          clear c0 c1 c2 c3 e0 e1 e2 e3 hcm hb2 hEL
          obtain ⟨c0, c1, c2, c3⟩ := HC0.out w2 (HOB.out w2 _ HM2.out)
          obtain ⟨g', off', ea, hg', e0, e1, e2, e3⟩ := (HES.out.later HM2.out.below).cells k _ HX.out
          injection ea with ea
          injection ea with ea1 ea2 _
          subst ea1 ea2
          simp only at e0 e1 e2 e3
          have hcs := HCS.out w2
          go_wp2_with fail
          refine hcs.mono ?_
          rintro e w3 ⟨rfl, hb3⟩
          have HB3 := hide (HB2.out.trans (hb3.mono HB2.out.size))
          clear c0 c1 c2 c3 e0 e1 e2 e3 hcs hb3
          go_wp2
          go_roundw
          case rel => exact ⟨k + 1, by omega, by go_num, by rw [HT1.out, Bool.true_and], by rw [HT2.out, Bool.true_and], HB3.out⟩
          case measure => simp [intOf]; omega
        | false =>
          have hcs := HCS.out wr
          go_wp2_with fail
          refine hcs.mono ?_
          rintro e w3 ⟨rfl, hb3⟩
          have HB3 := hide (HBW.out.trans (hb3.mono HBW.out.size))
          clear c0 c1 c2 c3 e0 e1 e2 e3 hcs hb3 hcm
          go_wp2
          go_roundw
          case rel => exact ⟨k + 1, by omega, by go_num, by rw [HT1.out, Bool.false_and], by rw [HT2.out, Bool.true_and], HB3.out⟩
          case measure => simp [intOf]; omega
      | false =>
        obtain rfl : U = false := by
          cases U with
          | false => rfl
          | true => exact absurd (HMM.out rfl) (by decide)
        clear e0 e1 e2 e3 hcm
        go_wp2
        go_roundw
        case rel => exact ⟨k + 1, by omega, by go_num, by rw [HT1.out, Bool.false_and], by rw [HT2.out, Bool.false_and], HBW.out⟩
        case measure => simp [intOf]; omega
    · obtain rfl : k = ln := by omega
      have hfull : xs.take k = xs := List.take_of_length_le (by rw [← HL.out]; exact Nat.le_refl _)
      rw [hfull]
      have HSE := hide (HES.out.later HM1.out.below)
      clear hbw hlt hk HMW
      generalize xs.all Ix.may = U at *
      generalize xs.all Ix.mays = V at *
      by_cases hk0 : k = 0
      · subst hk0
        go_wp2
        go_ret
        exact ⟨rfl, l, d, HI.out, Mine.le (Th.Le.trans (Th.Le.rot _ _ _) (Th.Le.mono (Th.Le.refl _) (Th.Le.trans (Th.Le.rot _ _ _) (Th.Le.mono (Th.Le.refl _) (Th.Le.trans (Th.Le.swap _ _) (Th.Le.fst _ _)))))) HM1.out⟩
      · obtain ⟨x, hx⟩ : ∃ x, xs[0]? = some x := ⟨_, List.getElem?_eq_getElem (by have := HL.out; omega)⟩
        have hr := HES.out.rng x (List.mem_of_getElem? hx)
        have hfar := HFAR.out x (List.mem_of_getElem? hx)
        obtain ⟨g, off, rfl, hg, e0, e1, e2, e3⟩ := (HES.out.later HM1.out.below).cells 0 x hx
        simp only [Nat.zero_mul, Nat.add_zero] at e0 e1 e2 e3
        have hkp : 0 < k := by omega
        have hix : mayS x.a x.n = true → x.mays = true := fun h => h
        have HXX : Hid (mayS x.a x.n = true → x.a = (x.x.at_ : Nat) ∧ x.n = (x.x.len : Nat) ∧ 1 ≤ x.x.len ∧ x.x.fin ≤ 300) := fun h => ⟨(Ix.s_ix (hix h)).1, (Ix.s_ix (hix h)).2.1, (Ix.s_ix (hix h)).2.2.1, hfar (hix h)⟩
        have HRA := hide hr.a
        have HRN := hide hr.n
        obtain ⟨xa, xn, xq, xt⟩ := x
        simp only at *
        have HMX := hide (Mine.obj ((objT_good _ _).and ((mapT_good b l).and ((refT_good r 300 d).and hB))) HM1.out (.cells #[.int .i64 xa, .int .i64 xn, .int .i64 xq, .int .i64 xt] 40))
        have HCX : Hid (∀ (w' : World) (A : Th), Mine W w' ((objT wr.heap.size (.cells #[.int .i64 xa, .int .i64 xn, .int .i64 xq, .int .i64 xt] 40)).and A) → w'.cell? ⟨wr.heap.size, 0, none⟩ = some (.int .i64 xa) ∧ w'.cell? ⟨wr.heap.size, 1, none⟩ = some (.int .i64 xn)) := fun w' A h => by
          obtain ⟨_, ⟨_, _, h1, _⟩, _⟩ := h
          have hh := h1.1
          refine ⟨?_, ?_⟩ <;> (rw [cell_of_row _ _ _ _ _ _ hh]; rfl)
        obtain ⟨WX, hWX⟩ : ∃ WX, WX = wr.alloc (.cells #[.int .i64 xa, .int .i64 xn, .int .i64 xq, .int .i64 xt] 40) := ⟨_, rfl⟩
        rw [← hWX] at HMX
        have HWX := hide hWX
        have HRAW : Hid (∀ w' : World, Mine W w' ((objT wr.heap.size (.cells #[.int .i64 xa, .int .i64 xn, .int .i64 xq, .int .i64 xt] 40)).and ((objT w.heap.size (.cells #[.int .i64 ask, .slice (some ⟨g, off, none⟩) k lc, .int .i64 q, .int .i64 t] 34)).and ((mapT b l).and ((refT r 300 d).and B)))) → ∃ v, RawM w' b v l) := fun w' h => by
          obtain ⟨_, ⟨v, hv, _⟩, _, _⟩ := Mine.go ((objT_good _ _).and ((objT_good _ _).and ((refT_good r 300 d).and hB))) (Mine.le (Th.Le.trans (Th.Le.trans (Th.Le.mono (Th.Le.refl _) (Th.Le.rot _ _ _)) (Th.Le.rot _ _ _)) (Th.Le.mono (Th.Le.refl _) (Th.Le.refl _))) h)
          exact ⟨v, hv⟩
        have HREF : Hid (∀ w' : World, Mine W w' ((objT wr.heap.size (.cells #[.int .i64 xa, .int .i64 xn, .int .i64 xq, .int .i64 xt] 40)).and ((objT w.heap.size (.cells #[.int .i64 ask, .slice (some ⟨g, off, none⟩) k lc, .int .i64 q, .int .i64 t] 34)).and ((mapT b l).and ((refT r 300 d).and B)))) → ∃ gi gs, RefM w' r gi gs 300 d) := fun w' h => by
          obtain ⟨_, ⟨gi, gs, hv, _⟩, _, _⟩ := Mine.go ((objT_good _ _).and ((objT_good _ _).and ((mapT_good b l).and hB))) (Mine.le (Th.Le.trans (Th.Le.trans (Th.Le.mono (Th.Le.refl _) (Th.Le.trans (Th.Le.mono (Th.Le.refl _) (Th.Le.rot _ _ _)) (Th.Le.rot _ _ _))) (Th.Le.rot _ _ _)) (Th.Le.mono (Th.Le.refl _) (Th.Le.refl _))) h)
          exact ⟨gi, gs, hv⟩
        clear hx hr hfar hix hg hWX
        cases hms : mayS xa xn with
        | false =>
          obtain ⟨vm, hvm⟩ := HRAW.out WX HMX.out
          have hc := find_no hvm xa xn HRA.out HRN.out hms
          have hc2 : ∀ (w' : World) v, RawM w' b v l → _ := fun w' v hv => holes_no hv xa xn HRA.out HRN.out hms
          have hc3 : ∀ w' : World, _ := fun w' => refspan_any xa xn HRA.out HRN.out w'
          rw [hms] at hc3
          obtain ⟨d0, d1, d2, d3⟩ := HC0.out WX (HOB.out WX _ (Mine.le (Th.Le.trans (Th.Le.rot _ _ _) (Th.Le.mono (Th.Le.refl _) (Th.Le.refl _))) HMX.out))
          obtain ⟨x0, x1⟩ := HCX.out WX _ HMX.out
          clear hms hvm
          rw [HWX.out] at hc d0 d1 d2 d3 x0 x1
          go_wp2_with fail
          refine hc.mono ?_
          rintro e w2 ⟨rfl, hb2⟩
          rw [← HWX.out] at hb2
          have HM2 := hide (Mine.later ((objT_good _ _).and ((objT_good _ _).and ((mapT_good b l).and ((refT_good r 300 d).and hB)))) HMX.out hb2)
          clear hc hb2 c0 c1 c2 c3 d0 d1 d2 d3 x0 x1 e0 e1 e2 e3
          obtain ⟨x0, x1⟩ := HCX.out w2 _ HM2.out
          obtain ⟨vm, hvm⟩ := HRAW.out w2 HM2.out
          have hc := hc2 w2 vm hvm
          clear hvm
          go_wp2_with fail
          refine hc.mono ?_
          rintro e w3 ⟨rfl, hb3⟩
          have HM3 := hide (Mine.later ((objT_good _ _).and ((objT_good _ _).and ((mapT_good b l).and ((refT_good r 300 d).and hB)))) HM2.out hb3)
          clear hc hb3 x0 x1 hc2
          obtain ⟨x0, x1⟩ := HCX.out w3 _ HM3.out
          have hc := hc3 w3
          go_wp2_with fail
          refine hc.mono ?_
          rintro e w4 ⟨rfl, hb4⟩
          have HM4 := hide (Mine.later ((objT_good _ _).and ((objT_good _ _).and ((mapT_good b l).and ((refT_good r 300 d).and hB)))) HM3.out hb4)
          clear hc hb4 x0 x1 hc3
          go_wp2
          go_ret
          exact ⟨rfl, l, d, HI.out, Mine.le (Th.Le.trans (Th.Le.trans (Th.Le.mono (Th.Le.refl _) (Th.Le.rot _ _ _)) (Th.Le.rot _ _ _)) (Th.Le.mono (Th.Le.refl _) (Th.Le.trans (Th.Le.trans (Th.Le.mono (Th.Le.refl _) (Th.Le.rot _ _ _)) (Th.Le.rot _ _ _)) (Th.Le.mono (Th.Le.refl _) (Th.Le.trans (Th.Le.trans (Th.Le.mono (Th.Le.refl _) (Th.Le.swap _ _)) (Th.Le.rot _ _ _)) (Th.Le.fst _ _)))))) HM4.out⟩
        | true =>
          obtain ⟨ea, en, hx1, hx3⟩ := HXX.out hms
          generalize (Ix.x ⟨xa, xn, xq, xt⟩) = y at *
          obtain ⟨ya, yl, yq, yt⟩ := y
          unfold Xt.fin at hx3
          simp only at ea en hx1 hx3
          subst ea en
          have hc3 : ∀ w' : World, _ := fun w' => refspan_any ya yl HRA.out HRN.out w'
          rw [hms] at hc3
          obtain ⟨vm, hvm⟩ := HRAW.out WX HMX.out
          have hc := find_ok hvm HI.out.fit ya yl hx1 (by omega)
          obtain ⟨d0, d1, d2, d3⟩ := HC0.out WX (HOB.out WX _ (Mine.le (Th.Le.trans (Th.Le.rot _ _ _) (Th.Le.mono (Th.Le.refl _) (Th.Le.refl _))) HMX.out))
          obtain ⟨x0, x1⟩ := HCX.out WX _ HMX.out
          have HWL : Hid ((wasL l ya (ya + yl)).length ≤ 1000000) := Nat.le_trans (was_len _ _ _) (Nat.le_trans HI.out.fit.len (by omega))
          have HFW : Hid (findN d ya yl = wasL l ya (ya + yl)) := find_was HI.out.fit.can HI.out.rel (by omega)
          clear hms hvm HXX
          rw [HWX.out] at hc d0 d1 d2 d3 x0 x1
          go_wp2_with fail
          refine hc.mono ?_
          rintro e w2 ⟨f, rfl, hf, hfn, hb2⟩
          rw [← HWX.out] at hb2
          have HM2 := hide (Mine.later ((objT_good _ _).and ((objT_good _ _).and ((mapT_good b l).and ((refT_good r 300 d).and hB)))) HMX.out hb2)
          have HF2 := hide hf
          clear hc hb2 hf hfn c0 c1 c2 c3 d0 d1 d2 d3 x0 x1 e0 e1 e2 e3
          obtain ⟨x0, x1⟩ := HCX.out w2 _ HM2.out
          obtain ⟨vm, hvm⟩ := HRAW.out w2 HM2.out
          have hc := holes_ok hvm HI.out.fit ya yl hx1 (by omega)
          clear hvm
          go_wp2_with fail
          refine hc.mono ?_
          rintro e w3 ⟨h, ys, rfl, ho, hon, hset, hwi, hb3⟩
          have HM3 := hide (Mine.later ((objT_good _ _).and ((objT_good _ _).and ((mapT_good b l).and ((refT_good r 300 d).and hB)))) HM2.out hb3)
          have HF3 := hide (HF2.out.later hb3)
          have HO3 := hide ho
          have HSE := hide hset
          have HWI := hide hwi
          clear hc hb3 x0 x1 ho hon hset hwi HF2 HM2
          obtain ⟨x0, x1⟩ := HCX.out w3 _ HM3.out
          have hc := hc3 w3
          go_wp2_with fail
          refine hc.mono ?_
          rintro e w4 ⟨rfl, hb4⟩
          have HM4 := hide (Mine.later ((objT_good _ _).and ((objT_good _ _).and ((mapT_good b l).and ((refT_good r 300 d).and hB)))) HM3.out hb4)
          have HF4 := hide (HF3.out.later hb4)
          have HO4 := hide (HO3.out.later hb4)
          clear hc hb4 x0 x1 hc3 HM3 HF3 HO3
          obtain ⟨x0, x1⟩ := HCX.out w4 _ HM4.out
          obtain ⟨gi, gs, hR⟩ := HREF.out w4 HM4.out
          have hc := reffind_any hR HI.out.ok (by omega) ya yl (by omega)
          rw [HFW.out] at hc
          clear hR
          go_wp2_with fail
          refine hc.mono ?_
          rintro e w5 ⟨f2, rfl, hf5, hfn5, hb5⟩
          have HM5 := hide (Mine.later ((objT_good _ _).and ((objT_good _ _).and ((mapT_good b l).and ((refT_good r 300 d).and hB)))) HM4.out hb5)
          have hf4 := HF4.out.later hb5
          have HO5 := hide (HO4.out.later hb5)
          have hcs := same_yes hf4 hf5 HWL.out
          clear hc hb5 x0 x1 HM4 HF4 HO4 hf4 hf5 hfn5
          go_wp2_with fail
          refine hcs.mono ?_
          rintro e w6 ⟨rfl, hb6⟩
          have HM6 := hide (Mine.later ((objT_good _ _).and ((objT_good _ _).and ((mapT_good b l).and ((refT_good r 300 d).and hB)))) HM5.out hb6)
          have HO6 := hide (HO5.out.later hb6)
          clear hcs hb6 HM5 HO5
          obtain ⟨x0, x1⟩ := HCX.out w6 _ HM6.out
          obtain ⟨gi, gs, hR⟩ := HREF.out w6 HM6.out
          have hc := refholes_any hR (by omega) ya yl (by omega)
          clear hR
          go_wp2_with fail
          refine hc.mono ?_
          rintro e w7 ⟨h2v, zs, rfl, ho7, hon7, hso, hb7⟩
          have HM7 := hide (Mine.later ((objT_good _ _).and ((objT_good _ _).and ((mapT_good b l).and ((refT_good r 300 d).and hB)))) HM6.out hb7)
          have ho6 := HO6.out.later hb7
          have hyz := so_holes hso (by omega) HSE.out HI.out.rel HWI.out
          subst hyz
          have hfit : ∀ x ∈ ys, Sp.Fit x := fun x hx => Sp.Fit.of_may (by
            have := Sp.allB_setB HSE.out
            unfold Sp.allB at this
            rw [List.all_eq_true] at this
            exact this x hx)
          obtain ⟨va, vc, rfl, hvc, hs1⟩ := ho6.sl' hfit
          obtain ⟨vb, vd, rfl, hvd, hs2⟩ := ho7.sl' hfit
          have hc := Sp.same_any va vb ys.length ys.length vc vd ys ys w7 hs1 hs2
          rw [decide_eq_true rfl] at hc
          clear hb7 x0 x1 HM6 HO6 ho6 ho7 hon7 hso hfit hs1 hs2
          go_wp2_with fail
          refine hc.mono ?_
          rintro e w8 ⟨rfl, hb8⟩
          have HM8 := hide (Mine.later ((objT_good _ _).and ((objT_good _ _).and ((mapT_good b l).and ((refT_good r 300 d).and hB)))) HM7.out hb8)
          clear hc hb8 HM7
          go_wp2
          go_ret
          exact ⟨rfl, l, d, HI.out, Mine.le (Th.Le.trans (Th.Le.trans (Th.Le.mono (Th.Le.refl _) (Th.Le.rot _ _ _)) (Th.Le.rot _ _ _)) (Th.Le.mono (Th.Le.refl _) (Th.Le.trans (Th.Le.trans (Th.Le.mono (Th.Le.refl _) (Th.Le.rot _ _ _)) (Th.Le.rot _ _ _)) (Th.Le.mono (Th.Le.refl _) (Th.Le.trans (Th.Le.trans (Th.Le.mono (Th.Le.refl _) (Th.Le.swap _ _)) (Th.Le.rot _ _ _)) (Th.Le.fst _ _)))))) HM8.out⟩

end Wi
end Go.Proofs.Ytjbgojccfkmlnaa

namespace Go.Proofs.Ytjbgojccfkmlnaa
open Go.RowKit
namespace Wi
theorem does_any {W w : World} {B : Th} {b r : Nat} {l : List Xt} {d : Rf} (hB : B.Good) (hM : Mine W w ((mapT b l).and ((refT r 300 d).and B))) (hI : Inv l d) {o : OpV} (ho : OpOk W o) (hop : opB o = true)  :
    Calls Try.prog 14 #[.pointer (some ⟨b, 0, none⟩), .pointer (some ⟨r, 0, none⟩), .agg o.cells.toArray] w (DoesPost W B b r) := by
  by_cases h0 : o.ask = 0
  · exact does_put hB hM hI ho hop h0
  · by_cases h1 : o.ask = 1
    · exact does_cut hB hM hI ho hop h1
    · by_cases h2 : o.ask = 2
      · exact does_move hB hM hI ho hop h2
      · exact does_find hB hM hI ho hop h0 h1 h2

end Wi
end Go.Proofs.Ytjbgojccfkmlnaa
