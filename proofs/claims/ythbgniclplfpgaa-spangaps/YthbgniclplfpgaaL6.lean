/- A part of the proofs about package span: what its functions answer, call by call. -/
import Derived.Test.YthbgniclplfpgaaLk
namespace Go.Proofs.Ythbgniclplfpgaa
open Go.RowKit
namespace Sp

set_option maxRecDepth 100000 in
set_option maxHeartbeats 8000000 in
theorem spanGaps_walk (a : Option Addr) (n cap : Nat) (xs : List (Int × Int)) (s : Int × Int) (m : Int) (w : World) (hA : Sl w a n xs) (_hca : Cap a n cap) (hf : Fit s) (hm : -9223372036854775808 ≤ m ∧ m ≤ 9223372036854775807) :
    Calls Try.prog 6 #[.slice a n cap, .agg #[.int .i64 s.1, .int .i64 s.2], .int .i64 m] w fun e w' => e = .returned (.bool true) ∧ Below w.heap.size w w' := by
  have hn := hA.most
  have haw := awake_any
  have hr1 := fun W hW => few_any a n cap xs W hW
  have hr2 := fun W => few_any (some ⟨W.heap.size, 0, none⟩) 1 1 [s] (W.alloc (.cells #[.int .i64 s.1, .int .i64 s.2] 27)) (Sl.lit W hf)
  cases hfx : fewB xs with
  | false =>
    rw [hfx] at hr1
    clear hfx
    go_enter Try.func6, Try.ntmps6
    have hb0 := below_alloc w (.cells #[.int .i64 s.1, .int .i64 s.2] 27)
    replace hA := hA.later hb0
    have BB := hb0
    have bs := Bx.new w s
    have bsc0 := bs.c0
    have bsc1 := bs.c1
    go_wp2_with fail
    refine (hr1 _ hA).mono ?_
    rintro e wv1 ⟨rfl, hv1⟩
    replace hA := hA.later hv1
    replace bs := bs.later hv1
    replace bsc0 := bs.c0
    replace bsc1 := bs.c1
    replace BB := BB.trans (hv1.mono BB.size)
    clear hv1
    go_wp2_with fail
    refine (haw _).mono ?_
    rintro e we ⟨rfl, hbe⟩
    go_wp2
    go_ret
    exact ⟨rfl, BB.trans (hbe.mono BB.size)⟩
  | true =>
    rw [hfx] at hr1
    cases hfs : fewB [s] with
    | false =>
      rw [hfs] at hr2
      clear hfx hfs
      go_enter Try.func6, Try.ntmps6
      have hb0 := below_alloc w (.cells #[.int .i64 s.1, .int .i64 s.2] 27)
      replace hA := hA.later hb0
      have BB := hb0
      have bs := Bx.new w s
      have bsc0 := bs.c0
      have bsc1 := bs.c1
      go_wp2_with fail
      refine (hr1 _ hA).mono ?_
      rintro e wv1 ⟨rfl, hv1⟩
      replace hA := hA.later hv1
      replace bs := bs.later hv1
      replace bsc0 := bs.c0
      replace bsc1 := bs.c1
      replace BB := BB.trans (hv1.mono BB.size)
      clear hv1
      go_wp2_with fail
      refine (hr2 _).mono ?_
      rintro e wv2 ⟨rfl, hv2⟩
      replace hv2 := box_below hv2
      replace hA := hA.later hv2
      replace bs := bs.later hv2
      replace bsc0 := bs.c0
      replace bsc1 := bs.c1
      replace BB := BB.trans (hv2.mono BB.size)
      clear hv2
      go_wp2_with fail
      refine (haw _).mono ?_
      rintro e we ⟨rfl, hbe⟩
      go_wp2
      go_ret
      exact ⟨rfl, BB.trans (hbe.mono BB.size)⟩
    | true =>
      rw [hfs] at hr2
      have hlen := few_len hfx
      by_cases hgood : setB xs = true ∧ mayB s = true
      · obtain ⟨hx, hs⟩ := hgood
        by_cases hm1 : m < 1
        · have hfit := fun W hW => fit_few a n cap xs s m W hW hx hs (by omega) hm1
          have hall := allB_setB hx
          have hsl : allB [s] = true := by simp [allB, hs]
          go_enter Try.func6, Try.ntmps6
          have hb0 := below_alloc w (.cells #[.int .i64 s.1, .int .i64 s.2] 27)
          replace hA := hA.later hb0
          have BB := hb0
          have bs := Bx.new w s
          have bsc0 := bs.c0
          have bsc1 := bs.c1
          go_wp2_with fail
          refine (hr1 _ hA).mono ?_
          rintro e wv1 ⟨rfl, hv1⟩
          replace hA := hA.later hv1
          replace bs := bs.later hv1
          replace bsc0 := bs.c0
          replace bsc1 := bs.c1
          replace BB := BB.trans (hv1.mono BB.size)
          clear hv1
          go_wp2_with fail
          refine (hr2 _).mono ?_
          rintro e wv2 ⟨rfl, hv2⟩
          replace hv2 := box_below hv2
          replace hA := hA.later hv2
          replace bs := bs.later hv2
          replace bsc0 := bs.c0
          replace bsc1 := bs.c1
          replace BB := BB.trans (hv2.mono BB.size)
          clear hv2
          go_wp2_with fail
          refine (gaps_ok a n cap xs s _ hA hx hs (by omega)).mono ?_
          rintro e wv3 ⟨vv1, rs1, rfl, ow1, _, st1, mem1, hv3⟩
          obtain ⟨aa1, cc1, rfl, cap1, SL1⟩ := ow1.slc (fit_of_set st1)
          clear ow1
          replace hA := hA.later hv3
          replace bs := bs.later hv3
          replace bsc0 := bs.c0
          replace bsc1 := bs.c1
          replace BB := BB.trans (hv3.mono BB.size)
          clear hv3
          go_wp2_with fail
          refine (hfit _ hA).mono ?_
          rintro e wv4 ⟨rfl, hv4⟩
          replace hA := hA.later hv4
          replace SL1 := SL1.later hv4
          replace bs := bs.later hv4
          replace bsc0 := bs.c0
          replace bsc1 := bs.c1
          replace BB := BB.trans (hv4.mono BB.size)
          clear hv4 hfit
          have hb9 := below_alloc wv4 (.cells #[.int .i64 0, .int .i64 0] 27)
          replace hA := hA.later hb9
          replace SL1 := SL1.later hb9
          replace bs := bs.later hb9
          replace bsc0 := bs.c0
          replace bsc1 := bs.c1
          replace BB := BB.trans (hb9.mono BB.size)
          have bf := Bx.new wv4 (0, 0)
          have bfc0 := bf.c0
          have bfc1 := bf.c1
          simp only at bfc0 bfc1
          have hrl := rcheck_any a n cap xs _ hA
          rw [hx] at hrl
          go_wp2_with fail
          refine (hrl).mono ?_
          rintro e wv5 ⟨rfl, hv5⟩
          replace hA := hA.later hv5
          replace SL1 := SL1.later hv5
          replace bs := bs.later hv5
          replace bsc0 := bs.c0
          replace bsc1 := bs.c1
          replace bf := bf.later hv5
          replace bfc0 := bf.c0
          replace bfc1 := bf.c1
          replace BB := BB.trans (hv5.mono BB.size)
          clear hv5
          have hrs := fun W => rmay_b s W hf
          rw [hs] at hrs
          go_wp2_with fail
          refine (hrs _).mono ?_
          rintro e wv6 ⟨rfl, hv6⟩
          replace hA := hA.later hv6
          replace SL1 := SL1.later hv6
          replace bs := bs.later hv6
          replace bsc0 := bs.c0
          replace bsc1 := bs.c1
          replace bf := bf.later hv6
          replace bfc0 := bf.c0
          replace bfc1 := bf.c1
          replace BB := BB.trans (hv6.mono BB.size)
          clear hv6
          go_wp2_with fail
          refine (sectors_any (some ⟨wv6.heap.size, 0, none⟩) 1 1 [s] _ (Sl.lit wv6 hf) hsl).mono ?_
          rintro e wv7 ⟨rfl, row1, hv7⟩
          replace hv7 := box_below hv7
          replace hA := hA.later hv7
          replace SL1 := SL1.later hv7
          replace bs := bs.later hv7
          replace bsc0 := bs.c0
          replace bsc1 := bs.c1
          replace bf := bf.later hv7
          replace bfc0 := bf.c0
          replace bfc1 := bf.c1
          replace BB := BB.trans (hv7.mono BB.size)
          clear hv7
          generalize hg1 : (wv6.alloc (.cells #[.int .i64 s.1, .int .i64 s.2] 27)).heap.size = g1 at row1
          clear hg1
          go_wp2_with fail
          refine (sectors_any a n cap xs _ hA hall).mono ?_
          rintro e wv8 ⟨rfl, row2, hv8⟩
          replace hA := hA.later hv8
          replace SL1 := SL1.later hv8
          replace row1 := row1.later hv8
          replace bs := bs.later hv8
          replace bsc0 := bs.c0
          replace bsc1 := bs.c1
          replace bf := bf.later hv8
          replace bfc0 := bf.c0
          replace bfc1 := bf.c1
          replace BB := BB.trans (hv8.mono BB.size)
          clear hv8
          go_wp2_with fail
          refine (both_three _ _ 400 400 _ _ _ row1.sb row2.sb).mono ?_
          rintro e wv9 ⟨rs5, so5, vv5, rfl, ow5, _, hv9⟩
          obtain ⟨aa5, cc5, rfl, cap5, SL5⟩ := ow5.slc (fit_of_set so5.set)
          clear ow5
          replace hA := hA.later hv9
          replace SL1 := SL1.later hv9
          replace row1 := row1.later hv9
          replace row2 := row2.later hv9
          replace bs := bs.later hv9
          replace bsc0 := bs.c0
          replace bsc1 := bs.c1
          replace bf := bf.later hv9
          replace bfc0 := bf.c0
          replace bfc1 := bf.c1
          replace BB := BB.trans (hv9.mono BB.size)
          clear hv9
          obtain rfl : rs1 = rs5 := so_eq so5 st1 (fun i hi => few_wi hfs hsl (wi_one.2 ((mem1 i).1 hi).1)) fun j _ => by simp only [mem1, ← wi_one]; simp
          have hq1 := fun W hW hW' => same_any aa1 aa5 rs1.length rs1.length cc1 cc5 rs1 rs1 W hW hW'
          rw [show decide (rs1 = rs1) = true by simp] at hq1
          clear row1 row2 so5
          go_wp2_with fail
          refine (hq1 _ SL1 SL5).mono ?_
          rintro e wv10 ⟨rfl, hv10⟩
          replace hA := hA.later hv10
          replace SL1 := SL1.later hv10
          replace SL5 := SL5.later hv10
          replace bs := bs.later hv10
          replace bsc0 := bs.c0
          replace bsc1 := bs.c1
          replace bf := bf.later hv10
          replace bfc0 := bf.c0
          replace bfc1 := bf.c1
          replace BB := BB.trans (hv10.mono BB.size)
          clear hv10
          have hgt : Try.prog.eqGuardType Try.prog.depth 27 = false := by kernel_rfl
          clear mem1 st1 hx hs hall hsl hfx hfs
          go_wp2_with fail
          refine (haw _).mono ?_
          rintro e we ⟨rfl, hbe⟩
          go_wp2
          go_ret
          exact ⟨rfl, BB.trans (hbe.mono BB.size)⟩
        · have hfit := fun W hW => fit_ok a n cap xs s m W hW hx hs (by omega) (by omega) hm.2
          have hmd : decide (m < 1) = false := by simp; omega
          have hall := allB_setB hx
          have hsl : allB [s] = true := by simp [allB, hs]
          go_enter Try.func6, Try.ntmps6
          have hb0 := below_alloc w (.cells #[.int .i64 s.1, .int .i64 s.2] 27)
          replace hA := hA.later hb0
          have BB := hb0
          have bs := Bx.new w s
          have bsc0 := bs.c0
          have bsc1 := bs.c1
          go_wp2_with fail
          refine (hr1 _ hA).mono ?_
          rintro e wv1 ⟨rfl, hv1⟩
          replace hA := hA.later hv1
          replace bs := bs.later hv1
          replace bsc0 := bs.c0
          replace bsc1 := bs.c1
          replace BB := BB.trans (hv1.mono BB.size)
          clear hv1
          go_wp2_with fail
          refine (hr2 _).mono ?_
          rintro e wv2 ⟨rfl, hv2⟩
          replace hv2 := box_below hv2
          replace hA := hA.later hv2
          replace bs := bs.later hv2
          replace bsc0 := bs.c0
          replace bsc1 := bs.c1
          replace BB := BB.trans (hv2.mono BB.size)
          clear hv2
          go_wp2_with fail
          refine (gaps_ok a n cap xs s _ hA hx hs (by omega)).mono ?_
          rintro e wv3 ⟨vv1, rs1, rfl, ow1, _, st1, mem1, hv3⟩
          obtain ⟨aa1, cc1, rfl, cap1, SL1⟩ := ow1.slc (fit_of_set st1)
          clear ow1
          replace hA := hA.later hv3
          replace bs := bs.later hv3
          replace bsc0 := bs.c0
          replace bsc1 := bs.c1
          replace BB := BB.trans (hv3.mono BB.size)
          clear hv3
          go_wp2_with fail
          refine (hfit _ hA).mono ?_
          rintro e wv4 ⟨ys3, st3, mem3, rfl, hv4⟩
          replace hA := hA.later hv4
          replace SL1 := SL1.later hv4
          replace bs := bs.later hv4
          replace bsc0 := bs.c0
          replace bsc1 := bs.c1
          replace BB := BB.trans (hv4.mono BB.size)
          clear hv4 hfit
          obtain rfl : rs1 = ys3 := set_ext st1 st3 fun i => by rw [mem1, mem3]
          obtain ⟨f3, hf3⟩ : ∃ f, fitS rs1 m = f := ⟨_, rfl⟩
          obtain ⟨e3, he3⟩ : ∃ f, fitE rs1 m = f := ⟨_, rfl⟩
          rw [hf3, he3]
          have HF3 := hide hf3
          have HE3 := hide he3
          clear hf3 he3 mem3 st3
          have hb9 := below_alloc wv4 (.cells #[.int .i64 f3.1, .int .i64 f3.2] 27)
          replace hA := hA.later hb9
          replace SL1 := SL1.later hb9
          replace bs := bs.later hb9
          replace bsc0 := bs.c0
          replace bsc1 := bs.c1
          replace BB := BB.trans (hb9.mono BB.size)
          have bf := Bx.new wv4 f3
          have bfc0 := bf.c0
          have bfc1 := bf.c1
          have hrl := rcheck_any a n cap xs _ hA
          rw [hx] at hrl
          go_wp2_with fail
          refine (hrl).mono ?_
          rintro e wv5 ⟨rfl, hv5⟩
          replace hA := hA.later hv5
          replace SL1 := SL1.later hv5
          replace bs := bs.later hv5
          replace bsc0 := bs.c0
          replace bsc1 := bs.c1
          replace bf := bf.later hv5
          replace bfc0 := bf.c0
          replace bfc1 := bf.c1
          replace BB := BB.trans (hv5.mono BB.size)
          clear hv5
          have hrs := fun W => rmay_b s W hf
          rw [hs] at hrs
          go_wp2_with fail
          refine (hrs _).mono ?_
          rintro e wv6 ⟨rfl, hv6⟩
          replace hA := hA.later hv6
          replace SL1 := SL1.later hv6
          replace bs := bs.later hv6
          replace bsc0 := bs.c0
          replace bsc1 := bs.c1
          replace bf := bf.later hv6
          replace bfc0 := bf.c0
          replace bfc1 := bf.c1
          replace BB := BB.trans (hv6.mono BB.size)
          clear hv6
          go_wp2_with fail
          refine (sectors_any (some ⟨wv6.heap.size, 0, none⟩) 1 1 [s] _ (Sl.lit wv6 hf) hsl).mono ?_
          rintro e wv7 ⟨rfl, row1, hv7⟩
          replace hv7 := box_below hv7
          replace hA := hA.later hv7
          replace SL1 := SL1.later hv7
          replace bs := bs.later hv7
          replace bsc0 := bs.c0
          replace bsc1 := bs.c1
          replace bf := bf.later hv7
          replace bfc0 := bf.c0
          replace bfc1 := bf.c1
          replace BB := BB.trans (hv7.mono BB.size)
          clear hv7
          generalize hg1 : (wv6.alloc (.cells #[.int .i64 s.1, .int .i64 s.2] 27)).heap.size = g1 at row1
          clear hg1
          go_wp2_with fail
          refine (sectors_any a n cap xs _ hA hall).mono ?_
          rintro e wv8 ⟨rfl, row2, hv8⟩
          replace hA := hA.later hv8
          replace SL1 := SL1.later hv8
          replace row1 := row1.later hv8
          replace bs := bs.later hv8
          replace bsc0 := bs.c0
          replace bsc1 := bs.c1
          replace bf := bf.later hv8
          replace bfc0 := bf.c0
          replace bfc1 := bf.c1
          replace BB := BB.trans (hv8.mono BB.size)
          clear hv8
          go_wp2_with fail
          refine (both_three _ _ 400 400 _ _ _ row1.sb row2.sb).mono ?_
          rintro e wv9 ⟨rs5, so5, vv5, rfl, ow5, _, hv9⟩
          obtain ⟨aa5, cc5, rfl, cap5, SL5⟩ := ow5.slc (fit_of_set so5.set)
          clear ow5
          replace hA := hA.later hv9
          replace SL1 := SL1.later hv9
          replace row1 := row1.later hv9
          replace row2 := row2.later hv9
          replace bs := bs.later hv9
          replace bsc0 := bs.c0
          replace bsc1 := bs.c1
          replace bf := bf.later hv9
          replace bfc0 := bf.c0
          replace bfc1 := bf.c1
          replace BB := BB.trans (hv9.mono BB.size)
          clear hv9
          obtain rfl : rs1 = rs5 := so_eq so5 st1 (fun i hi => few_wi hfs hsl (wi_one.2 ((mem1 i).1 hi).1)) fun j _ => by simp only [mem1, ← wi_one]; simp
          have hq1 := fun W hW hW' => same_any aa1 aa5 rs1.length rs1.length cc1 cc5 rs1 rs1 W hW hW'
          rw [show decide (rs1 = rs1) = true by simp] at hq1
          clear row1 row2 so5
          go_wp2_with fail
          refine (hq1 _ SL1 SL5).mono ?_
          rintro e wv10 ⟨rfl, hv10⟩
          replace hA := hA.later hv10
          replace SL1 := SL1.later hv10
          replace SL5 := SL5.later hv10
          replace bs := bs.later hv10
          replace bsc0 := bs.c0
          replace bsc1 := bs.c1
          replace bf := bf.later hv10
          replace bfc0 := bf.c0
          replace bfc1 := bf.c1
          replace BB := BB.trans (hv10.mono BB.size)
          clear hv10
          have hgt : Try.prog.eqGuardType Try.prog.depth 27 = false := by kernel_rfl
          clear mem1 st1 hx hs hall hsl hfx hfs hb9 hb0
          have hml := SL5.most
          go_wp2
          go_loopw [12] (fun i wr => ∃ q : Nat, q ≤ rs1.length ∧ i = .int .i64 q ∧ (∀ j, j < q → (nth rs1 j).2 < m) ∧ wr = wv10) (fun i _ => rs1.length - (intOf i).toNat)
          case atStart => exact ⟨0, Nat.zero_le _, rfl, by intro j hj; omega, rfl⟩
          case round =>
            obtain ⟨q, hq, rfl, hok, rfl⟩ := hrel
            by_cases hlt : q < rs1.length
            · obtain ⟨bq, offq, rfl, hblq, y0, y1⟩ := SL5.cells q hlt
              by_cases hc : m ≤ (nth rs1 q).2
              · have HS := find_some hok hlt hc
                have e1 : fitS rs1 m = ((nth rs1 q).1, m) := by unfold fitS; rw [HS]
                have e2 : fitE rs1 m = 0 := by unfold fitE; rw [HS]
                have E1 := HF3.out.symm.trans e1
                have E2 := HE3.out.symm.trans e2
                subst E1 E2
                clear HF3 HE3 HS e1 e2 hok
                generalize nth rs1 q = y at *
                have hne := later_ne wr
                have C0 := lcell hblq y0
                have F0 := lcell bf.lt bfc0
                have F1 := lcell bf.lt bfc1
                have HAW : ∀ p : Later wr, _ := fun p => haw p.val
                simp only at F0 F1
                go_wp2
                refine wp_region_later (by kernel_rfl) (by kernel_rfl) ?_
                (repeat (first | go_big_quiet_skip | (go_big_quiet_want; go_big_quiet_op; go_big_quiet_on)))
                (go_big_quiet_want; go_big_quiet_op; apply Exists.intro; refine ⟨fun p => ?_, ?_⟩; (· exact later_of (HAW p)); go_big_quiet_on)
                (repeat (first | go_big_quiet_skip | (go_big_quiet_want; go_big_quiet_op; go_big_quiet_on)))
                refine wpQuiet_nil ?_
                rintro _ ⟨p, rfl⟩
                go_wp2
                go_ret
                exact ⟨rfl, BB.trans (p.below.mono BB.size)⟩
              · have Hok := ext_lt hok (by omega)
                clear hok
                generalize nth rs1 q = y at y0 y1 hc
                go_wp2
                go_roundw
                case rel => exact ⟨q + 1, by omega, by go_num, Hok, trivial⟩
                case measure => simp [intOf]; omega
            · have HN := find_none (ys := rs1) (n := m) fun j hj => hok j (by omega)
              have e1 : fitS rs1 m = (0, 0) := by unfold fitS; rw [HN]
              have e2 : fitE rs1 m = 15 := by unfold fitE; rw [HN]
              have E1 := HF3.out.symm.trans e1
              have E2 := HE3.out.symm.trans e2
              subst E1 E2
              clear HF3 HE3 HN e1 e2 hok
              simp only at bfc0 bfc1
              go_wp2_with fail
              refine (haw _).mono ?_
              rintro e we ⟨rfl, hbe⟩
              go_wp2
              go_ret
              exact ⟨rfl, BB.trans (hbe.mono BB.size)⟩
      · have hbad : setB xs = false ∨ mayB s = false := by
          cases h1 : setB xs <;> cases h2 : mayB s <;> simp_all
        clear hgood
        go_enter Try.func6, Try.ntmps6
        have hb0 := below_alloc w (.cells #[.int .i64 s.1, .int .i64 s.2] 27)
        replace hA := hA.later hb0
        have BB := hb0
        have bs := Bx.new w s
        have bsc0 := bs.c0
        have bsc1 := bs.c1
        go_wp2_with fail
        refine (hr1 _ hA).mono ?_
        rintro e wv1 ⟨rfl, hv1⟩
        replace hA := hA.later hv1
        replace bs := bs.later hv1
        replace bsc0 := bs.c0
        replace bsc1 := bs.c1
        replace BB := BB.trans (hv1.mono BB.size)
        clear hv1
        go_wp2_with fail
        refine (hr2 _).mono ?_
        rintro e wv2 ⟨rfl, hv2⟩
        replace hv2 := box_below hv2
        replace hA := hA.later hv2
        replace bs := bs.later hv2
        replace bsc0 := bs.c0
        replace bsc1 := bs.c1
        replace BB := BB.trans (hv2.mono BB.size)
        clear hv2
        go_wp2_with fail
        refine (gaps_no a n cap xs s _ hA hf hbad).mono ?_
        rintro e wv3 ⟨rfl, hv3⟩
        replace hA := hA.later hv3
        replace bs := bs.later hv3
        replace bsc0 := bs.c0
        replace bsc1 := bs.c1
        replace BB := BB.trans (hv3.mono BB.size)
        clear hv3
        go_wp2_with fail
        refine (fit_no a n cap xs s m _ hA hf hbad).mono ?_
        rintro e wv4 ⟨rfl, hv4⟩
        replace hA := hA.later hv4
        replace bs := bs.later hv4
        replace bsc0 := bs.c0
        replace bsc1 := bs.c1
        replace BB := BB.trans (hv4.mono BB.size)
        clear hv4
        have hb9 := below_alloc wv4 (.cells #[.int .i64 0, .int .i64 0] 27)
        replace hA := hA.later hb9
        replace bs := bs.later hb9
        replace bsc0 := bs.c0
        replace bsc1 := bs.c1
        replace BB := BB.trans (hb9.mono BB.size)
        have bf := Bx.new wv4 (0, 0)
        have bfc0 := bf.c0
        have bfc1 := bf.c1
        simp only at bfc0 bfc1
        have hgt : Try.prog.eqGuardType Try.prog.depth 27 = false := by kernel_rfl
        have hrl := fun W hW => rcheck_any a n cap xs W hW
        have hrs := fun W => rmay_b s W hf
        cases h1 : setB xs with
        | false =>
          rw [h1] at hrl
          clear h1 hbad hfx hfs
          go_wp2_with fail
          refine (hrl _ hA).mono ?_
          rintro e wv5 ⟨rfl, hv5⟩
          replace hA := hA.later hv5
          replace bs := bs.later hv5
          replace bsc0 := bs.c0
          replace bsc1 := bs.c1
          replace bf := bf.later hv5
          replace bfc0 := bf.c0
          replace bfc1 := bf.c1
          replace BB := BB.trans (hv5.mono BB.size)
          clear hv5
          go_wp2_with fail
          refine (haw _).mono ?_
          rintro e we ⟨rfl, hbe⟩
          go_wp2
          go_ret
          exact ⟨rfl, BB.trans (hbe.mono BB.size)⟩
        | true =>
          have h2 := hbad.resolve_left (by rw [h1]; simp)
          rw [h1] at hrl
          rw [h2] at hrs
          clear h1 h2 hbad hfx hfs
          go_wp2_with fail
          refine (hrl _ hA).mono ?_
          rintro e wv5 ⟨rfl, hv5⟩
          replace hA := hA.later hv5
          replace bs := bs.later hv5
          replace bsc0 := bs.c0
          replace bsc1 := bs.c1
          replace bf := bf.later hv5
          replace bfc0 := bf.c0
          replace bfc1 := bf.c1
          replace BB := BB.trans (hv5.mono BB.size)
          clear hv5
          go_wp2_with fail
          refine (hrs _).mono ?_
          rintro e wv6 ⟨rfl, hv6⟩
          replace hA := hA.later hv6
          replace bs := bs.later hv6
          replace bsc0 := bs.c0
          replace bsc1 := bs.c1
          replace bf := bf.later hv6
          replace bfc0 := bf.c0
          replace bfc1 := bf.c1
          replace BB := BB.trans (hv6.mono BB.size)
          clear hv6
          go_wp2_with fail
          refine (haw _).mono ?_
          rintro e we ⟨rfl, hbe⟩
          go_wp2
          go_ret
          exact ⟨rfl, BB.trans (hbe.mono BB.size)⟩

end Sp
end Go.Proofs.Ythbgniclplfpgaa
