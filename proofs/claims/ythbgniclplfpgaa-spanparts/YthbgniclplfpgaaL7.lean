/- A part of the proofs about package span: what its functions answer, call by call. -/
import Derived.Test.YthbgniclplfpgaaLk
namespace Go.Proofs.Ythbgniclplfpgaa
open Go.RowKit
namespace Sp

set_option maxRecDepth 100000 in
set_option maxHeartbeats 8000000 in
theorem spanParts_walk (a : Option Addr) (n cap : Nat) (xs : List (Int × Int)) (b : Option Addr) (m cap' : Nat) (ys : List (Int × Int)) (s : Int × Int) (w : World) (hA : Sl w a n xs) (hca : Cap a n cap) (hB : Sl w b m ys) (hcb : Cap b m cap') (hf : Fit s) :
    Calls Try.prog 7 #[.slice a n cap, .slice b m cap', .agg #[.int .i64 s.1, .int .i64 s.2]] w fun e w' => e = .returned (.bool true) ∧ Below w.heap.size w w' := by
  have hn := hA.most
  have hn2 := hB.most
  have haw := awake_any
  have hr1 := fun W hW => rcheck_any a n cap xs W hW
  have hr2 := fun W hW => rcheck_any b m cap' ys W hW
  have hr3 := fun W (_ : True) => rmay_b s W hf
  cases hx : setB xs with
  | false =>
    rw [hx] at hr1
    clear hx
    go_enter Try.func7, Try.ntmps7
    have hb0 := below_alloc w (.cells #[.int .i64 s.1, .int .i64 s.2] 27)
    replace hA := hA.later hb0
    replace hB := hB.later hb0
    have BB := hb0
    have bs := Bx.new w s
    have bsc0 := bs.c0
    have bsc1 := bs.c1
    clear hb0
    go_wp2_with fail
    refine (hr1 _ hA).mono ?_
    rintro e wv1 ⟨rfl, hv1⟩
    replace hA := hA.later hv1
    replace hB := hB.later hv1
    replace bs := bs.later hv1
    replace bsc0 := bs.c0
    replace bsc1 := bs.c1
    replace BB := BB.trans (hv1.mono BB.size)
    clear hv1
    go_wp2_with fail
    refine (haw _).mono ?_
    rintro e we ⟨rfl, hbe⟩
    go_wp2
    go_ret
    exact ⟨rfl, BB.trans (hbe.mono BB.size)⟩
  | true =>
    rw [hx] at hr1
    cases hy : setB ys with
    | false =>
      rw [hy] at hr2
      clear hx hy
      go_enter Try.func7, Try.ntmps7
      have hb0 := below_alloc w (.cells #[.int .i64 s.1, .int .i64 s.2] 27)
      replace hA := hA.later hb0
      replace hB := hB.later hb0
      have BB := hb0
      have bs := Bx.new w s
      have bsc0 := bs.c0
      have bsc1 := bs.c1
      clear hb0
      go_wp2_with fail
      refine (hr1 _ hA).mono ?_
      rintro e wv1 ⟨rfl, hv1⟩
      replace hA := hA.later hv1
      replace hB := hB.later hv1
      replace bs := bs.later hv1
      replace bsc0 := bs.c0
      replace bsc1 := bs.c1
      replace BB := BB.trans (hv1.mono BB.size)
      clear hv1
      go_wp2_with fail
      refine (hr2 _ hB).mono ?_
      rintro e wv2 ⟨rfl, hv2⟩
      replace hA := hA.later hv2
      replace hB := hB.later hv2
      replace bs := bs.later hv2
      replace bsc0 := bs.c0
      replace bsc1 := bs.c1
      replace BB := BB.trans (hv2.mono BB.size)
      clear hv2
      go_wp2_with fail
      refine (haw _).mono ?_
      rintro e we ⟨rfl, hbe⟩
      go_wp2
      go_ret
      exact ⟨rfl, BB.trans (hbe.mono BB.size)⟩
    | true =>
      rw [hy] at hr2
      cases hs : mayB s with
      | false =>
        rw [hs] at hr3
        clear hx hy hs
        go_enter Try.func7, Try.ntmps7
        have hb0 := below_alloc w (.cells #[.int .i64 s.1, .int .i64 s.2] 27)
        replace hA := hA.later hb0
        replace hB := hB.later hb0
        have BB := hb0
        have bs := Bx.new w s
        have bsc0 := bs.c0
        have bsc1 := bs.c1
        clear hb0
        go_wp2_with fail
        refine (hr1 _ hA).mono ?_
        rintro e wv1 ⟨rfl, hv1⟩
        replace hA := hA.later hv1
        replace hB := hB.later hv1
        replace bs := bs.later hv1
        replace bsc0 := bs.c0
        replace bsc1 := bs.c1
        replace BB := BB.trans (hv1.mono BB.size)
        clear hv1
        go_wp2_with fail
        refine (hr2 _ hB).mono ?_
        rintro e wv2 ⟨rfl, hv2⟩
        replace hA := hA.later hv2
        replace hB := hB.later hv2
        replace bs := bs.later hv2
        replace bsc0 := bs.c0
        replace bsc1 := bs.c1
        replace BB := BB.trans (hv2.mono BB.size)
        clear hv2
        go_wp2_with fail
        refine (hr3 _ trivial).mono ?_
        rintro e wv3 ⟨rfl, hv3⟩
        replace hA := hA.later hv3
        replace hB := hB.later hv3
        replace bs := bs.later hv3
        replace bsc0 := bs.c0
        replace bsc1 := bs.c1
        replace BB := BB.trans (hv3.mono BB.size)
        clear hv3
        go_wp2_with fail
        refine (haw _).mono ?_
        rintro e we ⟨rfl, hbe⟩
        go_wp2
        go_ret
        exact ⟨rfl, BB.trans (hbe.mono BB.size)⟩
      | true =>
        rw [hs] at hr3
        by_cases h1 : 1000 < n
        · clear hx hy hs
          go_enter Try.func7, Try.ntmps7
          have hb0 := below_alloc w (.cells #[.int .i64 s.1, .int .i64 s.2] 27)
          replace hA := hA.later hb0
          replace hB := hB.later hb0
          have BB := hb0
          have bs := Bx.new w s
          have bsc0 := bs.c0
          have bsc1 := bs.c1
          clear hb0
          go_wp2_with fail
          refine (hr1 _ hA).mono ?_
          rintro e wv1 ⟨rfl, hv1⟩
          replace hA := hA.later hv1
          replace hB := hB.later hv1
          replace bs := bs.later hv1
          replace bsc0 := bs.c0
          replace bsc1 := bs.c1
          replace BB := BB.trans (hv1.mono BB.size)
          clear hv1
          go_wp2_with fail
          refine (hr2 _ hB).mono ?_
          rintro e wv2 ⟨rfl, hv2⟩
          replace hA := hA.later hv2
          replace hB := hB.later hv2
          replace bs := bs.later hv2
          replace bsc0 := bs.c0
          replace bsc1 := bs.c1
          replace BB := BB.trans (hv2.mono BB.size)
          clear hv2
          go_wp2_with fail
          refine (hr3 _ trivial).mono ?_
          rintro e wv3 ⟨rfl, hv3⟩
          replace hA := hA.later hv3
          replace hB := hB.later hv3
          replace bs := bs.later hv3
          replace bsc0 := bs.c0
          replace bsc1 := bs.c1
          replace BB := BB.trans (hv3.mono BB.size)
          clear hv3
          go_wp2_with fail
          refine (haw _).mono ?_
          rintro e we ⟨rfl, hbe⟩
          go_wp2
          go_ret
          exact ⟨rfl, BB.trans (hbe.mono BB.size)⟩
        · by_cases h2 : 1000 < m
          · clear hx hy hs
            go_enter Try.func7, Try.ntmps7
            have hb0 := below_alloc w (.cells #[.int .i64 s.1, .int .i64 s.2] 27)
            replace hA := hA.later hb0
            replace hB := hB.later hb0
            have BB := hb0
            have bs := Bx.new w s
            have bsc0 := bs.c0
            have bsc1 := bs.c1
            clear hb0
            go_wp2_with fail
            refine (hr1 _ hA).mono ?_
            rintro e wv1 ⟨rfl, hv1⟩
            replace hA := hA.later hv1
            replace hB := hB.later hv1
            replace bs := bs.later hv1
            replace bsc0 := bs.c0
            replace bsc1 := bs.c1
            replace BB := BB.trans (hv1.mono BB.size)
            clear hv1
            go_wp2_with fail
            refine (hr2 _ hB).mono ?_
            rintro e wv2 ⟨rfl, hv2⟩
            replace hA := hA.later hv2
            replace hB := hB.later hv2
            replace bs := bs.later hv2
            replace bsc0 := bs.c0
            replace bsc1 := bs.c1
            replace BB := BB.trans (hv2.mono BB.size)
            clear hv2
            go_wp2_with fail
            refine (hr3 _ trivial).mono ?_
            rintro e wv3 ⟨rfl, hv3⟩
            replace hA := hA.later hv3
            replace hB := hB.later hv3
            replace bs := bs.later hv3
            replace bsc0 := bs.c0
            replace bsc1 := bs.c1
            replace BB := BB.trans (hv3.mono BB.size)
            clear hv3
            go_wp2_with fail
            refine (haw _).mono ?_
            rintro e we ⟨rfl, hbe⟩
            go_wp2
            go_ret
            exact ⟨rfl, BB.trans (hbe.mono BB.size)⟩
          · go_enter Try.func7, Try.ntmps7
            have hb0 := below_alloc w (.cells #[.int .i64 s.1, .int .i64 s.2] 27)
            replace hA := hA.later hb0
            replace hB := hB.later hb0
            have BB := hb0
            have bs := Bx.new w s
            have bsc0 := bs.c0
            have bsc1 := bs.c1
            clear hb0
            go_wp2_with fail
            refine (hr1 _ hA).mono ?_
            rintro e wv1 ⟨rfl, hv1⟩
            replace hA := hA.later hv1
            replace hB := hB.later hv1
            replace bs := bs.later hv1
            replace bsc0 := bs.c0
            replace bsc1 := bs.c1
            replace BB := BB.trans (hv1.mono BB.size)
            clear hv1
            go_wp2_with fail
            refine (hr2 _ hB).mono ?_
            rintro e wv2 ⟨rfl, hv2⟩
            replace hA := hA.later hv2
            replace hB := hB.later hv2
            replace bs := bs.later hv2
            replace bsc0 := bs.c0
            replace bsc1 := bs.c1
            replace BB := BB.trans (hv2.mono BB.size)
            clear hv2
            go_wp2_with fail
            refine (hr3 _ trivial).mono ?_
            rintro e wv3 ⟨rfl, hv3⟩
            replace hA := hA.later hv3
            replace hB := hB.later hv3
            replace bs := bs.later hv3
            replace bsc0 := bs.c0
            replace bsc1 := bs.c1
            replace BB := BB.trans (hv3.mono BB.size)
            clear hv3
            have HLa := hide hA.len
            have HLb := hide hB.len
            have hla : xs.length ≤ 1000 := by have := HLa.out; omega
            have hlb : ys.length ≤ 1000 := by have := HLb.out; omega
            go_wp2_with fail
            refine (cut_ok a b n m cap cap' xs ys _ hA hB hx (allB_setB hy) (by omega)).mono ?_
            rintro e wv4 ⟨vv1, rs1, rfl, ow1, _, st1, mem1, hv4⟩
            obtain ⟨aa1, cc1, rfl, cap1, SL1⟩ := ow1.slc (fit_of_set st1)
            clear ow1
            replace hA := hA.later hv4
            replace hB := hB.later hv4
            replace bs := bs.later hv4
            replace bsc0 := bs.c0
            replace bsc1 := bs.c1
            replace BB := BB.trans (hv4.mono BB.size)
            clear hv4
            go_wp2_with fail
            refine (meet_ok a b n m cap cap' xs ys _ hA hB hcb.1 hx hy).mono ?_
            rintro e wv5 ⟨vv2, rs2, rfl, ow2, _, st2, mem2, hv5⟩
            obtain ⟨aa2, cc2, rfl, cap2, SL2⟩ := ow2.slc (fit_of_set st2)
            clear ow2
            replace hA := hA.later hv5
            replace hB := hB.later hv5
            replace SL1 := SL1.later hv5
            replace bs := bs.later hv5
            replace bsc0 := bs.c0
            replace bsc1 := bs.c1
            replace BB := BB.trans (hv5.mono BB.size)
            clear hv5
            go_wp2_with fail
            refine (meet_ok b a m n cap' cap ys xs _ hB hA hca.1 hy hx).mono ?_
            rintro e wv6 ⟨vv3, rs3, rfl, ow3, _, st3, mem3, hv6⟩
            obtain ⟨aa3, cc3, rfl, cap3, SL3⟩ := ow3.slc (fit_of_set st3)
            clear ow3
            replace hA := hA.later hv6
            replace hB := hB.later hv6
            replace SL1 := SL1.later hv6
            replace SL2 := SL2.later hv6
            replace bs := bs.later hv6
            replace bsc0 := bs.c0
            replace bsc1 := bs.c1
            replace BB := BB.trans (hv6.mono BB.size)
            clear hv6
            go_wp2_with fail
            refine (gaps_ok a n cap xs s _ hA hx hs (by omega)).mono ?_
            rintro e wv7 ⟨vv4, rs4, rfl, ow4, _, st4, mem4, hv7⟩
            obtain ⟨aa4, cc4, rfl, cap4, SL4⟩ := ow4.slc (fit_of_set st4)
            clear ow4
            replace hA := hA.later hv7
            replace hB := hB.later hv7
            replace SL1 := SL1.later hv7
            replace SL2 := SL2.later hv7
            replace SL3 := SL3.later hv7
            replace bs := bs.later hv7
            replace bsc0 := bs.c0
            replace bsc1 := bs.c1
            replace BB := BB.trans (hv7.mono BB.size)
            clear hv7
            go_wp2_with fail
            refine (meet_ok a (some ⟨wv7.heap.size, 0, none⟩) n 1 cap 1 xs [s] _ (hA.later (below_alloc wv7 _)) (Sl.lit wv7 hf) (by omega) hx (setB_one hs)).mono ?_
            rintro e wv8 ⟨vv5, rs5, rfl, ow5, _, st5, mem5, hv8⟩
            obtain ⟨aa5, cc5, rfl, cap5, SL5⟩ := ow5.slc (fit_of_set st5)
            clear ow5
            replace hv8 := box_below hv8
            replace hA := hA.later hv8
            replace hB := hB.later hv8
            replace SL1 := SL1.later hv8
            replace SL2 := SL2.later hv8
            replace SL3 := SL3.later hv8
            replace SL4 := SL4.later hv8
            replace bs := bs.later hv8
            replace bsc0 := bs.c0
            replace bsc1 := bs.c1
            replace BB := BB.trans (hv8.mono BB.size)
            clear hv8
            obtain rfl : rs2 = rs3 := set_ext st2 st3 fun i => by simp only [mem2, mem3]; exact and_comm
            have T1 := hide (total_cut_meet hx st1 st2 mem1 mem2)
            have T2 : Hid (total rs4 + total rs5 = s.2) := by
              have := @total_cut_meet [s] xs rs4 rs5 (setB_one hs) st4 st5 (fun i => by simp only [mem4, wi_one]) (fun i => by simp only [mem5]; exact and_comm)
              rw [total_one] at this; exact this
            have u1 := total_bd st1
            have u2 := total_bd st2
            have u3 := total_bd hx
            have u4 := total_bd st4
            have u5 := total_bd st5
            have bs3 := mayB_iff.1 hs
            have n1 : (total rs1 + total rs2 != total xs) = false := by rw [T1.out]; simp
            have n2 : (total rs4 + total rs5 != s.2) = false := by rw [T2.out]; simp
            have q1 : ∀ p : Later wv8, _ := fun p => same_any aa2 aa3 rs2.length rs2.length cc2 cc3 rs2 rs2 p.val (SL2.later p.below) (SL3.later p.below)
            rw [show decide (rs2 = rs2) = true by simp] at q1
            have q2 : ∀ p : Later wv8, _ := fun p => total_any aa1 rs1.length cc1 rs1 p.val (SL1.later p.below)
            rw [totalB_ok st1] at q2
            have q3 : ∀ p : Later wv8, _ := fun p => total_any aa2 rs2.length cc2 rs2 p.val (SL2.later p.below)
            rw [totalB_ok st2] at q3
            have q4 : ∀ p : Later wv8, _ := fun p => total_any a n cap xs p.val (hA.later p.below)
            rw [totalB_ok hx] at q4
            have q5 : ∀ p : Later wv8, _ := fun p => total_any aa4 rs4.length cc4 rs4 p.val (SL4.later p.below)
            rw [totalB_ok st4] at q5
            have q6 : ∀ p : Later wv8, _ := fun p => total_any aa5 rs5.length cc5 rs5 p.val (SL5.later p.below)
            rw [totalB_ok st5] at q6
            have Cb := lcell bs.lt bsc1
            have hne := later_ne wv8
            generalize total rs1 = t1 at *
            generalize total rs2 = t2 at *
            generalize total xs = t3 at *
            generalize total rs4 = t4 at *
            generalize total rs5 = t5 at *
            go_wp2
            refine wp_region_later (by kernel_rfl) (by kernel_rfl) ?_
            (repeat (first | go_big_quiet_skip | (go_big_quiet_want; go_big_quiet_op; go_big_quiet_on)))
            (go_big_quiet_want; go_big_quiet_op; apply Exists.intro; refine ⟨fun p => ?_, ?_⟩; (· exact later_of (q1 p)); go_big_quiet_on)
            (repeat (first | go_big_quiet_skip | (go_big_quiet_want; go_big_quiet_op; go_big_quiet_on)))
            (go_big_quiet_want; go_big_quiet_op; apply Exists.intro; refine ⟨fun p => ?_, ?_⟩; (· exact later_of (q2 p)); go_big_quiet_on)
            (repeat (first | go_big_quiet_skip | (go_big_quiet_want; go_big_quiet_op; go_big_quiet_on)))
            (go_big_quiet_want; go_big_quiet_op; apply Exists.intro; refine ⟨fun p => ?_, ?_⟩; (· exact later_of (q3 p)); go_big_quiet_on)
            (repeat (first | go_big_quiet_skip | (go_big_quiet_want; go_big_quiet_op; go_big_quiet_on)))
            (go_big_quiet_want; go_big_quiet_op; apply Exists.intro; refine ⟨fun p => ?_, ?_⟩; (· exact later_of (q4 p)); go_big_quiet_on)
            (repeat (first | go_big_quiet_skip | (go_big_quiet_want; go_big_quiet_op; go_big_quiet_on)))
            (go_big_quiet_want; go_big_quiet_op; apply Exists.intro; refine ⟨fun p => ?_, ?_⟩; (· exact later_of (q5 p)); go_big_quiet_on)
            (repeat (first | go_big_quiet_skip | (go_big_quiet_want; go_big_quiet_op; go_big_quiet_on)))
            (go_big_quiet_want; go_big_quiet_op; apply Exists.intro; refine ⟨fun p => ?_, ?_⟩; (· exact later_of (q6 p)); go_big_quiet_on)
            (repeat (first | go_big_quiet_skip | (go_big_quiet_want; go_big_quiet_op; go_big_quiet_on)))
            refine wpQuiet_nil ?_
            rintro _ ⟨p9, rfl⟩
            have hp9 := p9.below
            replace hA := hA.later hp9
            replace hB := hB.later hp9
            replace SL1 := SL1.later hp9
            replace SL2 := SL2.later hp9
            replace SL3 := SL3.later hp9
            replace SL4 := SL4.later hp9
            replace SL5 := SL5.later hp9
            replace bs := bs.later hp9
            replace bsc0 := bs.c0
            replace bsc1 := bs.c1
            replace BB := BB.trans (hp9.mono BB.size)
            clear hp9 q1 q2 q3 q4 q5 q6 Cb hne T1 T2 n1 n2 u1 u2 u3 u4 u5
            have hln1 := set_length st1
            have hln2 := set_length st2
            have hln4 := set_length st4
            have hln5 := set_length st5
            have hall6 := allB_append (allB_setB st1) (allB_setB st2)
            go_wp2_with (first | (at_builtin; refine wpList_append_sl rfl (.tmp 124) (.tmp 125) rfl _ [] rs1 rfl (Own.nil _) aa1 rs1.length cc1 rfl SL1 cap1 (by simp; omega) ?_; intro v3 w3 ho3 hg3 hm3; have b3 := grown_none hg3 rfl; have f3 := (From.nil _ 0 0).moved hm3 (Nat.le_refl _)) | (at_builtin; refine wpList_append_sl rfl (.tmp 127) (.tmp 128) rfl _ ([] ++ rs1) rs2 rfl ho3 aa2 rs2.length cc2 rfl (SL2.later b3) cap2 (by simp; omega) ?_; intro v4 w4 ho4 hg4 hm4; have b4 := below_grown b3 hg4 b3.size f3) | fail)
            rw [List.nil_append] at ho4
            obtain ⟨aa6, cc6, rfl, cap6, SL6⟩ := ho4.slc (fun x hx => Fit.of_may (by unfold allB at hall6; rw [List.all_eq_true] at hall6; exact hall6 x hx))
            replace hA := hA.later b4
            replace hB := hB.later b4
            replace SL1 := SL1.later b4
            replace SL2 := SL2.later b4
            replace SL3 := SL3.later b4
            replace SL4 := SL4.later b4
            replace SL5 := SL5.later b4
            replace bs := bs.later b4
            replace bsc0 := bs.c0
            replace bsc1 := bs.c1
            replace BB := BB.trans (b4.mono BB.size)
            clear ho3 hg3 hm3 b3 f3 ho4 hg4 hm4 b4
            go_wp2_with fail
            refine (join_ok aa6 (rs1 ++ rs2).length cc6 (rs1 ++ rs2) _ SL6 hall6 (by simp; omega)).mono ?_
            rintro e wv10 ⟨vv7, rs7, rfl, ow7, _, st7, mem7, hv10⟩
            obtain ⟨aa7, cc7, rfl, cap7, SL7⟩ := ow7.slc (fit_of_set st7)
            clear ow7
            replace hA := hA.later hv10
            replace hB := hB.later hv10
            replace SL1 := SL1.later hv10
            replace SL2 := SL2.later hv10
            replace SL3 := SL3.later hv10
            replace SL4 := SL4.later hv10
            replace SL5 := SL5.later hv10
            replace SL6 := SL6.later hv10
            replace bs := bs.later hv10
            replace bsc0 := bs.c0
            replace bsc1 := bs.c1
            replace BB := BB.trans (hv10.mono BB.size)
            clear hv10
            obtain rfl : rs7 = xs := set_ext st7 hx fun i => by simp only [mem7, wi_append, mem1, mem2]; cases wi ys i <;> simp
            have hall8 := allB_append (allB_setB st5) (allB_setB st4)
            go_wp2_with (first | (at_builtin; refine wpList_append_sl rfl (.tmp 135) (.tmp 136) rfl _ [] rs5 rfl (Own.nil _) aa5 rs5.length cc5 rfl SL5 cap5 (by simp; omega) ?_; intro v3 w3 ho3 hg3 hm3; have b3 := grown_none hg3 rfl; have f3 := (From.nil _ 0 0).moved hm3 (Nat.le_refl _)) | (at_builtin; refine wpList_append_sl rfl (.tmp 138) (.tmp 139) rfl _ ([] ++ rs5) rs4 rfl ho3 aa4 rs4.length cc4 rfl (SL4.later b3) cap4 (by simp; omega) ?_; intro v4 w4 ho4 hg4 hm4; have b4 := below_grown b3 hg4 b3.size f3) | fail)
            rw [List.nil_append] at ho4
            obtain ⟨aa8, cc8, rfl, cap8, SL8⟩ := ho4.slc (fun x hx => Fit.of_may (by unfold allB at hall8; rw [List.all_eq_true] at hall8; exact hall8 x hx))
            replace hA := hA.later b4
            replace hB := hB.later b4
            replace SL1 := SL1.later b4
            replace SL2 := SL2.later b4
            replace SL3 := SL3.later b4
            replace SL4 := SL4.later b4
            replace SL5 := SL5.later b4
            replace SL6 := SL6.later b4
            replace SL7 := SL7.later b4
            replace bs := bs.later b4
            replace bsc0 := bs.c0
            replace bsc1 := bs.c1
            replace BB := BB.trans (b4.mono BB.size)
            clear ho3 hg3 hm3 b3 f3 ho4 hg4 hm4 b4
            go_wp2_with fail
            refine (join_ok aa8 (rs5 ++ rs4).length cc8 (rs5 ++ rs4) _ SL8 hall8 (by simp; omega)).mono ?_
            rintro e wv12 ⟨vv9, rs9, rfl, ow9, _, st9, mem9, hv12⟩
            obtain ⟨aa9, cc9, rfl, cap9, SL9⟩ := ow9.slc (fit_of_set st9)
            clear ow9
            replace hA := hA.later hv12
            replace hB := hB.later hv12
            replace SL1 := SL1.later hv12
            replace SL2 := SL2.later hv12
            replace SL3 := SL3.later hv12
            replace SL4 := SL4.later hv12
            replace SL5 := SL5.later hv12
            replace SL6 := SL6.later hv12
            replace SL7 := SL7.later hv12
            replace SL8 := SL8.later hv12
            replace bs := bs.later hv12
            replace bsc0 := bs.c0
            replace bsc1 := bs.c1
            replace BB := BB.trans (hv12.mono BB.size)
            clear hv12
            obtain rfl : rs9 = [s] := set_ext st9 (setB_one hs) fun i => by simp only [mem9, wi_append, mem4, mem5, wi_one]; cases wi rs7 i <;> simp
            go_wp2_with fail
            refine (meet_ok aa1 b rs1.length m cc1 cap' rs1 ys _ SL1 hB hcb.1 st1 hy).mono ?_
            rintro e wv13 ⟨vv10, rs10, rfl, ow10, _, st10, mem10, hv13⟩
            obtain ⟨aa10, cc10, rfl, cap10, SL10⟩ := ow10.slc (fit_of_set st10)
            clear ow10
            replace hA := hA.later hv13
            replace hB := hB.later hv13
            replace SL1 := SL1.later hv13
            replace SL2 := SL2.later hv13
            replace SL3 := SL3.later hv13
            replace SL4 := SL4.later hv13
            replace SL5 := SL5.later hv13
            replace SL6 := SL6.later hv13
            replace SL7 := SL7.later hv13
            replace SL8 := SL8.later hv13
            replace SL9 := SL9.later hv13
            replace bs := bs.later hv13
            replace bsc0 := bs.c0
            replace bsc1 := bs.c1
            replace BB := BB.trans (hv13.mono BB.size)
            clear hv13
            obtain rfl : rs10 = [] := set_ext st10 setB_nil fun i => by simp only [mem10, mem1]; simp [wi]
            have hq1 := fun W hW hW' => same_any aa7 a rs7.length n cc7 cap rs7 rs7 W hW hW'
            rw [show decide (rs7 = rs7) = true by simp] at hq1
            have hq2 := fun (W : World) hW hW' => same_any aa9 (some ⟨W.heap.size, 0, none⟩) 1 1 cc9 1 [s] [s] (W.alloc (.cells #[.int .i64 s.1, .int .i64 s.2] 27)) hW hW'
            rw [show decide ([s] = [s]) = true by simp] at hq2
            clear mem1 mem2 mem3 mem4 mem5 mem7 mem9 mem10 st1 st2 st3 st4 st5 st7 st9 st10 hx hy hall6 hall8
            simp only [List.length_cons, List.length_nil, Nat.zero_add] at *
            go_wp2_with fail
            refine (hq1 _ SL7 hA).mono ?_
            rintro e wv14 ⟨rfl, hv14⟩
            replace hA := hA.later hv14
            replace hB := hB.later hv14
            replace SL1 := SL1.later hv14
            replace SL2 := SL2.later hv14
            replace SL3 := SL3.later hv14
            replace SL4 := SL4.later hv14
            replace SL5 := SL5.later hv14
            replace SL6 := SL6.later hv14
            replace SL7 := SL7.later hv14
            replace SL8 := SL8.later hv14
            replace SL9 := SL9.later hv14
            replace SL10 := SL10.later hv14
            replace bs := bs.later hv14
            replace bsc0 := bs.c0
            replace bsc1 := bs.c1
            replace BB := BB.trans (hv14.mono BB.size)
            clear hv14
            go_wp2_with fail
            refine (hq2 _ (SL9.later (below_alloc _ _)) (Sl.lit _ hf)).mono ?_
            rintro e wv15 ⟨rfl, hv15⟩
            replace hv15 := box_below hv15
            replace hA := hA.later hv15
            replace hB := hB.later hv15
            replace SL1 := SL1.later hv15
            replace SL2 := SL2.later hv15
            replace SL3 := SL3.later hv15
            replace SL4 := SL4.later hv15
            replace SL5 := SL5.later hv15
            replace SL6 := SL6.later hv15
            replace SL7 := SL7.later hv15
            replace SL8 := SL8.later hv15
            replace SL9 := SL9.later hv15
            replace SL10 := SL10.later hv15
            replace bs := bs.later hv15
            replace bsc0 := bs.c0
            replace bsc1 := bs.c1
            replace BB := BB.trans (hv15.mono BB.size)
            clear hv15
            go_wp2_with fail
            refine (haw _).mono ?_
            rintro e we ⟨rfl, hbe⟩
            go_wp2
            go_ret
            exact ⟨rfl, BB.trans (hbe.mono BB.size)⟩

end Sp
end Go.Proofs.Ythbgniclplfpgaa
