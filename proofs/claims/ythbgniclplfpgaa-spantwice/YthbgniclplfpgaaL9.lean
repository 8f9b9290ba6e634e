/- A part of the proofs about package span: what its functions answer, call by call. -/
import Derived.Test.YthbgniclplfpgaaLk
namespace Go.Proofs.Ythbgniclplfpgaa
open Go.RowKit
namespace Sp

set_option maxRecDepth 100000 in
set_option maxHeartbeats 4000000 in
theorem spanTwice_walk (a : Option Addr) (n cap : Nat) (xs : List (Int × Int)) (b : Option Addr) (m cap' : Nat) (ys : List (Int × Int)) (c : Option Addr) (k cap'' : Nat) (zs : List (Int × Int)) (w : World) (hA : Sl w a n xs) (_hca : Cap a n cap) (hB : Sl w b m ys) (hcb : Cap b m cap') (hC : Sl w c k zs) (hcc : Cap c k cap'') :
    Calls Try.prog 9 #[.slice a n cap, .slice b m cap', .slice c k cap''] w fun e w' => e = .returned (.bool true) ∧ Below w.heap.size w w' := by
  have hn := hA.most
  have hn2 := hB.most
  have hn3 := hC.most
  have haw := awake_any
  have hr1 := fun W hW => rcheck_any a n cap xs W hW
  have hr2 := fun W hW => few_any a n cap xs W hW
  have hr3 := fun W hW => all_any b m cap' ys W hW
  have hr4 := fun W hW => all_any c k cap'' zs W hW
  cases hx : setB xs with
  | false =>
    rw [hx] at hr1
    clear hx
    go_enter Try.func9, Try.ntmps9
    go_wp2_with fail
    refine (hr1 _ hA).mono ?_
    rintro e wv1 ⟨rfl, hv1⟩
    replace hA := hA.later hv1
    replace hB := hB.later hv1
    replace hC := hC.later hv1
    have BB := hv1
    clear hv1
    go_wp2_with fail
    refine (haw _).mono ?_
    rintro e we ⟨rfl, hbe⟩
    go_wp2
    go_ret
    exact ⟨rfl, BB.trans (hbe.mono BB.size)⟩
  | true =>
    rw [hx] at hr1
    cases hfew : fewB xs with
    | false =>
      rw [hfew] at hr2
      clear hx hfew
      go_enter Try.func9, Try.ntmps9
      go_wp2_with fail
      refine (hr1 _ hA).mono ?_
      rintro e wv1 ⟨rfl, hv1⟩
      replace hA := hA.later hv1
      replace hB := hB.later hv1
      replace hC := hC.later hv1
      have BB := hv1
      clear hv1
      go_wp2_with fail
      refine (hr2 _ hA).mono ?_
      rintro e wv2 ⟨rfl, hv2⟩
      replace hA := hA.later hv2
      replace hB := hB.later hv2
      replace hC := hC.later hv2
      replace BB := BB.trans (hv2.mono BB.size)
      clear hv2
      go_wp2_with fail
      refine (haw _).mono ?_
      rintro e we ⟨rfl, hbe⟩
      go_wp2
      go_ret
      exact ⟨rfl, BB.trans (hbe.mono BB.size)⟩
    | true =>
      rw [hfew] at hr2
      cases hy : allB ys with
      | false =>
        rw [hy] at hr3
        clear hx hfew hy
        go_enter Try.func9, Try.ntmps9
        go_wp2_with fail
        refine (hr1 _ hA).mono ?_
        rintro e wv1 ⟨rfl, hv1⟩
        replace hA := hA.later hv1
        replace hB := hB.later hv1
        replace hC := hC.later hv1
        have BB := hv1
        clear hv1
        go_wp2_with fail
        refine (hr2 _ hA).mono ?_
        rintro e wv2 ⟨rfl, hv2⟩
        replace hA := hA.later hv2
        replace hB := hB.later hv2
        replace hC := hC.later hv2
        replace BB := BB.trans (hv2.mono BB.size)
        clear hv2
        go_wp2_with fail
        refine (hr3 _ hB).mono ?_
        rintro e wv3 ⟨rfl, hv3⟩
        replace hA := hA.later hv3
        replace hB := hB.later hv3
        replace hC := hC.later hv3
        replace BB := BB.trans (hv3.mono BB.size)
        clear hv3
        go_wp2_with fail
        refine (haw _).mono ?_
        rintro e we ⟨rfl, hbe⟩
        go_wp2
        go_ret
        exact ⟨rfl, BB.trans (hbe.mono BB.size)⟩
      | true =>
        rw [hy] at hr3
        cases hz : allB zs with
        | false =>
          rw [hz] at hr4
          clear hx hfew hy hz
          go_enter Try.func9, Try.ntmps9
          go_wp2_with fail
          refine (hr1 _ hA).mono ?_
          rintro e wv1 ⟨rfl, hv1⟩
          replace hA := hA.later hv1
          replace hB := hB.later hv1
          replace hC := hC.later hv1
          have BB := hv1
          clear hv1
          go_wp2_with fail
          refine (hr2 _ hA).mono ?_
          rintro e wv2 ⟨rfl, hv2⟩
          replace hA := hA.later hv2
          replace hB := hB.later hv2
          replace hC := hC.later hv2
          replace BB := BB.trans (hv2.mono BB.size)
          clear hv2
          go_wp2_with fail
          refine (hr3 _ hB).mono ?_
          rintro e wv3 ⟨rfl, hv3⟩
          replace hA := hA.later hv3
          replace hB := hB.later hv3
          replace hC := hC.later hv3
          replace BB := BB.trans (hv3.mono BB.size)
          clear hv3
          go_wp2_with fail
          refine (hr4 _ hC).mono ?_
          rintro e wv4 ⟨rfl, hv4⟩
          replace hA := hA.later hv4
          replace hB := hB.later hv4
          replace hC := hC.later hv4
          replace BB := BB.trans (hv4.mono BB.size)
          clear hv4
          go_wp2_with fail
          refine (haw _).mono ?_
          rintro e we ⟨rfl, hbe⟩
          go_wp2
          go_ret
          exact ⟨rfl, BB.trans (hbe.mono BB.size)⟩
        | true =>
          rw [hz] at hr4
          by_cases h2 : 100 < m
          · clear hx hfew hy hz
            go_enter Try.func9, Try.ntmps9
            go_wp2_with fail
            refine (hr1 _ hA).mono ?_
            rintro e wv1 ⟨rfl, hv1⟩
            replace hA := hA.later hv1
            replace hB := hB.later hv1
            replace hC := hC.later hv1
            have BB := hv1
            clear hv1
            go_wp2_with fail
            refine (hr2 _ hA).mono ?_
            rintro e wv2 ⟨rfl, hv2⟩
            replace hA := hA.later hv2
            replace hB := hB.later hv2
            replace hC := hC.later hv2
            replace BB := BB.trans (hv2.mono BB.size)
            clear hv2
            go_wp2_with fail
            refine (hr3 _ hB).mono ?_
            rintro e wv3 ⟨rfl, hv3⟩
            replace hA := hA.later hv3
            replace hB := hB.later hv3
            replace hC := hC.later hv3
            replace BB := BB.trans (hv3.mono BB.size)
            clear hv3
            go_wp2_with fail
            refine (hr4 _ hC).mono ?_
            rintro e wv4 ⟨rfl, hv4⟩
            replace hA := hA.later hv4
            replace hB := hB.later hv4
            replace hC := hC.later hv4
            replace BB := BB.trans (hv4.mono BB.size)
            clear hv4
            go_wp2_with fail
            refine (haw _).mono ?_
            rintro e we ⟨rfl, hbe⟩
            go_wp2
            go_ret
            exact ⟨rfl, BB.trans (hbe.mono BB.size)⟩
          · by_cases h3 : 100 < k
            · clear hx hfew hy hz
              go_enter Try.func9, Try.ntmps9
              go_wp2_with fail
              refine (hr1 _ hA).mono ?_
              rintro e wv1 ⟨rfl, hv1⟩
              replace hA := hA.later hv1
              replace hB := hB.later hv1
              replace hC := hC.later hv1
              have BB := hv1
              clear hv1
              go_wp2_with fail
              refine (hr2 _ hA).mono ?_
              rintro e wv2 ⟨rfl, hv2⟩
              replace hA := hA.later hv2
              replace hB := hB.later hv2
              replace hC := hC.later hv2
              replace BB := BB.trans (hv2.mono BB.size)
              clear hv2
              go_wp2_with fail
              refine (hr3 _ hB).mono ?_
              rintro e wv3 ⟨rfl, hv3⟩
              replace hA := hA.later hv3
              replace hB := hB.later hv3
              replace hC := hC.later hv3
              replace BB := BB.trans (hv3.mono BB.size)
              clear hv3
              go_wp2_with fail
              refine (hr4 _ hC).mono ?_
              rintro e wv4 ⟨rfl, hv4⟩
              replace hA := hA.later hv4
              replace hB := hB.later hv4
              replace hC := hC.later hv4
              replace BB := BB.trans (hv4.mono BB.size)
              clear hv4
              go_wp2_with fail
              refine (haw _).mono ?_
              rintro e we ⟨rfl, hbe⟩
              go_wp2
              go_ret
              exact ⟨rfl, BB.trans (hbe.mono BB.size)⟩
            · go_enter Try.func9, Try.ntmps9
              go_wp2_with fail
              refine (hr1 _ hA).mono ?_
              rintro e wv1 ⟨rfl, hv1⟩
              replace hA := hA.later hv1
              replace hB := hB.later hv1
              replace hC := hC.later hv1
              have BB := hv1
              clear hv1
              go_wp2_with fail
              refine (hr2 _ hA).mono ?_
              rintro e wv2 ⟨rfl, hv2⟩
              replace hA := hA.later hv2
              replace hB := hB.later hv2
              replace hC := hC.later hv2
              replace BB := BB.trans (hv2.mono BB.size)
              clear hv2
              go_wp2_with fail
              refine (hr3 _ hB).mono ?_
              rintro e wv3 ⟨rfl, hv3⟩
              replace hA := hA.later hv3
              replace hB := hB.later hv3
              replace hC := hC.later hv3
              replace BB := BB.trans (hv3.mono BB.size)
              clear hv3
              go_wp2_with fail
              refine (hr4 _ hC).mono ?_
              rintro e wv4 ⟨rfl, hv4⟩
              replace hA := hA.later hv4
              replace hB := hB.later hv4
              replace hC := hC.later hv4
              replace BB := BB.trans (hv4.mono BB.size)
              clear hv4
              have hlx := few_len hfew
              have HL2 := hB.len
              have HL3 := hC.len
              have hly : ys.length ≤ 100 := by omega
              have hlz : zs.length ≤ 100 := by omega
              clear HL2 HL3
              go_wp2_with fail
              refine (cut_ok a b n m cap cap' xs ys _ hA hB hx hy (by omega)).mono ?_
              rintro e wv5 ⟨vv1, rs1, rfl, ow1, _, st1, mem1, hv5⟩
              obtain ⟨aa1, cc1, rfl, cap1, SL1⟩ := ow1.slc (fit_of_set st1)
              clear ow1
              replace hA := hA.later hv5
              replace hB := hB.later hv5
              replace hC := hC.later hv5
              replace BB := BB.trans (hv5.mono BB.size)
              clear hv5
              go_wp2_with fail
              refine (cut_ok aa1 c rs1.length k cc1 cap'' rs1 zs _ SL1 hC st1 hz (by omega)).mono ?_
              rintro e wv6 ⟨vv2, rs2, rfl, ow2, _, st2, mem2, hv6⟩
              obtain ⟨aa2, cc2, rfl, cap2, SL2⟩ := ow2.slc (fit_of_set st2)
              clear ow2
              replace hA := hA.later hv6
              replace hB := hB.later hv6
              replace hC := hC.later hv6
              replace SL1 := SL1.later hv6
              replace BB := BB.trans (hv6.mono BB.size)
              clear hv6
              have hall3 := allB_append hz hy
              go_wp2_with (first | (at_builtin; refine wpList_append_sl rfl (.tmp 57) (.tmp 58) rfl _ [] zs rfl (Own.nil _) c k cap'' rfl hC hcc (by simp; omega) ?_; intro v3 w3 ho3 hg3 hm3; have b3 := grown_none hg3 rfl; have f3 := (From.nil _ 0 0).moved hm3 (Nat.le_refl _)) | (at_builtin; refine wpList_append_sl rfl (.tmp 60) (.tmp 61) rfl _ ([] ++ zs) ys rfl ho3 b m cap' rfl (hB.later b3) hcb (by simp; omega) ?_; intro v4 w4 ho4 hg4 hm4; have b4 := below_grown b3 hg4 b3.size f3) | fail)
              rw [List.nil_append] at ho4
              obtain ⟨aa3, cc3, rfl, cap3, SL3⟩ := ho4.slc (fun x hx => Fit.of_may (by unfold allB at hall3; rw [List.all_eq_true] at hall3; exact hall3 x hx))
              replace hA := hA.later b4
              replace hB := hB.later b4
              replace hC := hC.later b4
              replace SL1 := SL1.later b4
              replace SL2 := SL2.later b4
              replace BB := BB.trans (b4.mono BB.size)
              clear ho3 hg3 hm3 b3 f3 ho4 hg4 hm4 b4
              go_wp2_with fail
              refine (cut_ok a aa3 n (zs ++ ys).length cap cc3 xs (zs ++ ys) _ hA SL3 hx hall3 (by simp; omega)).mono ?_
              rintro e wv8 ⟨vv4, rs4, rfl, ow4, _, st4, mem4, hv8⟩
              obtain ⟨aa4, cc4, rfl, cap4, SL4⟩ := ow4.slc (fit_of_set st4)
              clear ow4
              replace hA := hA.later hv8
              replace hB := hB.later hv8
              replace hC := hC.later hv8
              replace SL1 := SL1.later hv8
              replace SL2 := SL2.later hv8
              replace SL3 := SL3.later hv8
              replace BB := BB.trans (hv8.mono BB.size)
              clear hv8
              obtain rfl : rs2 = rs4 := set_ext st2 st4 fun i => by simp only [mem2, mem1, mem4, wi_append]; constructor <;> (intro h; simp_all)
              have hq1 := fun W hW hW' => same_any aa2 aa4 rs2.length rs2.length cc2 cc4 rs2 rs2 W hW hW'
              rw [show decide (rs2 = rs2) = true by simp] at hq1
              have htx := fun W hW => total_any a n cap xs W hW
              rw [totalB_ok hx] at htx
              have HT := hide (total_cnt hx (N := 400) fun i hi => (few_wi hfew (allB_setB hx) hi).2)
              rw [HT.out] at htx
              have hhas := fun i W hW => has_any a n cap xs i W hW
              have hhe : ∀ i, hasB xs i = wi xs i := fun i => by simp [hasB, hx]
              clear mem1 mem2 mem4 st1 st2 st4 hy hz hall3 hx hfew
              go_wp2
              go_loopw [14, 15] (fun t i wr => ∃ k : Nat, k ≤ 400 ∧ t = .int .i64 (cnt (fun j => wi xs j) k) ∧ i = .int .i64 k ∧ Below wv8.heap.size wv8 wr) (fun _ i _ => 400 - (intOf i).toNat)
              case atStart => exact ⟨0, Nat.zero_le _, rfl, rfl, Below.refl _ _⟩
              case round =>
                obtain ⟨q, hq, rfl, rfl, hbr⟩ := hrel
                replace hA := hA.later hbr
                replace hB := hB.later hbr
                replace hC := hC.later hbr
                replace SL1 := SL1.later hbr
                replace SL2 := SL2.later hbr
                replace SL3 := SL3.later hbr
                replace SL4 := SL4.later hbr
                replace BB := BB.trans (hbr.mono BB.size)
                by_cases hlt : q < 400
                · have hh := hhas (q : Int) _ hA
                  rw [hhe] at hh
                  have hcb2 := cnt_nonneg (f := fun j => wi xs j) q
                  have HC : Hid (cnt (fun j => wi xs j) (q + 1) = cnt (fun j => wi xs j) q + if wi xs (q : Int) then 1 else 0) := rfl
                  clear htx hhas hhe hq1 haw
                  cases hw : wi xs (q : Int) with
                  | true =>
                    have HW := hide hw
                    rw [hw] at hh
                    have HC2 : Hid (cnt (fun j => wi xs j) (q + 1) = cnt (fun j => wi xs j) q + 1) := by show _ = _; rw [HC.out, hw]; simp
                    clear hw HC
                    generalize cnt (fun j => wi xs j) q = t at *
                    go_wp2_with fail
                    refine hh.mono ?_
                    rintro e wz ⟨rfl, hz9⟩
                    go_wp2
                    go_roundw
                    case rel => exact ⟨q + 1, by omega, by rw [HC2.out], by go_num, hbr.trans (hz9.mono hbr.size)⟩
                    case measure => simp [intOf]; omega
                  | false =>
                    have HW := hide hw
                    rw [hw] at hh
                    have HC2 : Hid (cnt (fun j => wi xs j) (q + 1) = cnt (fun j => wi xs j) q + 0) := by show _ = _; rw [HC.out, hw]; simp
                    clear hw HC
                    generalize cnt (fun j => wi xs j) q = t at *
                    go_wp2_with fail
                    refine hh.mono ?_
                    rintro e wz ⟨rfl, hz9⟩
                    go_wp2
                    go_roundw
                    case rel => exact ⟨q + 1, by omega, by rw [HC2.out]; simp, by go_num, hbr.trans (hz9.mono hbr.size)⟩
                    case measure => simp [intOf]; omega
                · have HQ := hide (show q = 400 by omega)
                  rw [← HQ.out] at htx
                  clear hhas hhe
                  go_wp2_with fail
                  refine (hq1 _ SL2 SL4).mono ?_
                  rintro e wv9 ⟨rfl, hv9⟩
                  replace hA := hA.later hv9
                  replace hB := hB.later hv9
                  replace hC := hC.later hv9
                  replace SL1 := SL1.later hv9
                  replace SL2 := SL2.later hv9
                  replace SL3 := SL3.later hv9
                  replace SL4 := SL4.later hv9
                  replace BB := BB.trans (hv9.mono BB.size)
                  clear hv9
                  go_wp2_with fail
                  refine (htx _ hA).mono ?_
                  rintro e wv10 ⟨rfl, hv10⟩
                  replace hA := hA.later hv10
                  replace hB := hB.later hv10
                  replace hC := hC.later hv10
                  replace SL1 := SL1.later hv10
                  replace SL2 := SL2.later hv10
                  replace SL3 := SL3.later hv10
                  replace SL4 := SL4.later hv10
                  replace BB := BB.trans (hv10.mono BB.size)
                  clear hv10
                  generalize cnt (fun j => wi xs j) q = t at *
                  go_wp2_with fail
                  refine (haw _).mono ?_
                  rintro e we ⟨rfl, hbe⟩
                  go_wp2
                  go_ret
                  exact ⟨rfl, BB.trans (hbe.mono BB.size)⟩

end Sp
end Go.Proofs.Ythbgniclplfpgaa
