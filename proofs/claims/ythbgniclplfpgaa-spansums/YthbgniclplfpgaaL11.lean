/- A part of the proofs about package span: what its functions answer, call by call. -/
import Derived.Test.YthbgniclplfpgaaLk
namespace Go.Proofs.Ythbgniclplfpgaa
open Go.RowKit
namespace Sp

set_option maxHeartbeats 4000000 in
theorem spanSums_walk (a : Option Addr) (n cap : Nat) (xs : List (Int × Int)) (b : Option Addr) (m cap' : Nat) (ys : List (Int × Int)) (w : World) (hA : Sl w a n xs) (hca : Cap a n cap) (hB : Sl w b m ys) (hcb : Cap b m cap') :
    Calls Try.prog 11 #[.slice a n cap, .slice b m cap'] w fun e w' => e = .returned (.bool true) ∧ Below w.heap.size w w' := by
  have hn := hA.most
  have hn2 := hB.most
  have haw := awake_any
  have hr1 := fun W hW => rcheck_any a n cap xs W hW
  have hr2 := fun W hW => rcheck_any b m cap' ys W hW
  cases hx : setB xs with
  | false =>
    rw [hx] at hr1
    clear hx
    go_enter Try.func11, Try.ntmps11
    go_wp2_with fail
    refine (hr1 _ hA).mono ?_
    rintro e w1 ⟨rfl, hb1⟩
    go_wp2_with fail
    refine (haw _).mono ?_
    rintro e we ⟨rfl, hbe⟩
    go_wp2
    go_ret
    exact ⟨rfl, hb1.trans (hbe.mono hb1.size)⟩
  | true =>
    rw [hx] at hr1
    cases hy : setB ys with
    | false =>
      rw [hy] at hr2
      clear hx hy
      go_enter Try.func11, Try.ntmps11
      go_wp2_with fail
      refine (hr1 _ hA).mono ?_
      rintro e w1 ⟨rfl, hb1⟩
      go_wp2_with fail
      refine (hr2 _ (hB.later hb1)).mono ?_
      rintro e w2 ⟨rfl, hb2⟩
      have B2 := hb1.trans (hb2.mono hb1.size)
      go_wp2_with fail
      refine (haw _).mono ?_
      rintro e we ⟨rfl, hbe⟩
      go_wp2
      go_ret
      exact ⟨rfl, B2.trans (hbe.mono B2.size)⟩
    | true =>
      rw [hy] at hr2
      by_cases h1 : 1000 < n
      · clear hx hy
        go_enter Try.func11, Try.ntmps11
        go_wp2_with fail
        refine (hr1 _ hA).mono ?_
        rintro e w1 ⟨rfl, hb1⟩
        go_wp2_with fail
        refine (hr2 _ (hB.later hb1)).mono ?_
        rintro e w2 ⟨rfl, hb2⟩
        have B2 := hb1.trans (hb2.mono hb1.size)
        go_wp2_with fail
        refine (haw _).mono ?_
        rintro e we ⟨rfl, hbe⟩
        go_wp2
        go_ret
        exact ⟨rfl, B2.trans (hbe.mono B2.size)⟩
      · by_cases h2 : 1000 < m
        · clear hx hy
          go_enter Try.func11, Try.ntmps11
          go_wp2_with fail
          refine (hr1 _ hA).mono ?_
          rintro e w1 ⟨rfl, hb1⟩
          go_wp2_with fail
          refine (hr2 _ (hB.later hb1)).mono ?_
          rintro e w2 ⟨rfl, hb2⟩
          have B2 := hb1.trans (hb2.mono hb1.size)
          go_wp2_with fail
          refine (haw _).mono ?_
          rintro e we ⟨rfl, hbe⟩
          go_wp2
          go_ret
          exact ⟨rfl, B2.trans (hbe.mono B2.size)⟩
        · have HL1 := hide hA.len
          have HL2 := hide hB.len
          have ht1 := fun W hW => total_any a n cap xs W hW
          have ht2 := fun W hW => total_any b m cap' ys W hW
          rw [totalB_ok hx] at ht1
          rw [totalB_ok hy] at ht2
          go_enter Try.func11, Try.ntmps11
          go_wp2_with fail
          refine (hr1 _ hA).mono ?_
          rintro e w1 ⟨rfl, hb1⟩
          go_wp2_with fail
          refine (hr2 _ (hB.later hb1)).mono ?_
          rintro e w2 ⟨rfl, hb2⟩
          have B2 := hb1.trans (hb2.mono hb1.size)
          clear hb1 hb2 hr1 hr2
          go_wp2_with (first | (at_builtin; refine wpList_append_sl rfl (.tmp 29) (.tmp 30) rfl _ [] xs rfl (Own.nil _) a n cap rfl (hA.later B2) hca (by have := HL1.out; simp; omega) ?_; intro v3 w3 ho3 hg3 hm3; have B3 := below_grown B2 hg3 B2.size (From.nil _ 0 0); have F3 := (From.nil w.heap.size 0 0).moved hm3 B2.size) | (at_builtin; refine wpList_append_sl rfl (.tmp 32) (.tmp 33) rfl _ ([] ++ xs) ys rfl ho3 b m cap' rfl (hB.later B3) hcb (by have := HL1.out; have := HL2.out; simp; omega) ?_; intro v4 w4 ho4 hg4 hm4; have B4 := below_grown B3 hg4 B3.size F3) | fail)
          rw [List.nil_append] at ho4
          have hall := allB_append (allB_setB hx) (allB_setB hy)
          obtain ⟨a4, c4, rfl, hc4, hs4⟩ := ho4.slc (fun x hx => Fit.of_may (by unfold allB at hall; rw [List.all_eq_true] at hall; exact hall x hx))
          have hj := fun W hW => join_ok a4 (xs ++ ys).length c4 (xs ++ ys) W hW hall (by have := HL1.out; have := HL2.out; simp; omega)
          have hme := fun W hW hW' => meet_ok a b n m cap cap' xs ys W hW hW' hcb.1 hx hy
          clear ho3 hg3 hm3 ho4 hg4 hm4 F3 B3
          go_wp2_with fail
          refine (hj _ hs4).mono ?_
          rintro e w5 ⟨v5, js, rfl, ho5, _, hjs, hjm, hb5⟩
          have B5 := B4.trans (hb5.mono B4.size)
          go_wp2_with fail
          refine (hme _ (hA.later B5) (hB.later B5)).mono ?_
          rintro e w6 ⟨v6, ms, rfl, ho6, _, hms, hmm, hb6⟩
          have B6 := B5.trans (hb6.mono B5.size)
          have HT := hide (total_join_meet hx hy hjs hms (fun i => by rw [hjm, wi_append]) hmm)
          obtain ⟨a5, c5, rfl, hc5, hs5⟩ := ho5.slc (fit_of_set hjs)
          obtain ⟨a6, c6, rfl, hc6, hs6⟩ := ho6.slc (fit_of_set hms)
          have hs56 := hs5.later hb6
          have ht3 := fun W hW => total_any a5 js.length c5 js W hW
          have ht4 := fun W hW => total_any a6 ms.length c6 ms W hW
          rw [totalB_ok hjs] at ht3
          rw [totalB_ok hms] at ht4
          have b1 := total_bd hx
          have b2 := total_bd hy
          have b3 := total_bd hjs
          have b4 := total_bd hms
          clear hj hme hs4 hall hjm hmm hb5 hb6 hs5 ho5 ho6 hjs hms hx hy
          go_wp2_with fail
          refine (ht3 _ hs56).mono ?_
          rintro e w7 ⟨rfl, hb7⟩
          have B7 := B6.trans (hb7.mono B6.size)
          go_wp2_with fail
          refine (ht4 _ (hs6.later hb7)).mono ?_
          rintro e w8 ⟨rfl, hb8⟩
          have B8 := B7.trans (hb8.mono B7.size)
          go_wp2_with fail
          refine (ht1 _ (hA.later B8)).mono ?_
          rintro e w9 ⟨rfl, hb9⟩
          have B9 := B8.trans (hb9.mono B8.size)
          go_wp2_with fail
          refine (ht2 _ (hB.later B9)).mono ?_
          rintro e w10 ⟨rfl, hb10⟩
          have B10 := B9.trans (hb10.mono B9.size)
          have heq : (total js + total ms == total xs + total ys) = true := by rw [HT.out]; simp
          generalize total js = t1 at *
          generalize total ms = t2 at *
          generalize total xs = t3 at *
          generalize total ys = t4 at *
          go_wp2_with fail
          refine (haw _).mono ?_
          rintro e we ⟨rfl, hbe⟩
          go_wp2
          go_ret
          exact ⟨rfl, B10.trans (hbe.mono B10.size)⟩

end Sp
end Go.Proofs.Ythbgniclplfpgaa
