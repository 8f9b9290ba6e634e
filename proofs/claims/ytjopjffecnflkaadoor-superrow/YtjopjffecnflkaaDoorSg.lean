/- A part of the proofs about package super: what its functions answer, call by call. -/
import Derived.Test.YtjopjffecnflkaaDoorSf
namespace Go.Proofs.YtjopjffecnflkaaDoor
open Go.RowKit
namespace Su
open Cr
def Sb.zero : Sb := ⟨0, 0, 0, 0, 0, 0⟩
/-- What Decode answers. -/
def decS (s : ByteArray) : Sb × Int :=
  if s.size ≠ 64 then (Sb.zero, 30) else if (opened s).2 ≠ 0 then (Sb.zero, (opened s).2) else if chk (readS s) = 0 ∧ (readS s).sec = s then (readS s, 0) else (Sb.zero, 12)
theorem wrap64_I (x : Int) : I64 (wrap64 x) := by unfold I64 wrap64; omega
theorem readS_fit (s : ByteArray) : (readS s).Fit := by
  have l : ∀ a k, nAt s a k < 256 ^ k := fun a k => num_lt_of (fun b hb => bs_lt _ b hb) k k (Nat.le_refl _)
  have l1 := l 4 8
  have l2 := l 12 4
  have l3 := l 16 4
  refine ⟨l1, ?_, wrap64_I _, ?_, wrap64_I _, wrap64_I _⟩
  · show I64 ((nAt s 12 4 : Nat) : Int)
    generalize nAt s 12 4 = x at *
    unfold I64; omega
  · show I64 ((nAt s 16 4 : Nat) : Int)
    generalize nAt s 16 4 = x at *
    unfold I64; omega
set_option maxHeartbeats 4000000 in
theorem decode_any (s : ByteArray) (hs : s.size ≤ 1000) (w : World) (T : Tab w) : Calls Tryd.prog 16 #[.string s] w fun e w' => e = .returned (.tuple #[(decS s).1.val, .int .i64 (decS s).2]) ∧ Below w.heap.size w w' := by
  have ho := fun w T => open_any s hs w T
  have hX := boxC w 0 0 0 0 0 0 24
  have hB := below_alloc w (.cells #[.int .u64 (0 : Nat), .int .i64 0, .int .i64 0, .int .i64 0, .int .i64 0, .int .i64 0] 24)
  by_cases h64 : s.size = 64
  · have hT1 := T.later hB
    by_cases hop : (opened s).2 = 0
    · have hr := fun w => read_any s h64 w
      have hfit := readS_fit s
      have he := fun w T => encode_any (readS s) hfit w T
      have hop2 : opened s = ((opened s).1, 0) := by rw [← hop]
      rw [hop2] at ho
      have hval : (readS s).val = .agg #[.int .u64 ((readS s).key : Nat), .int .i64 (readS s).ep, .int .i64 (readS s).ser, .int .i64 (readS s).siz, .int .i64 (readS s).tail, .int .i64 (readS s).num] := rfl
      by_cases hok : chk (readS s) = 0 ∧ (readS s).sec = s
      · have hd : decS s = (readS s, 0) := by unfold decS; rw [if_neg (by omega), if_neg (by omega), if_pos hok]
        have hen : (readS s).enc = s := by unfold Sb.enc; rw [if_pos hok.1, hok.2]
        rw [hd]
        rw [hen, hok.1] at he
        clear hd hen hok hop2 hop hfit
        simp only [hval] at hr he ⊢
        clear hval
        generalize readS s = R at *
        obtain ⟨key, ep, ser, siz, tail, num⟩ := R
        simp only at hr he ⊢
        generalize (opened s).1 = ob at *
        go_enter Tryd.func16, Tryd.ntmps16
        go_wp2_with fail
        refine (ho _ hT1).mono ?_
        rintro e w1 ⟨rfl, b1⟩
        have X := hX.later (b1.mono (by simp))
        have BB := hB.trans (b1.mono (by simp))
        clear ho hX hB b1 hT1
        go_wp2_with fail
        refine (hr _).mono ?_
        rintro e w2 ⟨rfl, b2⟩
        replace X := X.later (b2.mono X.lt)
        replace BB := BB.trans (b2.mono BB.size)
        have Y0 := boxC w2 key ep ser siz tail num 24
        have b3 := below_alloc w2 (.cells #[.int .u64 (key : Nat), .int .i64 ep, .int .i64 ser, .int .i64 siz, .int .i64 tail, .int .i64 num] 24)
        replace X := X.later (b3.mono X.lt)
        replace BB := BB.trans (b3.mono BB.size)
        have T3 := T.later BB
        clear hr b2 b3 T
        go_wp2_with fail
        refine (he _ T3).mono ?_
        rintro e w3 ⟨rfl, b4⟩
        replace X := X.later (b4.mono X.lt)
        replace BB := BB.trans (b4.mono BB.size)
        have Y2 := Y0.later (b4.mono Y0.lt)
        have g0 := Y2.c0
        have g1 := Y2.c1
        have g2 := Y2.c2
        have g3 := Y2.c3
        have g4 := Y2.c4
        have g5 := Y2.c5
        clear he b4 Y0 Y2 T3
        have c0 := X.c0
        have c1 := X.c1
        have c2 := X.c2
        have c3 := X.c3
        have c4 := X.c4
        have c5 := X.c5
        have f0 := X.fr 0 (by omega)
        have f1 := X.fr 1 (by omega)
        have f2 := X.fr 2 (by omega)
        have f3 := X.fr 3 (by omega)
        have f4 := X.fr 4 (by omega)
        have f5 := X.fr 5 (by omega)
        have Y := hide (X.put (key) (ep) (ser) (siz) (tail) (num))
        have YB := hide (BoxC.below X BB (by first | exact Nat.le_refl _ | exact Nat.le_succ _) (key) (ep) (ser) (siz) (tail) (num))
        clear X
        go_wp2
        have Y' := Y.out
        have d0 := Y'.c0
        have d1 := Y'.c1
        have d2 := Y'.c2
        have d3 := Y'.c3
        have d4 := Y'.c4
        have d5 := Y'.c5
        have YB' := YB.out
        clear Y Y' YB
        clear c0 c1 c2 c3 c4 c5 f0 f1 f2 f3 f4 f5 
        generalize World.setCell _ _ _ = wz at *
        refine bodyPost_ret (v := .tuple #[.agg #[.int .u64 ((key : Nat) : Int), .int .i64 (ep), .int .i64 (ser), .int .i64 (siz), .int .i64 (tail), .int .i64 (num)], .int .i64 0]) (by simp [results, Tryd.results16, go_sem, d0, d1, d2, d3, d4, d5]) rfl ⟨rfl, YB'⟩

      · have hd : decS s = (Sb.zero, 12) := by unfold decS; rw [if_neg (by omega), if_neg (by omega), if_neg hok]
        rw [hd]
        simp only [Sb.val, Sb.zero]
        have hbad : (readS s).enc = s → chk (readS s) ≠ 0 := by
          intro h1 h2
          unfold Sb.enc at h1
          rw [if_pos h2] at h1
          exact hok ⟨h2, h1⟩
        clear hd hok hop2 hop hfit
        simp only [hval] at hr he
        clear hval
        generalize (readS s).enc = E at *
        generalize chk (readS s) = c at *
        generalize readS s = R at *
        obtain ⟨key, ep, ser, siz, tail, num⟩ := R
        simp only at hr he
        generalize (opened s).1 = ob at *
        by_cases hc0 : c = 0
        · have hEs : ¬ E = s := fun e => hbad e hc0
          have hbe := bne_lists hEs
          clear hEs hbad
          subst hc0
          go_enter Tryd.func16, Tryd.ntmps16
          go_wp2_with fail
          refine (ho _ hT1).mono ?_
          rintro e w1 ⟨rfl, b1⟩
          have X := hX.later (b1.mono (by simp))
          have BB := hB.trans (b1.mono (by simp))
          clear ho hX hB b1 hT1
          go_wp2_with fail
          refine (hr _).mono ?_
          rintro e w2 ⟨rfl, b2⟩
          replace X := X.later (b2.mono X.lt)
          replace BB := BB.trans (b2.mono BB.size)
          have Y0 := boxC w2 key ep ser siz tail num 24
          have b3 := below_alloc w2 (.cells #[.int .u64 (key : Nat), .int .i64 ep, .int .i64 ser, .int .i64 siz, .int .i64 tail, .int .i64 num] 24)
          replace X := X.later (b3.mono X.lt)
          replace BB := BB.trans (b3.mono BB.size)
          have T3 := T.later BB
          clear hr b2 b3 T
          go_wp2_with fail
          refine (he _ T3).mono ?_
          rintro e w3 ⟨rfl, b4⟩
          replace X := X.later (b4.mono X.lt)
          replace BB := BB.trans (b4.mono BB.size)
          have Y2 := Y0.later (b4.mono Y0.lt)
          clear he b4 Y0 Y2 T3
          have c0 := X.c0
          have c1 := X.c1
          have c2 := X.c2
          have c3 := X.c3
          have c4 := X.c4
          have c5 := X.c5
          have f0 := X.fr 0 (by omega)
          have f1 := X.fr 1 (by omega)
          have f2 := X.fr 2 (by omega)
          have f3 := X.fr 3 (by omega)
          have f4 := X.fr 4 (by omega)
          have f5 := X.fr 5 (by omega)
          have Y := hide (X.put (0) (0) (0) (0) (0) (0))
          have YB := hide (BoxC.below X BB (by first | exact Nat.le_refl _ | exact Nat.le_succ _) (0) (0) (0) (0) (0) (0))
          clear X
          go_wp2
          have Y' := Y.out
          have d0 := Y'.c0
          have d1 := Y'.c1
          have d2 := Y'.c2
          have d3 := Y'.c3
          have d4 := Y'.c4
          have d5 := Y'.c5
          have YB' := YB.out
          clear Y Y' YB
          clear c0 c1 c2 c3 c4 c5 f0 f1 f2 f3 f4 f5 
          generalize World.setCell _ _ _ = wz at *
          refine bodyPost_ret (v := .tuple #[.agg #[.int .u64 ((0 : Nat) : Int), .int .i64 (0), .int .i64 (0), .int .i64 (0), .int .i64 (0), .int .i64 (0)], .int .i64 12]) (by simp [results, Tryd.results16, go_sem, d0, d1, d2, d3, d4, d5]) rfl ⟨rfl, YB'⟩

        · clear hbad
          go_enter Tryd.func16, Tryd.ntmps16
          go_wp2_with fail
          refine (ho _ hT1).mono ?_
          rintro e w1 ⟨rfl, b1⟩
          have X := hX.later (b1.mono (by simp))
          have BB := hB.trans (b1.mono (by simp))
          clear ho hX hB b1 hT1
          go_wp2_with fail
          refine (hr _).mono ?_
          rintro e w2 ⟨rfl, b2⟩
          replace X := X.later (b2.mono X.lt)
          replace BB := BB.trans (b2.mono BB.size)
          have Y0 := boxC w2 key ep ser siz tail num 24
          have b3 := below_alloc w2 (.cells #[.int .u64 (key : Nat), .int .i64 ep, .int .i64 ser, .int .i64 siz, .int .i64 tail, .int .i64 num] 24)
          replace X := X.later (b3.mono X.lt)
          replace BB := BB.trans (b3.mono BB.size)
          have T3 := T.later BB
          clear hr b2 b3 T
          go_wp2_with fail
          refine (he _ T3).mono ?_
          rintro e w3 ⟨rfl, b4⟩
          replace X := X.later (b4.mono X.lt)
          replace BB := BB.trans (b4.mono BB.size)
          have Y2 := Y0.later (b4.mono Y0.lt)
          clear he b4 Y0 Y2 T3
          have c0 := X.c0
          have c1 := X.c1
          have c2 := X.c2
          have c3 := X.c3
          have c4 := X.c4
          have c5 := X.c5
          have f0 := X.fr 0 (by omega)
          have f1 := X.fr 1 (by omega)
          have f2 := X.fr 2 (by omega)
          have f3 := X.fr 3 (by omega)
          have f4 := X.fr 4 (by omega)
          have f5 := X.fr 5 (by omega)
          have Y := hide (X.put (0) (0) (0) (0) (0) (0))
          have YB := hide (BoxC.below X BB (by first | exact Nat.le_refl _ | exact Nat.le_succ _) (0) (0) (0) (0) (0) (0))
          clear X
          go_wp2
          have Y' := Y.out
          have d0 := Y'.c0
          have d1 := Y'.c1
          have d2 := Y'.c2
          have d3 := Y'.c3
          have d4 := Y'.c4
          have d5 := Y'.c5
          have YB' := YB.out
          clear Y Y' YB
          clear c0 c1 c2 c3 c4 c5 f0 f1 f2 f3 f4 f5 
          generalize World.setCell _ _ _ = wz at *
          refine bodyPost_ret (v := .tuple #[.agg #[.int .u64 ((0 : Nat) : Int), .int .i64 (0), .int .i64 (0), .int .i64 (0), .int .i64 (0), .int .i64 (0)], .int .i64 12]) (by simp [results, Tryd.results16, go_sem, d0, d1, d2, d3, d4, d5]) rfl ⟨rfl, YB'⟩

    · have hd : decS s = (Sb.zero, (opened s).2) := by unfold decS; rw [if_neg (by omega), if_pos hop]
      rw [hd]
      generalize opened s = O at *
      obtain ⟨ob, oe⟩ := O
      simp only at ho hop ⊢
      simp only [Sb.val, Sb.zero]
      go_enter Tryd.func16, Tryd.ntmps16
      go_wp2_with fail
      refine (ho _ hT1).mono ?_
      rintro e w1 ⟨rfl, b1⟩
      have X := hX.later (b1.mono (by simp))
      have BB := hB.trans (b1.mono (by simp))
      clear ho hX hB b1
      have c0 := X.c0
      have c1 := X.c1
      have c2 := X.c2
      have c3 := X.c3
      have c4 := X.c4
      have c5 := X.c5
      have f0 := X.fr 0 (by omega)
      have f1 := X.fr 1 (by omega)
      have f2 := X.fr 2 (by omega)
      have f3 := X.fr 3 (by omega)
      have f4 := X.fr 4 (by omega)
      have f5 := X.fr 5 (by omega)
      have Y := hide (X.put (0) (0) (0) (0) (0) (0))
      have YB := hide (BoxC.below X BB (by first | exact Nat.le_refl _ | exact Nat.le_succ _) (0) (0) (0) (0) (0) (0))
      clear X
      go_wp2
      have Y' := Y.out
      have d0 := Y'.c0
      have d1 := Y'.c1
      have d2 := Y'.c2
      have d3 := Y'.c3
      have d4 := Y'.c4
      have d5 := Y'.c5
      have YB' := YB.out
      clear Y Y' YB
      clear c0 c1 c2 c3 c4 c5 f0 f1 f2 f3 f4 f5 
      generalize World.setCell _ _ _ = wz at *
      refine bodyPost_ret (v := .tuple #[.agg #[.int .u64 ((0 : Nat) : Int), .int .i64 (0), .int .i64 (0), .int .i64 (0), .int .i64 (0), .int .i64 (0)], .int .i64 oe]) (by simp [results, Tryd.results16, go_sem, d0, d1, d2, d3, d4, d5]) rfl ⟨rfl, YB'⟩

  · have hd : decS s = (Sb.zero, 30) := by unfold decS; rw [if_pos h64]
    rw [hd]
    simp only [Sb.val, Sb.zero]
    clear ho
    go_enter Tryd.func16, Tryd.ntmps16
    go_wp2
    have d0 := hX.c0
    have d1 := hX.c1
    have d2 := hX.c2
    have d3 := hX.c3
    have d4 := hX.c4
    have d5 := hX.c5
    generalize World.alloc _ _ = wz at *
    refine bodyPost_ret (v := .tuple #[.agg #[.int .u64 ((0 : Nat) : Int), .int .i64 0, .int .i64 0, .int .i64 0, .int .i64 0, .int .i64 0], .int .i64 30]) (by simp [results, Tryd.results16, go_sem, d0, d1, d2, d3, d4, d5]) rfl ⟨rfl, hB⟩
end Su
end Go.Proofs.YtjopjffecnflkaaDoor
