/- The law BucketParts: an object that is got in parts is what was put. -/
import Derived.Test.YthnhapjjgaicdaaLa
namespace Go.Proofs.Ythnhapjjgaicdaa
open Go.RowKit
namespace Wi

theorem one_put {q : Nat} {s x : ByteArray} (hn : nameB s = true) (hx : x.size ≤ 65536) (hq : x.size ≤ q) : (bk0 q).put s x = ⟨[(s, x)], q, [], []⟩ ∧ (bk0 q).putE s x = 0 := by
  have h1 : ¬ q < x.size := by omega
  constructor
  · simp [Bk.put, hn, hx, Bk.call, Bk.fate0, bk0, Bk.next, Bk.act, Bk.add, found_nil, total_nil, h1, put_nil]
  · simp [Bk.putE, hn, hx, Bk.callE, Bk.fate0, bk0, Bk.next, Bk.actE, Bk.addE, found_nil, total_nil, h1]
theorem one_part {q : Nat} {l : List Ch} {s x : ByteArray} (hn : nameB s = true) {A N : Int} (hA : 0 ≤ A) (hA2 : A ≤ x.size) (hN : 0 ≤ N) : (Bk.mk [(s, x)] q [] l).getE s A N = 0 ∧ (Bk.mk [(s, x)] q [] l).getS s A N = cutOf x A N ∧ Bk.askOk s A N = true := by
  have h0 : Bk.askOk s A N = true := by simp [Bk.askOk, hn, hA, hN]
  have h1 : (Bk.mk [(s, x)] q [] l).fetchE s = 0 := by simp [Bk.fetchE, Bk.fate0, found_one]
  have h2 : (Bk.mk [(s, x)] q [] l).fetchS s = x := by simp [Bk.fetchS, Bk.fate0, got_one]
  have h3 : (Bk.mk [(s, x)] q [] l).getE s A N = 0 := by
    rw [Bk.getE, h0, h1, h2]
    simp
    omega
  refine ⟨h3, ?_, h0⟩
  rw [Bk.getS, h3, h2]
  simp
theorem one_size {q : Nat} {l : List Ch} {s x : ByteArray} (hn : nameB s = true) : (Bk.mk [(s, x)] q [] l).sizeN s = x.size ∧ (Bk.mk [(s, x)] q [] l).sizeE s = 0 := by
  constructor
  · simp [Bk.sizeN, hn, Bk.fetchS, Bk.fate0, got_one]
  · simp [Bk.sizeE, hn, Bk.fetchE, Bk.fate0, found_one]
theorem bs_cutOf (x : ByteArray) {A N : Nat} (hA : A ≤ x.size) : bs (cutOf x A N) = ((bs x).drop A).take N := by
  unfold cutOf
  have hs : (x.extract A x.size).size = x.size - A := by rw [ByteArray.size_extract]; omega
  rw [show ((A : Int)).toNat = A by omega, hs, show (min (N : Int) ((x.size - A : Nat) : Int)).toNat = min N (x.size - A) by omega, bs_cut, bs_cut, List.drop_zero, Nat.sub_zero]
  rw [List.take_of_length_le (l := (bs x).drop A) (by rw [List.length_drop, bs_length]; exact Nat.le_refl _)]
  by_cases h : N ≤ x.size - A
  · rw [Nat.min_eq_left h]
  · rw [Nat.min_eq_right (by omega), List.take_of_length_le (by rw [List.length_drop, bs_length]; exact Nat.le_refl _), List.take_of_length_le (by rw [List.length_drop, bs_length]; omega)]
theorem parts_join (x : ByteArray) {I K : Nat} (hI : I ≤ K) (hK : K ≤ x.size) (hx : x.size ≤ 200) : cutOf x 0 I ++ cutOf x I ((K : Int) - (I : Int)) ++ cutOf x K 1048576 = x ∧ (cutOf x 0 I).size + (cutOf x I ((K : Int) - (I : Int))).size ≤ 200 ∧ (cutOf x 0 I ++ cutOf x I ((K : Int) - (I : Int))).size + (cutOf x K 1048576).size ≤ 200 := by
  have b1 := bs_cutOf x (A := 0) (N := I) (Nat.zero_le _)
  have b2 := bs_cutOf x (A := I) (N := K - I) (by omega)
  have b3 := bs_cutOf x (A := K) (N := 1048576) hK
  rw [show (((K - I : Nat) : Int)) = (K : Int) - (I : Int) by omega] at b2
  rw [show (((0 : Nat) : Int)) = 0 from rfl] at b1
  rw [show (((1048576 : Nat) : Int)) = 1048576 from rfl] at b3
  have hl := bs_length x
  have l1 := congrArg List.length b1
  have l2 := congrArg List.length b2
  have l3 := congrArg List.length b3
  rw [bs_length, List.length_take, List.length_drop, hl] at l1 l2 l3
  refine ⟨?_, by omega, by rw [ByteArray.size_append]; omega⟩
  rw [← str_bs (cutOf x 0 I), ← str_bs (cutOf x I ((K : Int) - (I : Int))), ← str_bs (cutOf x K 1048576), ← str_append, ← str_append, b1, b2, b3]
  rw [List.drop_zero, List.take_of_length_le (l := (bs x).drop K) (by rw [List.length_drop, hl]; omega)]
  have e1 : (bs x).take I ++ ((bs x).drop I).take (K - I) = (bs x).take K := by
    rw [← List.take_add, Nat.add_sub_cancel' hI]
  rw [e1, List.take_append_drop, str_bs]
set_option maxHeartbeats 8000000 in
set_option maxRecDepth 20000 in
theorem bucketParts_walk (x : ByteArray) (i k : Int) (W : World) (hx : x.size ≤ 9223372036854775807) (hi : Num i) (hk : Num k) : Calls Try.prog 10 #[.string x, .agg #[.int .i64 i, .int .i64 k]] W fun e w' => e = .returned (.bool true) ∧ Below W.heap.size W w' := by
  obtain ⟨W1, hW1⟩ : ∃ W1, W1 = W.alloc (.cells #[.int .i64 i, .int .i64 k] 64) := ⟨_, rfl⟩
  have hb0 : Below W.heap.size W W1 := by rw [hW1]; exact below_alloc _ _
  have hN0 := heap_alloc_new W (.cells #[.int .i64 i, .int .i64 k] 64)
  rw [← hW1] at hN0
  have HW1 := hide hW1
  clear hW1
  have T0 : Hid (∀ w, Below W1.heap.size W1 w → w.cell? ⟨W.heap.size, 0, none⟩ = some (.int .i64 i) ∧ w.cell? ⟨W.heap.size, 1, none⟩ = some (.int .i64 k)) := fun w hb => ⟨(hb.cell (p := ⟨W.heap.size, 0, none⟩) (lt_of_block hN0)).trans (by rw [cell_of_row _ _ _ _ _ _ hN0]; rfl), (hb.cell (p := ⟨W.heap.size, 1, none⟩) (lt_of_block hN0)).trans (by rw [cell_of_row _ _ _ _ _ _ hN0]; rfl)⟩
  have HB0 := hide hb0
  clear hb0 hN0
  obtain ⟨i1, i2⟩ := hi
  obtain ⟨k1, k2⟩ := hk
  have hnw := new_any 1000 (by omega) W1
  by_cases h1 : 200 < x.size
  · skip
    go_enter Try.func10, Try.ntmps10
    go_wp2_with fail
    rw [← HW1.out]
    refine hnw.mono ?_
    rintro e w1 ⟨rfl, hN, hb1⟩
    obtain ⟨t0, t1⟩ := T0.out _ hb1
    have hbb := hide hb1
    clear hN hb1 hnw
    go_wp2_with fail
    refine (awake_any _).mono ?_
    rintro e w2 ⟨rfl, hb2⟩
    go_wp2
    go_ret
    exact ⟨rfl, HB0.out.trans ((hbb.out.trans (hb2.mono hbb.out.size)).mono HB0.out.size)⟩
  · by_cases h2 : i < 0
    · skip
      go_enter Try.func10, Try.ntmps10
      go_wp2_with fail
      rw [← HW1.out]
      refine hnw.mono ?_
      rintro e w1 ⟨rfl, hN, hb1⟩
      obtain ⟨t0, t1⟩ := T0.out _ hb1
      have hbb := hide hb1
      clear hN hb1 hnw
      go_wp2_with fail
      refine (awake_any _).mono ?_
      rintro e w2 ⟨rfl, hb2⟩
      go_wp2
      go_ret
      exact ⟨rfl, HB0.out.trans ((hbb.out.trans (hb2.mono hbb.out.size)).mono HB0.out.size)⟩
    · by_cases h3 : k < i
      · skip
        go_enter Try.func10, Try.ntmps10
        go_wp2_with fail
        rw [← HW1.out]
        refine hnw.mono ?_
        rintro e w1 ⟨rfl, hN, hb1⟩
        obtain ⟨t0, t1⟩ := T0.out _ hb1
        have hbb := hide hb1
        clear hN hb1 hnw
        go_wp2_with fail
        refine (awake_any _).mono ?_
        rintro e w2 ⟨rfl, hb2⟩
        go_wp2
        go_ret
        exact ⟨rfl, HB0.out.trans ((hbb.out.trans (hb2.mono hbb.out.size)).mono HB0.out.size)⟩
      · by_cases h4 : (x.size : Int) < k
        · skip
          go_enter Try.func10, Try.ntmps10
          go_wp2_with fail
          rw [← HW1.out]
          refine hnw.mono ?_
          rintro e w1 ⟨rfl, hN, hb1⟩
          obtain ⟨t0, t1⟩ := T0.out _ hb1
          have hbb := hide hb1
          clear hN hb1 hnw
          go_wp2_with fail
          refine (awake_any _).mono ?_
          rintro e w2 ⟨rfl, hb2⟩
          go_wp2
          go_ret
          exact ⟨rfl, HB0.out.trans ((hbb.out.trans (hb2.mono hbb.out.size)).mono HB0.out.size)⟩
        · obtain ⟨I, rfl⟩ := Int.eq_ofNat_of_zero_le (show 0 ≤ i by omega)
          obtain ⟨K, rfl⟩ := Int.eq_ofNat_of_zero_le (show 0 ≤ k by omega)
          obtain ⟨p1, p2⟩ := one_put (q := 1000) (x := x) name_k (by omega) (by omega)
          have P1 := hide p1
          have P2 := hide p2
          have G1 := hide (one_part (q := 1000) (l := []) (x := x) name_k (A := 0) (N := (I : Int)) (by omega) (by omega) (by omega))
          have G2 := hide (one_part (q := 1000) (l := []) (x := x) name_k (A := (I : Int)) (N := (K : Int) - (I : Int)) (by omega) (by omega) (by omega))
          have G3 := hide (one_part (q := 1000) (l := []) (x := x) name_k (A := (K : Int)) (N := 1048576) (by omega) (by omega) (by omega))
          have S1 := hide (one_size (q := 1000) (l := []) (x := x) name_k)
          obtain ⟨j1, j2, j3⟩ := parts_join x (I := I) (K := K) (by omega) (by omega) (by omega)
          clear p1 p2
          generalize cutOf x 0 (I : Int) = Xa at *
          generalize cutOf x (I : Int) ((K : Int) - (I : Int)) = Ya at *
          generalize cutOf x (K : Int) 1048576 = Za at *
          have v1 : ((Xa ++ Ya ++ Za).toList == x.toList) = true := beq_lists j1
          have J1 := hide j1
          clear j1
          go_enter Try.func10, Try.ntmps10
          go_wp2_with fail
          rw [← HW1.out]
          refine hnw.mono ?_
          rintro e w1 ⟨rfl, hN, hb1⟩
          obtain ⟨t0, t1⟩ := T0.out _ hb1
          have hM : Mine W1 w1 (bkT W1.heap.size (bk0 1000)) := let ⟨X, h1, h2⟩ := hN; ⟨X, h1, h2, hb1⟩
          clear hN hb1 hnw
          obtain ⟨X, hT, hX, hgo⟩ := hM.go1
          have hc := put_any hT (by show 0 ≤ _; omega) (by show 0 ≤ _; omega) (by show 0 ≤ _; omega) sk x (by show 1 ≤ _; omega) (by omega)
          rw [P1.out, P2.out] at hc
          go_wp2_with fail
          refine hc.mono ?_
          rintro e w2 ⟨rfl, hl⟩
          replace hM := hgo hl
          clear hl hgo hT hX X hc
          clear t0 t1
          obtain ⟨X, hT, hX, hgo⟩ := hM.go1
          have hc := get_any hT (by show 1 ≤ _; omega) (by show 0 ≤ _; omega) sk (by show 1 ≤ _; omega) 0 (I : Int) (by constructor <;> omega) (by constructor <;> omega)
          rw [G1.out.1, G1.out.2.1, G1.out.2.2] at hc
          rw [show Bk.ask (Bk.mk [(sk, x)] 1000 [] []) true = (Bk.mk [(sk, x)] 1000 [] []) from rfl] at hc
          go_wp2_with fail
          refine hc.mono ?_
          rintro e w3 ⟨rfl, hl⟩
          replace hM := hgo hl
          clear hl hgo hT hX X hc
          obtain ⟨X, hT, hX, hgo⟩ := hM.go1
          have hc := get_any hT (by show 1 ≤ _; omega) (by show 0 ≤ _; omega) sk (by show 1 ≤ _; omega) (I : Int) ((K : Int) - (I : Int)) (by constructor <;> omega) (by constructor <;> omega)
          rw [G2.out.1, G2.out.2.1, G2.out.2.2] at hc
          rw [show Bk.ask (Bk.mk [(sk, x)] 1000 [] []) true = (Bk.mk [(sk, x)] 1000 [] []) from rfl] at hc
          go_wp2_with fail
          refine hc.mono ?_
          rintro e w4 ⟨rfl, hl⟩
          replace hM := hgo hl
          clear hl hgo hT hX X hc
          obtain ⟨X, hT, hX, hgo⟩ := hM.go1
          have hc := get_any hT (by show 1 ≤ _; omega) (by show 0 ≤ _; omega) sk (by show 1 ≤ _; omega) (K : Int) 1048576 (by constructor <;> omega) (by constructor <;> omega)
          rw [G3.out.1, G3.out.2.1, G3.out.2.2] at hc
          rw [show Bk.ask (Bk.mk [(sk, x)] 1000 [] []) true = (Bk.mk [(sk, x)] 1000 [] []) from rfl] at hc
          go_wp2_with fail
          refine hc.mono ?_
          rintro e w5 ⟨rfl, hl⟩
          replace hM := hgo hl
          clear hl hgo hT hX X hc
          obtain ⟨X, hT, hX, hgo⟩ := hM.go1
          have hc := size_any hT (by show 1 ≤ _; omega) (by show 0 ≤ _; omega) sk (by show 1 ≤ _; omega)
          rw [S1.out.1, S1.out.2, name_k] at hc
          rw [show Bk.ask (Bk.mk [(sk, x)] 1000 [] []) true = (Bk.mk [(sk, x)] 1000 [] []) from rfl] at hc
          go_wp2_with fail
          refine hc.mono ?_
          rintro e w6 ⟨rfl, hl⟩
          replace hM := hgo hl
          clear hl hgo hT hX X hc
          obtain ⟨X, hT, hX, hgo⟩ := hM.go1
          have hc := used_any hT
          rw [show total (Bk.mk [(sk, x)] 1000 [] []).objs = x.size from total_one sk x] at hc
          have hbb := hide hM.below
          clear hgo hT hX X hM
          go_wp2_with fail
          refine hc.mono ?_
          rintro e w7 ⟨rfl, rfl⟩
          clear hc
          go_wp2_with fail
          refine (awake_any _).mono ?_
          rintro e w8 ⟨rfl, hb8⟩
          go_wp2
          go_ret
          exact ⟨rfl, HB0.out.trans ((hbb.out.trans (hb8.mono hbb.out.size)).mono HB0.out.size)⟩

end Wi
end Go.Proofs.Ythnhapjjgaicdaa
