/- The law BucketLates: of late calls of one name the oldest one that may be done is. -/
import Derived.Test.YthnhapjjgaicdaaWu
namespace Go.Proofs.Ythnhapjjgaicdaa
open Go.RowKit
namespace Wi

theorem up0 {n : Int} (h : n ≤ 0) : upTo n 2 = 0 := by unfold upTo; omega
theorem up1 : upTo 1 2 = 1 := by decide
theorem up2 {n : Int} (h : 2 ≤ n) : upTo n 2 = 2 := by unfold upTo; omega
theorem land_0 (a b : ByteArray) (n : Int) (_ha : a.size ≤ 200) (h : n ≤ 0) : upTo n 2 = 0 ∧ (Bk.mk [] 1000 [] [(true, sk, a), (true, sk, b)]).land n = ⟨[], 1000, [], [(true, sk, a), (true, sk, b)]⟩ := by
  have hu := up0 h
  exact ⟨hu, by simp [Bk.land, hu, Bk.acts, Bk.drop]⟩
theorem land_1 (a b : ByteArray) (n : Int) (ha : a.size ≤ 200) (h : n = 1) : upTo n 2 = 1 ∧ (Bk.mk [] 1000 [] [(true, sk, a), (true, sk, b)]).land n = ⟨[(sk, a)], 1000, [], [(true, sk, b)]⟩ := by
  subst h
  have hu := up1
  have h1 : ¬ 1000 < a.size := by omega
  exact ⟨hu, by simp [Bk.land, hu, Bk.acts, Bk.act, Bk.add, found_nil, total_nil, h1, put_nil, Bk.drop]⟩
theorem land_2 (a b : ByteArray) (n : Int) (ha : a.size ≤ 200) (h : 2 ≤ n) : upTo n 2 = 2 ∧ (Bk.mk [] 1000 [] [(true, sk, a), (true, sk, b)]).land n = ⟨[(sk, a)], 1000, [], []⟩ := by
  have hu := up2 h
  have h1 : ¬ 1000 < a.size := by omega
  exact ⟨hu, by simp [Bk.land, hu, Bk.acts, Bk.act, Bk.add, found_nil, total_nil, h1, put_nil, Bk.drop, found_one]⟩
set_option maxHeartbeats 8000000 in
set_option maxRecDepth 20000 in
theorem bucketLates_walk (a b : ByteArray) (n : Int) (W : World) (ha : a.size ≤ 9223372036854775807) (hb : b.size ≤ 9223372036854775807) (hn : Num n) : Calls Try.prog 8 #[.string a, .string b, .int .i64 n] W fun e w' => e = .returned (.bool true) ∧ Below W.heap.size W w' := by
  have hnw := new_any 1000 (by omega) W
  obtain ⟨n1, n2⟩ := hn
  by_cases h1 : a.size ≤ 200
  · by_cases h2 : b.size ≤ 200
    · obtain ⟨p1, p2⟩ := late_put (o := []) (q := 1000) (f := [3]) (l := []) (s := sk) (x := a) name_k (by omega)
      obtain ⟨p3, p4⟩ := late_put (o := []) (q := 1000) (f := []) (l := [(true, sk, a)]) (s := sk) (x := b) name_k (by omega)
      rw [List.nil_append] at p1
      rw [show [(true, sk, a)] ++ [(true, sk, b)] = [(true, sk, a), (true, sk, b)] from rfl] at p3
      have P1 := hide p1
      have P2 := hide p2
      have P3 := hide p3
      have P4 := hide p4
      have v1 : (a.toList == a.toList) = true := beq_lists rfl
      clear p1 p2 p3 p4
      by_cases h3 : n ≤ 0
      · have hmax : ∀ w, (Builtin.max_ #[3, 3] 3 #[.int .i64 n, .int .i64 0]).run Try.prog w = .ok (.int .i64 0) w := fun w => by
          show Result.ok (Value.int .i64 (if 0 > n then 0 else n)) w = _
          rw [show (if 0 > n then (0 : Int) else n) = 0 by split <;> omega]
        obtain ⟨hu, hld⟩ := land_0 a b n (by omega) (by omega)
        have HU := hide hu
        have LD := hide hld
        clear hu hld
        go_enter Try.func8, Try.ntmps8
        go_wp2_with fail
        refine hnw.mono ?_
        rintro e w1 ⟨rfl, hN, hb1⟩
        have hM : Mine W w1 (bkT W.heap.size (bk0 1000)) := let ⟨X, h1, h2⟩ := hN; ⟨X, h1, h2, hb1⟩
        clear hN hb1 hnw
        obtain ⟨X, hT, hX, hgo⟩ := hM.go1
        have hb8 := below_alloc w1 (.cells #[.int .i64 3, .int .i64 3] 3)
        have hc := fates_any ((bkT_good _ _).later hT hb8) (cap := 2) (Is.new w1 X [3, 3] (by simp [Num]) (by simp) ((bkT_good _ _).lt hT) #[.int .i64 3, .int .i64 3] rfl) (by show 0 + 2 ≤ _; omega)
        rw [show (bk0 1000).tell [3, 3] = ⟨[], 1000, [3, 3], []⟩ from rfl] at hc
        simp only [List.length_cons, List.length_nil] at hc
        go_wp2_with fail
        refine hc.mono ?_
        rintro e w2 ⟨rfl, hl⟩
        replace hM := hgo (hl.first hb8)
        clear hl hgo hT hX X hc hb8
        obtain ⟨X, hT, hX, hgo⟩ := hM.go1
        have hc := put_any hT (by show 0 ≤ _; omega) (by show 2 ≤ _; omega) (by show 0 ≤ _; omega) sk a (by show 1 ≤ _; omega) (by omega)
        rw [P1.out, P2.out] at hc
        go_wp2_with fail
        refine hc.mono ?_
        rintro e w3 ⟨rfl, hl⟩
        replace hM := hgo hl
        clear hl hgo hT hX X hc
        obtain ⟨X, hT, hX, hgo⟩ := hM.go1
        have hc := put_any hT (by show 0 ≤ _; omega) (by show 1 ≤ _; omega) (by show 1 ≤ _; omega) sk b (by show 1 ≤ _; omega) (by omega)
        rw [P3.out, P4.out] at hc
        go_wp2_with fail
        refine hc.mono ?_
        rintro e w4 ⟨rfl, hl⟩
        replace hM := hgo hl
        clear hl hgo hT hX X hc
        obtain ⟨X, hT, hX, hgo⟩ := hM.go1
        have hc := waits_any hT
        rw [show (Bk.mk [] 1000 [] [(true, sk, a), (true, sk, b)]).late.length = 2 from rfl] at hc
        go_wp2_with fail
        refine hc.mono ?_
        rintro e w5 ⟨rfl, rfl⟩
        clear hgo hT hX X hc
        obtain ⟨X, hT, hX, hgo⟩ := hM.go1
        have hc := land_any hT (by show 0 + 2 ≤ _; omega) n ⟨n1, n2⟩
        rw [show (Bk.mk [] 1000 [] [(true, sk, a), (true, sk, b)]).late.length = 2 from rfl, HU.out, LD.out] at hc
        go_wp2_with fail
        refine hc.mono ?_
        rintro e w6 ⟨rfl, hl⟩
        replace hM := hgo hl
        clear hl hgo hT hX X hc
        obtain ⟨X, hT, hX, hgo⟩ := hM.go1
        have hc := get_any hT (by show 0 ≤ _; omega) (by show 0 ≤ _; omega) sk (by show 1 ≤ _; omega) 0 1000 (by constructor <;> omega) (by constructor <;> omega)
        rw [show ((1000 : Int)) = ((1000 : Nat) : Int) from rfl, (none_get (q := 1000) (l := [(true, sk, a), (true, sk, b)]) name_k 1000).1, (none_get (q := 1000) (l := [(true, sk, a), (true, sk, b)]) name_k 1000).2.1, (none_get (q := 1000) (l := [(true, sk, a), (true, sk, b)]) name_k 1000).2.2] at hc
        rw [show Bk.ask (Bk.mk [] 1000 [] [(true, sk, a), (true, sk, b)]) true = (Bk.mk [] 1000 [] [(true, sk, a), (true, sk, b)]) from rfl] at hc
        go_wp2_with fail
        refine hc.mono ?_
        rintro e w7 ⟨rfl, hl⟩
        replace hM := hgo hl
        clear hl hgo hT hX X hc
        obtain ⟨X, hT, hX, hgo⟩ := hM.go1
        have hc := waits_any hT
        rw [show (Bk.mk [] 1000 [] [(true, sk, a), (true, sk, b)]).late.length = 2 from rfl] at hc
        have hbb := hide hM.below
        clear hgo hT hX X hM
        go_wp2_with fail
        refine hc.mono ?_
        rintro e w8 ⟨rfl, rfl⟩
        clear hc
        go_wp2_with fail
        refine (awake_any _).mono ?_
        rintro e w9 ⟨rfl, hb9⟩
        go_wp2
        go_ret
        exact ⟨rfl, hbb.out.trans (hb9.mono hbb.out.size)⟩
      · by_cases h4 : n = 1
        · subst h4
          obtain ⟨hu, hld⟩ := land_1 a b 1 (by omega) rfl
          have HU := hide hu
          have LD := hide hld
          clear hu hld
          go_enter Try.func8, Try.ntmps8
          go_wp2_with fail
          refine hnw.mono ?_
          rintro e w1 ⟨rfl, hN, hb1⟩
          have hM : Mine W w1 (bkT W.heap.size (bk0 1000)) := let ⟨X, h1, h2⟩ := hN; ⟨X, h1, h2, hb1⟩
          clear hN hb1 hnw
          obtain ⟨X, hT, hX, hgo⟩ := hM.go1
          have hb8 := below_alloc w1 (.cells #[.int .i64 3, .int .i64 3] 3)
          have hc := fates_any ((bkT_good _ _).later hT hb8) (cap := 2) (Is.new w1 X [3, 3] (by simp [Num]) (by simp) ((bkT_good _ _).lt hT) #[.int .i64 3, .int .i64 3] rfl) (by show 0 + 2 ≤ _; omega)
          rw [show (bk0 1000).tell [3, 3] = ⟨[], 1000, [3, 3], []⟩ from rfl] at hc
          simp only [List.length_cons, List.length_nil] at hc
          go_wp2_with fail
          refine hc.mono ?_
          rintro e w2 ⟨rfl, hl⟩
          replace hM := hgo (hl.first hb8)
          clear hl hgo hT hX X hc hb8
          obtain ⟨X, hT, hX, hgo⟩ := hM.go1
          have hc := put_any hT (by show 0 ≤ _; omega) (by show 2 ≤ _; omega) (by show 0 ≤ _; omega) sk a (by show 1 ≤ _; omega) (by omega)
          rw [P1.out, P2.out] at hc
          go_wp2_with fail
          refine hc.mono ?_
          rintro e w3 ⟨rfl, hl⟩
          replace hM := hgo hl
          clear hl hgo hT hX X hc
          obtain ⟨X, hT, hX, hgo⟩ := hM.go1
          have hc := put_any hT (by show 0 ≤ _; omega) (by show 1 ≤ _; omega) (by show 1 ≤ _; omega) sk b (by show 1 ≤ _; omega) (by omega)
          rw [P3.out, P4.out] at hc
          go_wp2_with fail
          refine hc.mono ?_
          rintro e w4 ⟨rfl, hl⟩
          replace hM := hgo hl
          clear hl hgo hT hX X hc
          obtain ⟨X, hT, hX, hgo⟩ := hM.go1
          have hc := waits_any hT
          rw [show (Bk.mk [] 1000 [] [(true, sk, a), (true, sk, b)]).late.length = 2 from rfl] at hc
          go_wp2_with fail
          refine hc.mono ?_
          rintro e w5 ⟨rfl, rfl⟩
          clear hgo hT hX X hc
          obtain ⟨X, hT, hX, hgo⟩ := hM.go1
          have hc := land_any hT (by show 0 + 2 ≤ _; omega) 1 ⟨n1, n2⟩
          rw [show (Bk.mk [] 1000 [] [(true, sk, a), (true, sk, b)]).late.length = 2 from rfl, HU.out, LD.out] at hc
          go_wp2_with fail
          refine hc.mono ?_
          rintro e w6 ⟨rfl, hl⟩
          replace hM := hgo hl
          clear hl hgo hT hX X hc
          obtain ⟨X, hT, hX, hgo⟩ := hM.go1
          have hc := get_any hT (by show 1 ≤ _; omega) (by show 0 ≤ _; omega) sk (by show 1 ≤ _; omega) 0 1000 (by constructor <;> omega) (by constructor <;> omega)
          rw [show ((1000 : Int)) = ((1000 : Nat) : Int) from rfl, (one_get (q := 1000) (l := [(true, sk, b)]) (x := a) name_k (n := 1000) (by omega)).1, (one_get (q := 1000) (l := [(true, sk, b)]) (x := a) name_k (n := 1000) (by omega)).2.1, (one_get (q := 1000) (l := [(true, sk, b)]) (x := a) name_k (n := 1000) (by omega)).2.2] at hc
          rw [show Bk.ask (Bk.mk [(sk, a)] 1000 [] [(true, sk, b)]) true = (Bk.mk [(sk, a)] 1000 [] [(true, sk, b)]) from rfl] at hc
          go_wp2_with fail
          refine hc.mono ?_
          rintro e w7 ⟨rfl, hl⟩
          replace hM := hgo hl
          clear hl hgo hT hX X hc
          obtain ⟨X, hT, hX, hgo⟩ := hM.go1
          have hc := waits_any hT
          rw [show (Bk.mk [(sk, a)] 1000 [] [(true, sk, b)]).late.length = 1 from rfl] at hc
          have hbb := hide hM.below
          clear hgo hT hX X hM
          go_wp2_with fail
          refine hc.mono ?_
          rintro e w8 ⟨rfl, rfl⟩
          clear hc
          go_wp2_with fail
          refine (awake_any _).mono ?_
          rintro e w9 ⟨rfl, hb9⟩
          go_wp2
          go_ret
          exact ⟨rfl, hbb.out.trans (hb9.mono hbb.out.size)⟩
        · have h5 : 2 ≤ n := by omega
          clear h3 h4
          have hmin : ∀ w, (Builtin.min_ #[3, 3] 3 #[.int .i64 n, .int .i64 2]).run Try.prog w = .ok (.int .i64 2) w := fun w => by
            show Result.ok (Value.int .i64 (if 2 < n then 2 else n)) w = _
            rw [show (if 2 < n then (2 : Int) else n) = 2 by split <;> omega]
          obtain ⟨hu, hld⟩ := land_2 a b n (by omega) (by omega)
          have HU := hide hu
          have LD := hide hld
          clear hu hld
          go_enter Try.func8, Try.ntmps8
          go_wp2_with fail
          refine hnw.mono ?_
          rintro e w1 ⟨rfl, hN, hb1⟩
          have hM : Mine W w1 (bkT W.heap.size (bk0 1000)) := let ⟨X, h1, h2⟩ := hN; ⟨X, h1, h2, hb1⟩
          clear hN hb1 hnw
          obtain ⟨X, hT, hX, hgo⟩ := hM.go1
          have hb8 := below_alloc w1 (.cells #[.int .i64 3, .int .i64 3] 3)
          have hc := fates_any ((bkT_good _ _).later hT hb8) (cap := 2) (Is.new w1 X [3, 3] (by simp [Num]) (by simp) ((bkT_good _ _).lt hT) #[.int .i64 3, .int .i64 3] rfl) (by show 0 + 2 ≤ _; omega)
          rw [show (bk0 1000).tell [3, 3] = ⟨[], 1000, [3, 3], []⟩ from rfl] at hc
          simp only [List.length_cons, List.length_nil] at hc
          go_wp2_with fail
          refine hc.mono ?_
          rintro e w2 ⟨rfl, hl⟩
          replace hM := hgo (hl.first hb8)
          clear hl hgo hT hX X hc hb8
          obtain ⟨X, hT, hX, hgo⟩ := hM.go1
          have hc := put_any hT (by show 0 ≤ _; omega) (by show 2 ≤ _; omega) (by show 0 ≤ _; omega) sk a (by show 1 ≤ _; omega) (by omega)
          rw [P1.out, P2.out] at hc
          go_wp2_with fail
          refine hc.mono ?_
          rintro e w3 ⟨rfl, hl⟩
          replace hM := hgo hl
          clear hl hgo hT hX X hc
          obtain ⟨X, hT, hX, hgo⟩ := hM.go1
          have hc := put_any hT (by show 0 ≤ _; omega) (by show 1 ≤ _; omega) (by show 1 ≤ _; omega) sk b (by show 1 ≤ _; omega) (by omega)
          rw [P3.out, P4.out] at hc
          go_wp2_with fail
          refine hc.mono ?_
          rintro e w4 ⟨rfl, hl⟩
          replace hM := hgo hl
          clear hl hgo hT hX X hc
          obtain ⟨X, hT, hX, hgo⟩ := hM.go1
          have hc := waits_any hT
          rw [show (Bk.mk [] 1000 [] [(true, sk, a), (true, sk, b)]).late.length = 2 from rfl] at hc
          go_wp2_with fail
          refine hc.mono ?_
          rintro e w5 ⟨rfl, rfl⟩
          clear hgo hT hX X hc
          obtain ⟨X, hT, hX, hgo⟩ := hM.go1
          have hc := land_any hT (by show 0 + 2 ≤ _; omega) n ⟨n1, n2⟩
          rw [show (Bk.mk [] 1000 [] [(true, sk, a), (true, sk, b)]).late.length = 2 from rfl, HU.out, LD.out] at hc
          go_wp2_with fail
          refine hc.mono ?_
          rintro e w6 ⟨rfl, hl⟩
          replace hM := hgo hl
          clear hl hgo hT hX X hc
          obtain ⟨X, hT, hX, hgo⟩ := hM.go1
          have hc := get_any hT (by show 1 ≤ _; omega) (by show 0 ≤ _; omega) sk (by show 1 ≤ _; omega) 0 1000 (by constructor <;> omega) (by constructor <;> omega)
          rw [show ((1000 : Int)) = ((1000 : Nat) : Int) from rfl, (one_get (q := 1000) (l := []) (x := a) name_k (n := 1000) (by omega)).1, (one_get (q := 1000) (l := []) (x := a) name_k (n := 1000) (by omega)).2.1, (one_get (q := 1000) (l := []) (x := a) name_k (n := 1000) (by omega)).2.2] at hc
          rw [show Bk.ask (Bk.mk [(sk, a)] 1000 [] []) true = (Bk.mk [(sk, a)] 1000 [] []) from rfl] at hc
          go_wp2_with fail
          refine hc.mono ?_
          rintro e w7 ⟨rfl, hl⟩
          replace hM := hgo hl
          clear hl hgo hT hX X hc
          obtain ⟨X, hT, hX, hgo⟩ := hM.go1
          have hc := waits_any hT
          rw [show (Bk.mk [(sk, a)] 1000 [] []).late.length = 0 from rfl] at hc
          have hbb := hide hM.below
          clear hgo hT hX X hM
          go_wp2_with fail
          refine hc.mono ?_
          rintro e w8 ⟨rfl, rfl⟩
          clear hc
          go_wp2_with fail
          refine (awake_any _).mono ?_
          rintro e w9 ⟨rfl, hb9⟩
          go_wp2
          go_ret
          exact ⟨rfl, hbb.out.trans (hb9.mono hbb.out.size)⟩
    · skip
      go_enter Try.func8, Try.ntmps8
      go_wp2_with fail
      refine hnw.mono ?_
      rintro e w1 ⟨rfl, hN, hb1⟩
      have hbb := hide hb1
      clear hN hb1 hnw
      go_wp2_with fail
      refine (awake_any _).mono ?_
      rintro e w2 ⟨rfl, hb2⟩
      go_wp2
      go_ret
      exact ⟨rfl, hbb.out.trans (hb2.mono hbb.out.size)⟩
  · skip
    go_enter Try.func8, Try.ntmps8
    go_wp2_with fail
    refine hnw.mono ?_
    rintro e w1 ⟨rfl, hN, hb1⟩
    have hbb := hide hb1
    clear hN hb1 hnw
    go_wp2_with fail
    refine (awake_any _).mono ?_
    rintro e w2 ⟨rfl, hb2⟩
    go_wp2
    go_ret
    exact ⟨rfl, hbb.out.trans (hb2.mono hbb.out.size)⟩

end Wi
end Go.Proofs.Ythnhapjjgaicdaa
