/- A part of the proofs about package wire: what its functions answer, call by call. -/
import Derived.Test.YtnpnghdjdelemaaWq
namespace Go.Proofs.Ytnpnghdjdelemaa
open Go.RowKit
namespace Wi

theorem results_tmp4 {fn : Func} {t u v x : Tmp} (h : fn.results = #[.tmp t, .tmp u, .tmp v, .tmp x]) (tmps : Array Value) (P : Program) (w : World) :
    (results fn tmps).run P w = .ok (.tuple #[tmps.getD t undef, tmps.getD u undef, tmps.getD v undef, tmps.getD x undef]) w := by
  simp [results, h]
set_option maxHeartbeats 4000000 in
theorem asked_any (u : ByteArray) (hu : u.size ≤ 9223372036854775807) (k : Int) (x : Nat) (s : ByteArray) (n : Int) (hn : Num n) (w : World) :
    Calls Try.prog 19 #[.string u, .agg #[.int .i64 k, .int .u64 (x : Nat), .string s, .int .i64 n]] w fun e w' => e = .returned (.tuple #[.int .u64 (rN (bs u) k n : Nat), .string (str (rT (bs u) k n)), .int .i64 ((rP (bs u) k n).1 : Nat), .int .i64 (rP (bs u) k n).2]) ∧ Below w.heap.size w w' := by
  have B := below_alloc w (.cells #[.int .i64 k, .int .u64 (x : Nat), .string s, .int .i64 n] 33)
  have hnn := hn
  obtain ⟨hn1, hn2⟩ := hnn
  rcases kinds k with rfl | rfl | rfl | rfl | hk
  · have HR := hide (r0 (bs u) n)
    have hc : ∀ w, _ := fun w => rnumber_any u hu n hn w
    go_enter Try.func19, Try.ntmps19
    go_wp2_with fail
    refine (hc _).mono ?_
    rintro e w2 ⟨rfl, hw⟩
    subst hw
    go_wp2
    (try simp only [Exit.inBlock, Exit.then])
    refine bodyPost_ret (results_tmp4 rfl _ _ _) rfl ?_
    rw [HR.out.1, HR.out.2.1, HR.out.2.2]
    exact ⟨rfl, B⟩
  · have HR := hide (r1 (bs u) n)
    have hc : ∀ w, _ := fun w => rfew_any u hu w
    go_enter Try.func19, Try.ntmps19
    go_wp2_with fail
    refine (hc _).mono ?_
    rintro e w2 ⟨rfl, hb⟩
    go_wp2
    (try simp only [Exit.inBlock, Exit.then])
    refine bodyPost_ret (results_tmp4 rfl _ _ _) rfl ?_
    rw [HR.out.1, HR.out.2.1, HR.out.2.2]
    exact ⟨rfl, B.trans (hb.mono B.size)⟩
  · have HR := hide (r4 (bs u) n)
    have hf := rfew_any u hu (w.alloc (.cells #[.int .i64 4, .int .u64 (x : Nat), .string s, .int .i64 n] 33))
    have hx := few_bound (bs_lt u)
    by_cases he : (few 12 (bs u)).2.2 = 0
    · by_cases h2 : n < 0 ∨ n < ((few 12 (bs u)).1 : Nat)
      · have HI := hide (intR_form he h2)
        rw [he] at hf
        generalize few 12 (bs u) = F at *
        by_cases h0 : n < 0
        · go_enter Try.func19, Try.ntmps19
          go_wp2_with fail
          refine hf.mono ?_
          rintro e w2 ⟨rfl, hb⟩
          have cc : w2.cell? ⟨w.heap.size, 3, none⟩ = some (.int .i64 n) := by
            rw [hb.cell (by simp)]
            simp
          go_wp2
          (try simp only [Exit.inBlock, Exit.then])
          refine bodyPost_ret (results_tmp4 rfl _ _ _) rfl ?_
          rw [HR.out.1, HR.out.2.1, HR.out.2.2, HI.out]
          exact ⟨rfl, B.trans (hb.mono B.size)⟩
        · have h3 : n < (F.1 : Int) := by omega
          clear h2
          go_enter Try.func19, Try.ntmps19
          go_wp2_with fail
          refine hf.mono ?_
          rintro e w2 ⟨rfl, hb⟩
          have cc : w2.cell? ⟨w.heap.size, 3, none⟩ = some (.int .i64 n) := by
            rw [hb.cell (by simp)]
            simp
          go_wp2
          (try simp only [Exit.inBlock, Exit.then])
          refine bodyPost_ret (results_tmp4 rfl _ _ _) rfl ?_
          rw [HR.out.1, HR.out.2.1, HR.out.2.2, HI.out]
          exact ⟨rfl, B.trans (hb.mono B.size)⟩
      · have HI := hide (intR_ok h2)
        have HE := hide he
        rw [he] at hf
        generalize few 12 (bs u) = F at *
        have h3 : (F.1 : Int) ≤ n := by omega
        have h4 : 0 ≤ n := by omega
        clear h2
        go_enter Try.func19, Try.ntmps19
        go_wp2_with fail
        refine hf.mono ?_
        rintro e w2 ⟨rfl, hb⟩
        have cc : w2.cell? ⟨w.heap.size, 3, none⟩ = some (.int .i64 n) := by
          rw [hb.cell (by simp)]
          simp
        go_wp2
        (try simp only [Exit.inBlock, Exit.then])
        refine bodyPost_ret (results_tmp4 rfl _ _ _) rfl ?_
        rw [HR.out.1, HR.out.2.1, HR.out.2.2, HI.out]
        refine ⟨?_, B.trans (hb.mono B.size)⟩
        show _ = Ending.returned (.tuple #[_, _, _, .int .i64 F.2.2])
        rw [HE.out]
        rfl
    · have HI := hide (intR_bad (m := n) he)
      have he2 : ((few 12 (bs u)).2.2 == 0) = false := by rw [beq_eq_false_iff_ne]; exact he
      clear he
      generalize few 12 (bs u) = F at *
      go_enter Try.func19, Try.ntmps19
      go_wp2_with fail
      refine hf.mono ?_
      rintro e w2 ⟨rfl, hb⟩
      have cc : w2.cell? ⟨w.heap.size, 3, none⟩ = some (.int .i64 n) := by
        rw [hb.cell (by simp)]
        simp
      go_wp2
      (try simp only [Exit.inBlock, Exit.then])
      refine bodyPost_ret (results_tmp4 rfl _ _ _) rfl ?_
      rw [HR.out.1, HR.out.2.1, HR.out.2.2, HI.out]
      exact ⟨rfl, B.trans (hb.mono B.size)⟩
  · have HR := hide (r2 (bs u) n)
    have hc : ∀ w, _ := fun w => rtext_any u hu n hn w
    go_enter Try.func19, Try.ntmps19
    go_wp2_with fail
    refine (hc _).mono ?_
    rintro e w2 ⟨rfl, hb⟩
    go_wp2
    (try simp only [Exit.inBlock, Exit.then])
    refine bodyPost_ret (results_tmp4 rfl _ _ _) rfl ?_
    rw [HR.out.1, HR.out.2.1, HR.out.2.2]
    exact ⟨rfl, B.trans (hb.mono B.size)⟩
  · have HR := hide (rr hk (bs u) n)
    obtain ⟨k0, k1, k4, k2⟩ := hk
    by_cases h0 : n < 0
    · have HI := hide (rawR_arg (l := bs u) h0)
      go_enter Try.func19, Try.ntmps19
      go_wp2
      (try simp only [Exit.inBlock, Exit.then])
      refine bodyPost_ret (results_tmp4 rfl _ _ _) rfl ?_
      rw [HR.out.1, HR.out.2.1, HR.out.2.2, HI.out]
      exact ⟨rfl, B⟩
    · by_cases h1 : (u.size : Int) < n
      · have HI := hide (rawR_short (l := bs u) h0 (by rw [bs_length]; exact h1))
        go_enter Try.func19, Try.ntmps19
        go_wp2
        (try simp only [Exit.inBlock, Exit.then])
        refine bodyPost_ret (results_tmp4 rfl _ _ _) rfl ?_
        rw [HR.out.1, HR.out.2.1, HR.out.2.2, HI.out]
        exact ⟨rfl, B⟩
      · have HI := hide (rawR_ok (l := bs u) h0 (by rw [bs_length]; exact h1))
        obtain ⟨m, rfl⟩ := Int.eq_ofNat_of_zero_le (show 0 ≤ n by omega)
        rw [show ((m : Int)).toNat = m by omega] at HI
        have HX : Hid (u.extract 0 m = str ((bs u).take m)) := by
          have := extract_str u 0 m
          rwa [Nat.zero_add, List.drop_zero] at this
        have hne := later_ne (w.alloc (.cells #[.int .i64 k, .int .u64 (x : Nat), .string s, .int .i64 (m : Int)] 33))
        have cc : ∀ p : Later (w.alloc (.cells #[.int .i64 k, .int .u64 (x : Nat), .string s, .int .i64 (m : Int)] 33)), p.val.cell? ⟨w.heap.size, 3, none⟩ = some (.int .i64 (m : Int)) := fun p => by
          rw [p.below.cell (by simp)]
          simp
        have h1' : (m : Int) ≤ (u.size : Int) := by omega
        go_enter Try.func19, Try.ntmps19
        go_wp2
        refine wp_region_later (by kernel_rfl) (by kernel_rfl) ?_
        (repeat (first | go_big_quiet_skip | (go_big_quiet_want; go_big_quiet_op; go_big_quiet_on)))
        refine wpQuiet_nil ?_
        rintro _ ⟨p, rfl⟩
        go_wp2
        (try simp only [Exit.inBlock, Exit.then])
        refine bodyPost_ret (results_tmp4 rfl _ _ _) rfl ?_
        rw [HR.out.1, HR.out.2.1, HR.out.2.2, HI.out]
        exact ⟨by rw [← HX.out]; rfl, B.trans (p.below.mono B.size)⟩

end Wi
end Go.Proofs.Ytnpnghdjdelemaa
