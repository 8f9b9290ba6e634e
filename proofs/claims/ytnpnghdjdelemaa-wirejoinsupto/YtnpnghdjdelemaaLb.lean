/- A part of the proofs about package wire: what its functions answer, call by call. -/
import Derived.Test.YtnpnghdjdelemaaWs
namespace Go.Proofs.Ytnpnghdjdelemaa
open Go.RowKit
namespace Wi

theorem lt_str {a b : Nat} (ha : a < 18446744073709551616) (hb : b < 18446744073709551616) : Op.bytesLess (str (vr a)).toList (str (vr b)).toList = decide (a < b) := by
  rw [bytesLess_bs, bs_str (vr_lt a ha), bs_str (vr_lt b hb), lexB_vr ha hb]
theorem eq_str {a b : Nat} (ha : a < 18446744073709551616) (hb : b < 18446744073709551616) : ((str (vr a)).toList == (str (vr b)).toList) = decide (a = b) := by
  by_cases h : a = b
  · subst h
    rw [decide_eq_true rfl]
    simp
  · rw [decide_eq_false h]
    apply bne_lists
    intro e
    have := congrArg bs e
    rw [bs_str (vr_lt a ha), bs_str (vr_lt b hb)] at this
    exact h (vr_inj ha hb this)
theorem InAt.keep {X : Nat → Prop} {w w' : World} {b at_ : Nat} {s : ByteArray} {e : Int} (h : InAt w b s at_ e) (k : Keep X w w') (hx : ¬ X b) : InAt w' b s at_ e := ⟨(k.block b h.lt hx).trans h.blk⟩
/-- Two new writers, one behind the other. -/
theorem two_new (W : World) : OutAt ((W.alloc (.cells #[.slice none 0 0] 27)).alloc (.cells #[.slice none 0 0] 27)) W.heap.size (.slice none 0 0) [] ∧ OutAt ((W.alloc (.cells #[.slice none 0 0] 27)).alloc (.cells #[.slice none 0 0] 27)) (W.heap.size + 1) (.slice none 0 0) [] ∧ Far W.heap.size (.slice none 0 0) (W.heap.size + 1) (.slice none 0 0) ∧ Below W.heap.size W ((W.alloc (.cells #[.slice none 0 0] 27)).alloc (.cells #[.slice none 0 0] 27)) := by
  refine ⟨(OutAt.new W).later (below_alloc _ _), ?_, ⟨by omega, by simp [Value.ownBlock], by simp [Value.ownBlock], by simp [Value.ownBlock]⟩, (below_alloc _ _).trans ((below_alloc _ _).mono (by simp))⟩
  have := OutAt.new (W.alloc (.cells #[.slice none 0 0] 27))
  rwa [World.size_alloc] at this
set_option maxHeartbeats 4000000 in
theorem wireOrder_walk (a b : Nat) (s : ByteArray) (W : World) (ha : a < 18446744073709551616) (hb : b < 18446744073709551616) (hs : s.size ≤ 9223372036854775807) :
    Calls Try.prog 6 #[.int .u64 (a : Nat), .int .u64 (b : Nat), .string s] W fun e w' => e = .returned (.bool true) ∧ Below W.heap.size W w' := by
  by_cases h40 : 40 < s.size
  · go_enter Try.func6, Try.ntmps6
    go_wp2_with fail
    refine (awake_any _).mono ?_
    rintro e w5 ⟨rfl, hb5⟩
    go_wp2
    go_ret
    exact ⟨rfl, hb5⟩
  · obtain ⟨o1, o2, hfar, B0⟩ := two_new W
    have hv1 := var_one W.heap.size _ [] a ha _ o1 (by decide)
    rw [List.nil_append] at hv1
    simp only [World.size_alloc] at hv1
    have hlt := lt_str ha hb
    have heq := eq_str ha hb
    have hlen : (str (vr a)).size = size a := by rw [str_size, vr_length]
    have hsz : ∀ w, _ := fun w => size_any a ha w
    have hsl : size a ≤ 9 := (size_pos a).2
    have HBx := hide (bs_length s)
    have hfew := few_facts ((bs s).drop 0)
    have hfb := few_bound (l := (bs s).drop 0) fun c hc => bs_lt s c (List.mem_of_mem_drop hc)
    have hvr : (few 12 ((bs s).drop 0)).2.2 = 0 → str (vr (few 12 ((bs s).drop 0)).1) = s.extract 0 (few 12 ((bs s).drop 0)).2.1 ∧ (few 12 ((bs s).drop 0)).2.1 ≤ s.size := fun he => by
      have hr := vr_few 12 (l := (bs s).drop 0) (x := (few 12 ((bs s).drop 0)).1) (n := (few 12 ((bs s).drop 0)).2.1) (fun c hc => bs_lt s c (List.mem_of_mem_drop hc)) (by rw [← he]) (by decide)
      have hx := extract_str s 0 (few 12 ((bs s).drop 0)).2.1
      rw [Nat.zero_add] at hx
      rw [hr.1, hx]
      refine ⟨rfl, ?_⟩
      have := hr.2.1
      rwa [List.length_drop, bs_length, Nat.sub_zero] at this
    have hbad := few_bad (l := (bs s).drop 0)
    have e1 : decide ((a : Int) < (b : Int)) = decide (a < b) := decide_eq_decide.2 (by omega)
    have e2 : ((a : Int) == (b : Int)) = decide (a = b) := by
      rw [Bool.eq_iff_iff, beq_iff_eq, decide_eq_true_eq]
      omega
    rw [← e1] at hlt
    rw [← e2] at heq
    clear e1 e2
    go_enter Try.func6, Try.ntmps6
    go_wp2_with fail
    refine hv1.mono ?_
    rintro e w1 ⟨rfl, v1, hw1⟩
    have o2' := o2.keep hw1.keep hfar
    have hfar1 := hfar.move hw1.moved o2
    have hB1 := hw1.below (B := W.heap.size) (by simp; omega) (Nat.le_refl _) (From.nil _ _ _)
    have HB1 := hide (B0.trans hB1.1)
    have hv2 := var_one (W.heap.size + 1) _ [] b hb _ o2' (by decide)
    rw [List.nil_append] at hv2
    have o1' := hw1.out
    clear hw1 hv1 o1 o2 hfar hB1
    go_wp2_with fail
    refine hv2.mono ?_
    rintro e w2 ⟨rfl, v2, hw2⟩
    have o1'' := o1'.keep hw2.keep hfar1.symm
    have hB2 := hw2.below (B := W.heap.size) HB1.out.size (by omega) (From.nil _ _ _)
    have HB2 := hide (HB1.out.trans hB2.1)
    have hs1 := string_any _ _ _ _ o1''
    have hs2 := string_any _ _ _ _ hw2.out
    clear hw2 hv2 o1' o1'' o2' hfar1 hB2
    generalize str (vr a) = SA at *
    generalize str (vr b) = SB at *
    go_wp2_with fail
    refine hs1.mono ?_
    rintro e w' ⟨rfl, rfl⟩
    go_wp2_with fail
    refine hs2.mono ?_
    rintro e w' ⟨rfl, rfl⟩
    go_wp2_with fail
    refine hs1.mono ?_
    rintro e w' ⟨rfl, rfl⟩
    go_wp2_with fail
    refine hs2.mono ?_
    rintro e w' ⟨rfl, rfl⟩
    go_wp2_with fail
    refine hs1.mono ?_
    rintro e w' ⟨rfl, rfl⟩
    go_wp2_with fail
    refine (hsz _).mono ?_
    rintro e w' ⟨rfl, rfl⟩
    clear hs1 hs2 hlt heq hlen
    go_wp2_with fail
    refine (read_any s _).mono ?_
    rintro e w3 ⟨rfl, hi3, hb3⟩
    have HB3 := hide (HB2.out.trans (hb3.mono HB2.out.size))
    have hr := rvar_ok hi3 hs (Nat.zero_le _)
    rw [Nat.zero_add] at hr
    generalize few 12 ((bs s).drop 0) = F at *
    go_wp2_with fail
    refine hr.mono ?_
    rintro e w4 ⟨rfl, hd4⟩
    have HB4 := hide (HB3.out.trans (hd4.below HB3.out.size HB2.out.size))
    have hi4 := hd4.inn
    clear hr hi3 hb3 hd4
    by_cases he : F.2.2 = 0
    · obtain ⟨hx1, hx2⟩ := hvr he
      rw [he] at hi4
      have hv5 := var_one w4.heap.size _ [] F.1 hfb _ (OutAt.new w4) (by decide)
      rw [List.nil_append] at hv5
      simp only [World.size_alloc] at hv5
      have B5 := hide (HB4.out.trans ((below_alloc w4 (.cells #[.slice none 0 0] 27)).mono HB4.out.size))
      have HX := hide hx1
      clear hvr hbad hfew he hx1
      go_wp2_with fail
      refine (err_any hi4).mono ?_
      rintro e w' ⟨rfl, rfl⟩
      go_wp2_with fail
      refine hv5.mono ?_
      rintro e w5 ⟨rfl, v5, hw5⟩
      have hi5 := (hi4.later (below_alloc _ _)).keep hw5.keep fun x => by
        rcases x with x | x
        · have := hi4.lt; omega
        · simp [Value.ownBlock] at x
      have hB5 := hw5.below (B := W.heap.size) B5.out.size HB4.out.size (From.nil _ _ _)
      have HB5 := hide (B5.out.trans hB5.1)
      have hs5 := string_any _ _ _ _ hw5.out
      rw [HX.out] at hs5
      clear hw5 hB5 hv5
      have hx3 : (F.2.1 : Int) ≤ (s.size : Int) := by omega
      go_wp2_with fail
      refine hs5.mono ?_
      rintro e w' ⟨rfl, rfl⟩
      go_wp2_with fail
      refine (at_any hi5).mono ?_
      rintro e w' ⟨rfl, rfl⟩
      go_wp2_with fail
      refine (awake_any _).mono ?_
      rintro e w6 ⟨rfl, hb6⟩
      go_wp2
      go_ret
      exact ⟨rfl, HB5.out.trans (hb6.mono HB5.out.size)⟩
    · have he2 : (F.2.2 == 0) = false := by rw [beq_eq_false_iff_ne]; exact he
      obtain ⟨z1, z2⟩ := hbad he
      rw [z2] at hi4
      rw [z1]
      clear hvr hbad hfew he z1 z2
      go_wp2_with fail
      refine (err_any hi4).mono ?_
      rintro e w' ⟨rfl, rfl⟩
      go_wp2_with fail
      refine (at_any hi4).mono ?_
      rintro e w' ⟨rfl, rfl⟩
      go_wp2_with fail
      refine (awake_any _).mono ?_
      rintro e w6 ⟨rfl, hb6⟩
      go_wp2
      go_ret
      exact ⟨rfl, HB4.out.trans (hb6.mono HB4.out.size)⟩

end Wi
end Go.Proofs.Ytnpnghdjdelemaa
