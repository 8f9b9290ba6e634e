/- The document's sectors of positions. -/
import Derived.Test.YtbgadcofjhgmiaaWb
namespace Go.Proofs.Ytbgadcofjhgmiaa
open Go.RowKit
namespace Sp

theorem refL_len (s p : Nat) : ∀ n, (refL s p n).length ≤ n
  | 0 => by simp [refL]
  | n + 1 => by
    have ih := refL_len s p n
    rw [refL, stepS]
    split
    · rename_i y hy
      split
      · rw [List.length_append, List.length_dropLast, List.length_singleton]; omega
      · rw [List.length_append, List.length_singleton]; omega
    · rw [List.length_append, List.length_singleton]; omega
theorem stepS_nil (a : Int) : stepS [] a = [(a, 1)] := rfl
theorem stepS_more (zs : List (Int × Int)) (x : Int × Int) (a : Int) (h : x.1 + x.2 = a) : stepS (zs ++ [x]) a = zs ++ [(x.1, x.2 + 1)] := by
  unfold stepS
  rw [List.getLast?_concat, List.dropLast_concat]
  exact if_pos h
theorem stepS_new (zs : List (Int × Int)) (x : Int × Int) (a : Int) (h : ¬ x.1 + x.2 = a) : stepS (zs ++ [x]) a = zs ++ [x] ++ [(a, 1)] := by
  unfold stepS
  rw [List.getLast?_concat]
  exact if_neg h
set_option maxRecDepth 100000 in
set_option maxHeartbeats 8000000 in
theorem refat_any (s p n : Nat) (hs : 1 ≤ s) (hs2 : s ≤ 65536) (hp : p ≤ 2199023255552) (hn : n ≤ s) (w : World) :
    Calls Try.prog 17 #[.int .i64 (s : Nat), .int .i64 (p : Nat), .int .i64 (n : Nat)] w fun e w' => ∃ v, e = .returned v ∧ Own w' v (refL s p n) ∧ From w.heap.size v ∧ Below w.heap.size w w' := by
  have hs0 : ¬ (s : Int) = 0 := by omega
  have HP := hide hp
  clear hp
  go_enter Try.func17, Try.ntmps17
  go_wp2
  go_loopw [7, 8, 9, 10] (fun v i _ _ wr => ∃ k : Nat, k ≤ n ∧ i = .int .i64 k ∧ Own wr v (refL s p k) ∧ From w.heap.size v ∧ Below w.heap.size w wr) (fun _ i _ _ _ => n - (intOf i).toNat)
  case atStart => exact ⟨0, Nat.zero_le _, rfl, Own.nil _, From.nil _ _ _, Below.refl _ _⟩
  case round =>
    obtain ⟨k, hk, rfl, hown, hfrom, hb⟩ := hrel
    by_cases hlt : k < n
    · have hstep : refL s p (k + 1) = stepS (refL s p k) (((p + k) % s : Nat) : Int) := rfl
      have hfit : ∀ x ∈ refL s p k, 0 ≤ x.1 ∧ 1 ≤ x.2 ∧ x.1 + x.2 ≤ s := by
        rw [ref_sec hs (by omega)]
        exact sec_fit hs hs2 (by omega)
      have hll : (refL s p k).length ≤ 65536 := Nat.le_trans (refL_len s p k) (by omega)
      have hw1 : IntKind.i64.wrap ((p : Int) + (k : Int)) = (p : Int) + (k : Int) := by have := HP.out; rw [IntKind.wrap_i64]; omega
      have hmod := Nat.mod_lt (p + k) (show 0 < s by omega)
      have hr : ((p : Int) + (k : Int)).tmod (s : Int) = (((p + k) % s : Nat) : Int) := by
        rw [Int.tmod_eq_emod_of_nonneg (by omega), show (p : Int) + (k : Int) = ((p + k : Nat) : Int) by omega]
        rfl
      have hrw : IntKind.i64.wrap (((p + k) % s : Nat) : Int) = (((p + k) % s : Nat) : Int) := by rw [IntKind.wrap_i64]; omega
      generalize (p + k) % s = a at *
      generalize refL s p k = A at *
      have hsp : A = [] ∨ ∃ zs x, A = zs ++ [x] := by
        rcases List.eq_nil_or_concat A with e | ⟨z, x, e⟩
        · exact .inl e
        · exact .inr ⟨z, x, by rw [e, List.concat_eq_append]⟩
      rcases hsp with rfl | ⟨zs, x, rfl⟩
      · rw [stepS_nil] at hstep
        have HST := hide hstep
        have HBR := hide hb
        have HFR := hide hfrom
        obtain ⟨va, vc, rfl, _⟩ := hown.sl' (fun x hx => by cases hx)
        have HO := hide hown
        simp only [List.length_nil] at *
        have hne := later_ne wr
        clear hstep hfit hll hown hfrom hb
        go_wp2
        refine wp_region_later (by kernel_rfl) (by kernel_rfl) ?_
        (repeat (first | go_big_quiet_skip | (go_big_quiet_want; go_big_quiet_op; go_big_quiet_on)))
        refine wpQuiet_nil ?_
        rintro _ ⟨p_1, rfl⟩
        have HBP := hide (HBR.out.trans (p_1.below.mono HBR.out.size))
        have HOP := hide (HO.out.later p_1.below)
        generalize p_1.val = w2 at *
        go_wp2_with (at_builtin; refine app28 rfl (.tmp 51) (.tmp 54) rfl _ _ rfl (HOP.out.later (below_alloc _ _)) _ _ _ rfl (heap_alloc_new w2 _) (by simp) ?_; intro v1 w3 f1 f2 f3; replace f1 := hide f1; have HB1 := hide (below_grown (HBP.out.alloc HBP.out.size _) f2 (HBP.out.alloc HBP.out.size _).size HFR.out); have HF1 : Hid (From w.heap.size v1) := HFR.out.moved f3 (HBP.out.alloc HBP.out.size _).size; clear f2 f3)
        go_roundw
        case rel => exact ⟨k + 1, by omega, by go_num, by rw [HST.out]; exact f1.out, HF1.out, HB1.out⟩
        case measure => simp [intOf]; omega
      · have hx := hfit x (by simp)
        rw [List.length_append, List.length_singleton] at hll
        obtain ⟨g, cp, rfl, hgl, e0, e1, ef⟩ := hown.snocForm
        obtain ⟨x1, x2⟩ := x
        simp only at *
        have HE0 : ∀ P : Later wr, _ := fun P => (P.below.cell (p := ⟨g, zs.length * 2, none⟩) hgl).trans e0
        have HE1 : ∀ P : Later wr, _ := fun P => (P.below.cell (p := ⟨g, zs.length * 2 + 1, none⟩) hgl).trans e1
        have hne := later_ne wr
        have HEF : Hid (∀ P : Later wr, P.val.frozen? ⟨g, zs.length * 2 + 1, none⟩ = false) := fun P => (P.below.frozen (p := ⟨g, zs.length * 2 + 1, none⟩) hgl).trans ef
        have hw2 : IntKind.i64.wrap (x1 + x2) = x1 + x2 := by rw [IntKind.wrap_i64]; omega
        have hw3 : IntKind.i64.wrap (((zs.length : Nat) : Int) + 1 - 1) = ((zs.length : Nat) : Int) := by rw [IntKind.wrap_i64]; omega
        have hw4 : IntKind.i64.wrap (x2 + 1) = x2 + 1 := by rw [IntKind.wrap_i64]; omega
        have HBR := hide hb
        have HFR := hide hfrom
        have HO := hide hown
        by_cases hc : x1 + x2 = (a : Int)
        · rw [stepS_more zs (x1, x2) _ hc] at hstep
          have HST := hide hstep
          have hd : decide (x1 + x2 = (a : Int)) = true := decide_eq_true hc
          clear hstep hfit hown hfrom hb e0 e1 ef
          go_wp2
          refine wp_region_later (by kernel_rfl) (by kernel_rfl) ?_
          (repeat (first | go_big_quiet_skip | (go_big_quiet_want; go_big_quiet_op; go_big_quiet_on)))
          refine wpQuiet_nil ?_
          rintro _ ⟨p_1, rfl⟩
          have HBP := hide (HBR.out.trans (p_1.below.mono HBR.out.size))
          have hsl := (HO.out.later p_1.below).setLast (x2 + 1)
          have HSL := hide hsl.1
          have HB1 := hide (below_grown (v := .slice (some ⟨g, 0, none⟩) (zs.length + 1) cp) HBP.out hsl.2 HBP.out.size HFR.out)
          have e1 := HE1 p_1
          have ef := HEF.out p_1
          have hg2 : g < p_1.val.heap.size := Nat.lt_of_lt_of_le hgl p_1.below.size
          clear hsl HE0 HE1 hne HEF
          generalize p_1.val = w2 at *
          go_wp2
          go_roundw
          case rel => exact ⟨k + 1, by omega, by go_num, by rw [HST.out]; exact HSL.out, HFR.out, HB1.out⟩
          case measure => simp [intOf]; omega
        · rw [stepS_new zs (x1, x2) _ hc] at hstep
          have HST := hide hstep
          have hd : decide (x1 + x2 = (a : Int)) = false := decide_eq_false hc
          have HLL := hide hll
          clear hstep hfit hown hfrom hb e0 e1 ef
          go_wp2
          refine wp_region_later (by kernel_rfl) (by kernel_rfl) ?_
          (repeat (first | go_big_quiet_skip | (go_big_quiet_want; go_big_quiet_op; go_big_quiet_on)))
          refine wpQuiet_nil ?_
          rintro _ ⟨p_1, rfl⟩
          have HBP := hide (HBR.out.trans (p_1.below.mono HBR.out.size))
          have HOP := hide (HO.out.later p_1.below)
          clear HE0 HE1 hne HEF
          generalize p_1.val = w2 at *
          go_wp2_with (at_builtin; refine app28 rfl (.tmp 51) (.tmp 54) rfl _ _ rfl (HOP.out.later (below_alloc _ _)) _ _ _ rfl (heap_alloc_new w2 _) (by have := HLL.out; rw [List.length_append, List.length_singleton]; omega) ?_; intro v1 w3 f1 f2 f3; replace f1 := hide f1; have HB1 := hide (below_grown (HBP.out.alloc HBP.out.size _) f2 (HBP.out.alloc HBP.out.size _).size HFR.out); have HF1 : Hid (From w.heap.size v1) := HFR.out.moved f3 (HBP.out.alloc HBP.out.size _).size; clear f2 f3)
          go_roundw
          case rel => exact ⟨k + 1, by omega, by go_num, by rw [HST.out]; exact f1.out, HF1.out, HB1.out⟩
          case measure => simp [intOf]; omega
    · obtain rfl : k = n := by omega
      have HO := hide hown
      have HF := hide hfrom
      have HB := hide hb
      clear hown hfrom hb
      go_wp2
      go_ret
      exact ⟨_, rfl, HO.out, HF.out, HB.out⟩

end Sp
end Go.Proofs.Ytbgadcofjhgmiaa
