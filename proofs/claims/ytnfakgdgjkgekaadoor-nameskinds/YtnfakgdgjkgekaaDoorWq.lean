/- Numbers that follow one another: Run. -/
import Derived.Test.YtnfakgdgjkgekaaDoorWp
namespace Go.Proofs.YtnfakgdgjkgekaaDoor
open Go.RowKit
namespace Wi

theorem run_mid38 (g off n cap i j : Nat) (hi : i ≤ j) (hj : j ≤ cap) (hc : i < cap) (w : World) : (Instr.slice 38 (.slice (some ⟨g, off, none⟩) n cap) (some (.int .i64 (i : Nat))) (some (.int .i64 (j : Nat))) none).run Tryd.prog w = .ok (.slice (some ⟨g, off + i, none⟩) (j - i) (cap - i)) w := by
  have b1 : ¬ cap = i := by omega
  simp [Instr.slice, Instr.sliceBounds, Instr.sliceBound, run_underlying Tryd.underlying38, asIntOf, hi, hj, b1, Addr.add_mid]
/-- What Run answers: so many numbers, in new memory. -/
def RunP (zs : List Int) (f : Int) (w : World) (w' : World) (v : Value) : Prop := ∃ m, RunOk zs f m ∧ NewI w (runL f m) m w' v
theorem below_drewN (w : World) (q : Nat) : Below w.heap.size w (w.drewN q) := (drewN_keep (fun _ => False) w q).below (Nat.le_refl _) fun _ _ => id
theorem not_mem_run {zs : List Int} {f : Int} (h : f ∉ zs) : RunOk zs f 0 := ⟨fun j hj => by omega, by simpa using h⟩
theorem run_take {S : List Int} {f : Int} {F m : Nat} (h : ∀ j, j < m → S[F + j]? = some (f + (j : Int))) : (S.drop F).take m = runL f m := by
  apply List.ext_getElem?
  intro t
  by_cases ht : t < m
  · rw [List.getElem?_take_of_lt ht, List.getElem?_drop, h t ht, runL_get ht]
  · rw [List.getElem?_eq_none (by rw [List.length_take]; omega), List.getElem?_eq_none (by rw [runL_length]; omega)]
set_option maxHeartbeats 8000000 in
theorem run_any {w : World} {a : Option Addr} {n cap : Nat} {zs : List Int} (h : Is w a n zs) (hn : n ≤ 1000) (f : Int) (_hf : Num f) : Calls Tryd.prog 22 #[.slice a n cap, .int .i64 f] w fun e w' => ∃ v', e = .returned v' ∧ RunP zs f w w' v' := by
  have hc1 := clone_any (cap := cap) h (by omega)
  have HNUM := hide h.num
  have hlen := h.len
  clear h
  go_enter Tryd.func22, Tryd.ntmps22
  go_wp2_with fail
  refine hc1.mono ?_
  rintro e w1 ⟨v1, rfl, hN1⟩
  have hr := rising_any hN1.row hN1.len (by omega)
  have HB1 := hide hN1.below
  have HNW := hide hN1.new
  clear hc1 hN1
  go_wp2_with fail
  refine hr.mono ?_
  rintro e w2 ⟨v2, rfl, hR⟩
  have HB2 : Hid (Below w.heap.size w w2) := HB1.out.trans (hR.keep.below HB1.out.size fun k hk e => by have := HNW.out k e; omega)
  have HNW2 : Hid (From w.heap.size v2) := fun k hk => HNW.out k (by rw [← hR.own]; exact hk)
  have hrow := hR.row
  clear hr hR HNW HB1
  have hSl := SR_length zs
  rw [hlen] at hSl
  have HSM := hide (SR_mem zs)
  have HSL := hide (SR_lt zs)
  clear hlen
  generalize SR zs = S at *
  obtain ⟨N, hN⟩ : ∃ N, N = S.length := ⟨_, rfl⟩
  rw [← hN] at hrow hSl
  by_cases hN0 : N = 0
  · subst hN0
    have hS : S = [] := List.eq_nil_of_length_eq_zero hN.symm
    subst hS
    obtain ⟨a2, c2, rfl⟩ := hrow.form
    have hbs := Tryd.slices_BinarySearch_int_empty a2 c2 f w2
    have HF : Hid (RunP zs f w w2 (.slice none 0 0)) := ⟨0, not_mem_run fun e => by have := (HSM.out f).2 e; simp at this, NewI.nil HB2.out⟩
    clear hrow hN
    go_wp2_with fail
    refine hbs.mono ?_
    rintro e w3 ⟨rfl, hww⟩
    subst hww
    clear hbs
    go_wp2
    go_ret
    exact ⟨_, rfl, HF.out⟩
  · obtain ⟨g, off, c2, rfl, hgl, hnc, hcm⟩ := hrow.pos (by omega)
    have hbs := Tryd.slices_BinarySearch_int g off N c2 S f w2 (by omega) (by omega) (fun j hj => (rw_getD hrow j hj).1) (by rw [List.take_of_length_le (by omega)]; exact HSL.out.imp fun h => Int.le_of_lt h)
    rw [List.take_of_length_le (by omega)] at hbs
    have HROW := hide hrow
    have HN := hide hN
    clear hrow hN
    cases hct : S.contains f with
    | false =>
      rw [hct] at hbs
      have HF : Hid (∀ q, RunP zs f w (w2.drewN q) (.slice none 0 0)) := fun q => by
        refine ⟨0, not_mem_run fun e => ?_, NewI.nil (HB2.out.trans ((below_drewN w2 q).mono HB2.out.size))⟩
        have := (HSM.out f).2 e
        rw [← List.contains_iff_mem, hct] at this
        cases this
      clear hct
      generalize S.countP (· < f) = F at *
      go_wp2_with fail
      refine hbs.mono ?_
      rintro e w3 ⟨rfl, q, hw3⟩
      have HF2 := hide (HF.out q)
      rw [← hw3] at HF2
      clear hbs hw3 HF
      go_wp2
      go_ret
      exact ⟨_, rfl, HF2.out⟩
    | true =>
      rw [hct] at hbs
      have hmem : f ∈ S := List.contains_iff_mem.1 hct
      have hat := count_at HSL.out hmem
      generalize S.countP (· < f) = F at *
      have hFN : F < N := by have := (List.getElem?_eq_some_iff.1 hat).1; rw [HN.out]; exact this
      have HAT : Hid (∀ j, j < 0 + 1 → S[F + j]? = some (f + (j : Int))) := fun j hj => by
        obtain rfl : j = 0 := by omega
        simpa using hat
      have hcap : c2 ≤ 9223372036854775807 := by unfold maxLen at hcm; omega
      clear hct hmem hat
      go_wp2_with fail
      refine hbs.mono ?_
      rintro e w3 ⟨rfl, q, hw3⟩
      have hb3 : Below w2.heap.size w2 w3 := by rw [hw3]; exact below_drewN w2 q
      have HB3 := hide hb3
      clear hbs hw3 hb3
      go_wp2
      go_loopw [8] (fun i wr => ∃ k D : Nat, D < N ∧ i = .int .i64 ((D : Int) + 1) ∧ Hid (D = F + k) ∧ Hid (∀ j, j < k + 1 → S[F + j]? = some (f + (j : Int))) ∧ Below w2.heap.size w2 wr) (fun i _ => N - (intOf i).toNat)
      case atStart => exact ⟨0, F, hFN, rfl, rfl, HAT, HB3.out⟩
      case round =>
        clear HAT HB3
        obtain ⟨k, D, hDN, rfl, HD, HA, hb⟩ := hrel
        have HB := hide hb
        have hrw := HROW.out.later hb
        have hgl2 : g < wr.heap.size := Nat.lt_of_lt_of_le hgl hb.size
        have hne := later_ne wr
        have hY := HA.out k (by omega)
        rw [← HD.out] at hY
        have cY := (hrw.cell (encI_get hY)).1
        have HYN := hide (HNUM.out _ ((HSM.out _).1 (List.mem_of_getElem? hY)))
        obtain ⟨Y, hYe⟩ : ∃ Y, f + (k : Int) = Y := ⟨_, rfl⟩
        rw [hYe] at cY HYN hY
        have HYE := hide hYe
        have HY := hide hY
        have j1 : ∀ p : Later wr, p.val.cell? ⟨g, off + D, none⟩ = some (.int .i64 Y) := fun p => (p.below.cell (p := ⟨g, off + D, none⟩) hgl2).trans cY
        clear hb hYe hY
        by_cases hlt : D + 1 < N
        · obtain ⟨x, hx⟩ : ∃ x, S[D + 1]? = some x := ⟨_, List.getElem?_eq_getElem (by have := HN.out; omega)⟩
          have cX := (hrw.cell (encI_get hx)).1
          have hlt2 := rise_at HSL.out HY.out hx (by omega)
          obtain ⟨x1, x2⟩ := HNUM.out x ((HSM.out _).1 (List.mem_of_getElem? hx))
          obtain ⟨y1, y2⟩ := HYN.out
          have HX := hide hx
          have j2 : ∀ p : Later wr, p.val.cell? ⟨g, off + (D + 1), none⟩ = some (.int .i64 x) := fun p => (p.below.cell (p := ⟨g, off + (D + 1), none⟩) hgl2).trans cX
          have hd : decide ((D : Int) + 1 < (N : Int)) = true := by simp; omega
          clear hrw cX cY hx
          by_cases he : x = Y + 1
          · have b1 : (x == Y + 1) = true := by rw [beq_iff_eq]; exact he
            have HA2 : Hid (∀ j, j < k + 1 + 1 → S[F + j]? = some (f + (j : Int))) := fun j hj => by
              rcases Nat.lt_or_ge j (k + 1) with h1 | h1
              · exact HA.out j h1
              · obtain rfl : j = k + 1 := by omega
                have := HX.out
                rw [show F + (k + 1) = D + 1 by have := HD.out; omega, this, he, ← HYE.out]
                congr 1
                omega
            have HD2 : Hid (D + 1 = F + (k + 1)) := by have := HD.out; show _ = _; omega
            clear he
            go_wp2
            refine wp_region_later (by kernel_rfl) (by kernel_rfl) ?_
            (repeat (first | go_big_quiet_skip | (go_big_quiet_want; go_big_quiet_op; go_big_quiet_on)))
            refine wpQuiet_nil ?_
            rintro _ ⟨p, rfl⟩
            have HB4 := hide (HB.out.trans (p.below.mono HB.out.size))
            clear j1 j2 hne
            generalize p.val = w4 at *
            go_wp2
            go_roundw
            case rel => exact ⟨k + 1, D + 1, by omega, by go_num, HD2, HA2, HB4.out⟩
            case measure => simp [intOf]; omega
          · have b1 : (x == Y + 1) = false := by rw [beq_eq_false_iff_ne]; exact he
            have HOK : Hid (RunOk S f (k + 1)) := run_stop HSL.out (i := F) HA.out fun z hz e => by
              rw [show F + (k + 1) = D + 1 by have := HD.out; omega, HX.out] at hz
              injection hz with hz
              have := HYE.out
              omega
            clear he
            go_wp2
            refine wp_region_later (by kernel_rfl) (by kernel_rfl) ?_
            (repeat (first | go_big_quiet_skip | (go_big_quiet_want; go_big_quiet_op; go_big_quiet_on)))
            refine wpQuiet_nil ?_
            rintro _ ⟨p, rfl⟩
            have HB4 := hide (HB.out.trans (p.below.mono HB.out.size))
            clear j1 j2 hne
            generalize p.val = w4 at *
            have hFD : F ≤ D := by have := HD.out; omega
            have hsl := run_mid38 g off N c2 F (D + 1) (by omega) (by omega) (by omega)
            rw [show ((D + 1 : Nat) : Int) = (D : Int) + 1 by omega] at hsl
            have HF : Hid (RunP zs f w w4 (.slice (some ⟨g, off + F, none⟩) (D + 1 - F) (c2 - F))) := by
              have hk : D + 1 - F = k + 1 := by have := HD.out; omega
              have h1 := HROW.out.later HB4.out
              have h2 := h1.drop (k := F) (by omega)
              rw [if_neg (by omega), Option.map_some, Addr.add_mid, Nat.mul_one] at h2
              have h3 := h2.narrow (m := k + 1) (by have := HD.out; omega)
              rw [show (encI S).drop F = encI (S.drop F) by simp [encI, List.map_drop], Nat.mul_one, show (encI (S.drop F)).take (k + 1) = encI ((S.drop F).take (k + 1)) by simp [encI, List.map_take], run_take HA.out] at h3
              refine ⟨k + 1, HOK.out.iff HSM.out, runL_length _ _, by rw [hk]; exact h3, fun j hj => HNW2.out j hj, HB2.out.trans (HB4.out.mono HB2.out.size)⟩
            clear HOK
            go_wp2
            go_ret
            exact ⟨_, rfl, HF.out⟩
        · have HOK : Hid (RunOk S f (k + 1)) := run_stop HSL.out (i := F) HA.out fun z hz e => by
            have h1 := (List.getElem?_eq_some_iff.1 hz).1
            have h2 := HD.out
            have h3 := HN.out
            omega
          have hd : decide ((D : Int) + 1 < (N : Int)) = false := by simp; omega
          clear hrw cY
          go_wp2
          refine wp_region_later (by kernel_rfl) (by kernel_rfl) ?_
          (repeat (first | go_big_quiet_skip | (go_big_quiet_want; go_big_quiet_op; go_big_quiet_on)))
          refine wpQuiet_nil ?_
          rintro _ ⟨p, rfl⟩
          have HB4 := hide (HB.out.trans (p.below.mono HB.out.size))
          clear j1 hne
          generalize p.val = w4 at *
          have hFD : F ≤ D := by have := HD.out; omega
          have hsl := run_mid38 g off N c2 F (D + 1) (by omega) (by omega) (by omega)
          rw [show ((D + 1 : Nat) : Int) = (D : Int) + 1 by omega] at hsl
          have HF : Hid (RunP zs f w w4 (.slice (some ⟨g, off + F, none⟩) (D + 1 - F) (c2 - F))) := by
            have hk : D + 1 - F = k + 1 := by have := HD.out; omega
            have h1 := HROW.out.later HB4.out
            have h2 := h1.drop (k := F) (by omega)
            rw [if_neg (by omega), Option.map_some, Addr.add_mid, Nat.mul_one] at h2
            have h3 := h2.narrow (m := k + 1) (by have := HD.out; omega)
            rw [show (encI S).drop F = encI (S.drop F) by simp [encI, List.map_drop], Nat.mul_one, show (encI (S.drop F)).take (k + 1) = encI ((S.drop F).take (k + 1)) by simp [encI, List.map_take], run_take HA.out] at h3
            refine ⟨k + 1, HOK.out.iff HSM.out, runL_length _ _, by rw [hk]; exact h3, fun j hj => HNW2.out j hj, HB2.out.trans (HB4.out.mono HB2.out.size)⟩
          clear HOK
          go_wp2
          go_ret
          exact ⟨_, rfl, HF.out⟩

end Wi
end Go.Proofs.YtnfakgdgjkgekaaDoor
