/- The law NamesRuns: which numbers are there from one on, one behind the other. -/
import Derived.Test.YtnfakgdgjkgekaaDoorWr
import Derived.Test.YtnfakgdgjkgekaaDoorLw
namespace Go.Proofs.YtnfakgdgjkgekaaDoor
open Go.RowKit
namespace Wi

theorem sub_len : ∀ (l m : List Int), l.Pairwise (· < ·) → (∀ x ∈ l, x ∈ m) → l.length ≤ m.length
  | [], _, _, _ => Nat.zero_le _
  | a :: l, m, h, hs => by
    obtain ⟨h1, h2⟩ := List.pairwise_cons.1 h
    have ha := hs a (by simp)
    have ih := sub_len l (m.erase a) h2 fun x hx => (List.mem_erase_of_ne (by have := h1 x hx; omega)).2 (hs x (by simp [hx]))
    rw [List.length_erase_of_mem ha] at ih
    have := List.length_pos_of_mem ha
    simp only [List.length_cons]
    omega
theorem runL_rise (f : Int) (m : Nat) : (runL f m).Pairwise (· < ·) := by
  unfold runL
  rw [List.pairwise_map]
  exact List.pairwise_lt_range.imp fun h => by omega
theorem run_few {zs : List Int} {f : Int} {k : Nat} (h : ∀ j : Nat, j < k → f + j ∈ zs) : k ≤ zs.length := by
  have := sub_len (runL f k) zs (runL_rise f k) fun x hx => by
    obtain ⟨j, hj, rfl⟩ := List.mem_map.1 hx
    exact h j (List.mem_range.1 hj)
  rw [runL_length] at this
  exact this
theorem contains_take {zs : List Int} {k : Nat} {x y : Int} (h : zs[k]? = some x) : (zs.take (k + 1)).contains y = ((zs.take k).contains y || x == y) := by
  rw [snoc_take _ _ _ h, List.contains_eq_any_beq, List.contains_eq_any_beq, List.any_append]
  simp [Bool.beq_comm]
set_option maxHeartbeats 8000000 in
theorem namesRuns_walk (a : Option Addr) (n cap : Nat) (zs : List Int) (f : Int) (W : World) (T : Tz W) (hI : Is W a n zs ∧ n ≤ 9223372036854775807) (hf : Num f) : Calls Tryd.prog 6 #[.slice a n cap, .int .i64 f] W fun e w' => e = .returned (.bool true) ∧ Below W.heap.size W w' := by
  obtain ⟨hI, hn⟩ := hI
  have HF := hide hf
  obtain ⟨f1, f2⟩ := hf
  by_cases h1 : 100 < n
  · have HB := hide (Below.refl W.heap.size W)
    go_enter Tryd.func6, Tryd.ntmps6
    go_wp2_with fail
    refine (awake_any _ (T.later HB.out)).mono ?_
    rintro e w9 ⟨rfl, hb9⟩
    go_wp2
    go_ret
    exact ⟨rfl, HB.out.trans (hb9.mono HB.out.size)⟩
  · by_cases h2 : 1152921504606846976 < f
    · have HB := hide (Below.refl W.heap.size W)
      go_enter Tryd.func6, Tryd.ntmps6
      go_wp2_with fail
      refine (awake_any _ (T.later HB.out)).mono ?_
      rintro e w9 ⟨rfl, hb9⟩
      go_wp2
      go_ret
      exact ⟨rfl, HB.out.trans (hb9.mono HB.out.size)⟩
    · have HL := hide hI.len
      have HS : Hid (NewI W (runL f 0) 0 W (.slice none 0 0)) := NewI.nil (Below.refl _ _)
      go_enter Tryd.func6, Tryd.ntmps6
      go_wp2
      go_loopw [5, 6] (fun v x wr => ∃ (k : Nat) (X : Int), k ≤ n ∧ x = .int .i64 X ∧ Hid (X = f + (k : Int)) ∧ Hid (∀ j : Nat, j < k → f + (j : Int) ∈ zs) ∧ NewI W (runL f k) k wr v) (fun _ x _ => (f + (n : Int) + 1 - intOf x).toNat)
      case atStart => exact ⟨0, f, Nat.zero_le _, rfl, by show _ = _; simp, fun j hj => by omega, HS.out⟩
      case round =>
        clear HS
        obtain ⟨k, X, hk, rfl, HX, HA, hN⟩ := hrel
        have HN := hide hN
        have hXb : f ≤ X ∧ X ≤ 1152921504606847076 := by have := HX.out; omega
        have hI2 := hI.later hN.below
        obtain ⟨va, vc, hu5⟩ := hN.row.form
        subst hu5
        clear hN
        go_wp2
        go_loop [7, 8] (fun t i => ∃ (k2 : Nat) (B : Bool), k2 ≤ n ∧ i = .int .i64 k2 ∧ t = .bool B ∧ Hid (B = (zs.take k2).contains X)) (fun _ i => n - (intOf i).toNat)
        case atStart => exact ⟨0, false, Nat.zero_le _, rfl, rfl, by show _ = _; simp⟩
        case round =>
          obtain ⟨k2, B, hk2, rfl, rfl, HC⟩ := hrel
          by_cases hlt : k2 < n
          · obtain ⟨x, hx⟩ : ∃ x, zs[k2]? = some x := ⟨_, List.getElem?_eq_getElem (by have := HL.out; omega)⟩
            obtain ⟨g, off, rfl, hgl, c0⟩ := hI2.cells k2 x hx
            have HT := hide (contains_take (y := X) hx)
            clear hx
            cases B with
            | true =>
              have HC2 : Hid (true = (zs.take (k2 + 1)).contains X) := by show _ = _; rw [HT.out, ← HC.out]; rfl
              clear HC HT
              go_wp2
              go_round
              case rel => exact ⟨k2 + 1, true, by omega, by go_num, rfl, HC2⟩
              case measure => simp [intOf]; omega
            | false =>
              have HC2 : Hid ((x == X) = (zs.take (k2 + 1)).contains X) := by show _ = _; rw [HT.out, ← HC.out]; rfl
              clear HC HT
              go_wp2
              go_round
              case rel => exact ⟨k2 + 1, (x == X), by omega, by go_num, rfl, HC2⟩
              case measure => simp [intOf]; omega
          · have HC2 : Hid (B = zs.contains X) := by
              have := HC.out
              rw [List.take_of_length_le (by have := HL.out; omega)] at this
              exact this
            clear HC
            cases B with
            | true =>
              have hmem : f + (k : Int) ∈ zs := by
                rw [← HX.out, ← List.contains_iff_mem, ← HC2.out]
              have HA2 : Hid (∀ j : Nat, j < k + 1 → f + (j : Int) ∈ zs) := fun j hj => by
                rcases Nat.lt_or_ge j k with h | h
                · exact HA.out j h
                · obtain rfl : j = k := by omega
                  exact hmem
              have hk3 : k + 1 ≤ n := by have := run_few HA2.out; have := HL.out; omega
              have HX2 : Hid (X + 1 = f + ((k + 1 : Nat) : Int)) := by have := HX.out; show _ = _; omega
              have HN2 := hide (HN.out.later (below_alloc wr (.cells #[.int .i64 X] 3)))
              have HI1 := hide (Is.new wr [X] (by intro x hx; rw [List.mem_singleton.1 hx]; unfold Num; omega) #[.int .i64 X] rfl)
              have HRS : Hid (runL f (k + 1) = runL f k ++ [X]) := by show _ = _; rw [runL_succ, HX.out]
              have hx1 : k + 1 ≤ maxLen := by unfold maxLen; omega
              have hx2 : (k + 1) * 8 ≤ 140737488355328 := by omega
              clear HC2 hmem HA hI hI2
              go_wp2_with (at_builtin; refine append38 rfl (.tmp 37) (.tmp 39) rfl _ k _ rfl HN2.out.row _ 1 1 [X] rfl HI1.out hx1 hx2 ?_; intro v2 w2 g1 g2 g3; replace g1 := hide g1; replace g2 := hide g2; replace g3 := hide g3)
              have HFF : Hid (NewI W (runL f (k + 1)) (k + 1) w2 v2) := by
                have := HN2.out.grow (m := [X]) (Below.refl _ _) rfl g1.out g2.out g3.out
                rw [← HRS.out] at this
                exact this
              clear g1 g2 g3
              go_roundw
              case rel => exact ⟨k + 1, X + 1, by omega, by go_num, HX2, HA2, HFF.out⟩
              case measure => simp [intOf]; have := HX2.out; omega
            | false =>
              have HR : Hid (RunOk zs f k) := ⟨HA.out, fun e => by
                rw [← HX.out, ← List.contains_iff_mem, ← HC2.out] at e
                cases e⟩
              have hrun := run_any (cap := cap) hI2 (by omega) f HF.out
              clear HC2 HA
              go_wp2_with fail
              refine hrun.mono ?_
              rintro e w3 ⟨v3, rfl, m, hm, hN3⟩
              obtain rfl := hm.uniq HR.out
              obtain ⟨a3, c3, hv3⟩ := hN3.row.form
              subst hv3
              have hnum : ∀ x ∈ runL f m, Num x := fun x hx => by
                obtain ⟨j, hj, rfl⟩ := List.mem_map.1 hx
                have := List.mem_range.1 hj
                unfold Num
                omega
              have hb3 := hN3.below
              have hin := ints_same (c := c3) (d := vc) (hN3.row.is hN3.len hnum) ((HN.out.row.is HN.out.len hnum).later hb3) (by omega)
              have HB3 := hide (HN.out.below.trans (hb3.mono HN.out.below.size))
              clear hrun hm hN3 hb3 HN
              go_wp2_with fail
              refine hin.mono ?_
              rintro e w4 ⟨rfl, hb4⟩
              have HB := hide (HB3.out.trans (hb4.mono HB3.out.size))
              clear hin hb4 HB3
              go_wp2_with fail
              refine (awake_any _ (T.later HB.out)).mono ?_
              rintro e w9 ⟨rfl, hb9⟩
              go_wp2
              go_ret
              exact ⟨rfl, HB.out.trans (hb9.mono HB.out.size)⟩

end Wi
end Go.Proofs.YtnfakgdgjkgekaaDoor
