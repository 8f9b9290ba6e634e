/- The law BucketRoom: there are never more bytes than the quota, and what is refused turns nothing. -/
import Derived.Test.YthnhapjjgaicdaaLe
namespace Go.Proofs.Ythnhapjjgaicdaa
open Go.RowKit
namespace Wi

theorem op_at {W w : World} {g off : Nat} {cs : List Value} (hb : Below W.heap.size W w) (hg : g < W.heap.size) (h : W.rangeAt g off cs) : w.rangeAt g off cs := fun j v hv => (hb.cell (p := ⟨g, off + j, none⟩) hg).trans (h j v hv)
set_option maxHeartbeats 8000000 in
set_option maxRecDepth 20000 in
theorem bucketRoom_walk (z : Int) (a : Option Addr) (n cap : Nat) (xs : List OpV) (W : World) (hz : Num z) (hO : Os W a n xs) : Calls Try.prog 6 #[.int .i64 z, .slice a n cap] W fun e w' => e = .returned (.bool true) ∧ Below W.heap.size W w' := by
  have hn := hO.most
  have HL := hide hO.len
  by_cases hz0 : z < 0
  · have hnw := new_neg z hz0 hz W
    go_enter Try.func6, Try.ntmps6
    go_wp2_with fail
    refine hnw.mono ?_
    rintro e w1 ⟨rfl, rfl⟩
    clear hnw
    have hbb := hide (Below.refl w1.heap.size w1)
    go_wp2_with fail
    refine (awake_any _).mono ?_
    rintro e w9 ⟨rfl, hb9⟩
    go_wp2
    go_ret
    exact ⟨rfl, hbb.out.trans (hb9.mono hbb.out.size)⟩
  · obtain ⟨q, rfl⟩ : ∃ q : Nat, z = q := ⟨z.toNat, by omega⟩
    obtain ⟨_, hz2⟩ := hz
    clear hz0
    have hnw := new_any q (by omega) W
    by_cases h1 : 1000 < q
    · skip
      go_enter Try.func6, Try.ntmps6
      go_wp2_with fail
      refine hnw.mono ?_
      rintro e w1 ⟨rfl, hN, hb1⟩
      have hbb := hide hb1
      clear hN hb1 hnw
      go_wp2_with fail
      refine (awake_any _).mono ?_
      rintro e w9 ⟨rfl, hb9⟩
      go_wp2
      go_ret
      exact ⟨rfl, hbb.out.trans (hb9.mono hbb.out.size)⟩
    · cases hB : fewB xs with
      | false =>
        go_enter Try.func6, Try.ntmps6
        go_wp2_with fail
        refine hnw.mono ?_
        rintro e w1 ⟨rfl, hN, hb1⟩
        have hfw := few_any (cap := cap) (hO.later hb1)
        rw [hB] at hfw
        have hbb := hide hb1
        clear hN hb1 hnw
        go_wp2_with fail
        refine hfw.mono ?_
        rintro e w' ⟨rfl, rfl⟩
        clear hfw
        go_wp2_with fail
        refine (awake_any _).mono ?_
        rintro e w9 ⟨rfl, hb9⟩
        go_wp2
        go_ret
        exact ⟨rfl, hbb.out.trans (hb9.mono hbb.out.size)⟩
      | true =>
        obtain ⟨hgood, h60⟩ := fewB_iff.1 hB
        have HG := hide hgood
        clear hgood
        go_enter Try.func6, Try.ntmps6
        go_wp2_with fail
        refine hnw.mono ?_
        rintro e w1 ⟨rfl, hN, hb1⟩
        have hfw := few_any (cap := cap) (hO.later hb1)
        rw [hB] at hfw
        have hM : Mine W w1 (bkT W.heap.size (bk0 q)) := let ⟨X, h1, h2⟩ := hN; ⟨X, h1, h2, hb1⟩
        clear hN hb1 hnw
        go_wp2_with fail
        refine hfw.mono ?_
        rintro e w' ⟨rfl, rfl⟩
        clear hfw
        have HM := hide hM
        clear hM
        go_wp2
        go_loopw [7] (fun i wr => ∃ (k : Nat) (d : Bk), k ≤ n ∧ i = .int .i64 k ∧ Mine W wr (bkT W.heap.size d) ∧ Fine k d ∧ Hid (d.quota = q)) (fun i _ => n - (intOf i).toNat)
        case atStart => exact ⟨0, _, Nat.zero_le _, rfl, HM.out, fine_start (by omega), rfl⟩
        case round =>
          clear HM
          obtain ⟨k, d, hk, rfl, hM, hS, HQ⟩ := hrel
          have HS := hide hS
          have s1 := hS.few
          have s2 := hS.fates
          have s3 : total d.objs ≤ q := HQ.out ▸ hS.ok.room
          clear hS
          by_cases hlt : k < n
          · obtain ⟨o, ho⟩ : ∃ o, xs[k]? = some o := ⟨_, List.getElem?_eq_getElem (by have := HL.out; omega)⟩
            have hmem := List.mem_of_getElem? ho
            have hgd := HG.out o hmem
            have hok := hO.ok o hmem
            have hk60 : k < 60 := by have := HL.out; omega
            obtain ⟨g, off, rfl, hgl, hrg⟩ := hO.cells k o ho
            clear ho hmem
            obtain ⟨X, hT, hX, _⟩ := hM.go1
            have hu := used_any hT
            have hnm := names_any hT (by omega) HS.out.sizes
            have HMM := hide hM
            clear hT hX hM
            go_wp2_with fail
            refine hu.mono ?_
            rintro e w' ⟨rfl, hww⟩
            subst hww
            clear hu
            go_wp2_with fail
            refine hnm.mono ?_
            rintro e w2 ⟨v2, rfl, hN2⟩
            have hf2 := hN2.row.form
            rw [List.length_map] at hf2
            obtain ⟨a2, cap2, rfl⟩ := hf2
            have hM2 := HMM.out.later (bkT_good _ _) hN2.below
            clear HMM hnm hN2
            obtain ⟨c0, c1, c2, c3, c4, c5⟩ := op_cells (op_at hM2.below hgl hrg)
            obtain ⟨X2, hT2, hX2, hgo⟩ := hM2.go1
            have hc := does_any hT2 (by omega) (by omega) HS.out.sizes o (hok.to hM2.below hX2) (by unfold badO at hgd; omega)
            have HS2 := hide (HS.out.step hok hgd)
            have HQ2 : Hid ((d.step o).quota = q) := (step_quota d o).trans HQ.out
            have HREF := hide (fun h => step_refused (d := d) (o := o) h)
            have HFULL := hide (fun h => step_full (d := d) (o := o) h)
            have t1 := HS2.out.few
            have tU : total (d.step o).objs ≤ q := HQ2.out ▸ HS2.out.ok.room
            rw [HQ.out] at HFULL
            obtain ⟨ask, name, data, pl, nn, la, ln, lc, l⟩ := o
            unfold OpV.cells at *
            simp only at *
            have hdz : data.size ≤ 9223372036854775807 := hok.data
            have hdz2 : data.size ≤ 300 ∨ 65536 < data.size := by unfold badO at hgd; simp only at hgd; omega
            clear hok hgd HS HQ
            generalize d.step ⟨ask, name, data, pl, nn, la, ln, lc, l⟩ = d' at *
            generalize d.stepE ⟨ask, name, data, pl, nn, la, ln, lc, l⟩ = E at *
            generalize d.stepS ⟨ask, name, data, pl, nn, la, ln, lc, l⟩ = S at *
            generalize d.stepN ⟨ask, name, data, pl, nn, la, ln, lc, l⟩ = N at *
            go_wp2_with fail
            refine hc.mono ?_
            rintro e w3 ⟨v, rfl, hd⟩
            obtain ⟨va, vn, vc, rfl⟩ : ∃ va vn vc, v = .slice va vn vc := by
              obtain ⟨_, _, _, _, hr, _⟩ := hd
              obtain ⟨a, c, h⟩ := hr.form
              exact ⟨a, _, c, h⟩
            have hM3 := hgo hd.left
            clear hc hd hgo hM2 hT2 hX2 c0 c1 c2 c3 c4 c5
            by_cases g33 : E = 33
            · subst g33
              have hM4 := hM3.later (bkT_good _ _) (below_alloc w3 (.cells #[.string S, .int .i64 (N : Nat), .slice va vn vc, .int .i64 33] 38))
              clear hM3
              obtain ⟨X4, hT4, hX4, _⟩ := hM4.go1
              have hu4 := used_any hT4
              have HOB := hide (HREF.out (by unfold refused; omega))
              rw [HOB.out] at hu4 tU
              obtain ⟨hfull, hsm⟩ := HFULL.out rfl
              clear HREF HFULL
              have HM4 := hide hM4
              clear hM4
              go_wp2_with fail
              refine hu4.mono ?_
              rintro e w' ⟨rfl, hww⟩
              subst hww
              go_wp2_with fail
              refine hu4.mono ?_
              rintro e w' ⟨rfl, hww⟩
              subst hww
              have hn4 := names_any hT4 (by omega) HS2.out.sizes
              rw [HOB.out] at hn4
              go_wp2_with fail
              refine hu4.mono ?_
              rintro e w' ⟨rfl, hww⟩
              subst hww
              clear hu4
              go_wp2_with fail
              refine hn4.mono ?_
              rintro e w5 ⟨v5, rfl, hN5⟩
              have hf5 := hN5.row.form
              rw [List.length_map] at hf5
              obtain ⟨a5, cap5, rfl⟩ := hf5
              have HM5 := hide (HM4.out.later (bkT_good _ _) hN5.below)
              have hcE := (hN5.below.cell (p := ⟨w3.heap.size, 3, none⟩) (by simp)).trans (show (w3.alloc (.cells #[.string S, .int .i64 (N : Nat), .slice va vn vc, .int .i64 33] 38)).cell? ⟨w3.heap.size, 3, none⟩ = some (.int .i64 33) by simp)
              have c2q := (op_at HM5.out.below hgl hrg) 2 _ rfl
              clear hn4 hT4 hN5
              go_wp2
              go_roundw
              case rel => exact ⟨k + 1, _, by omega, by go_num, HM5.out, HS2.out, HQ2⟩
              case measure => simp [intOf]; omega
            · skip
              by_cases g16 : E = 16
              · subst g16
                have hM4 := hM3.later (bkT_good _ _) (below_alloc w3 (.cells #[.string S, .int .i64 (N : Nat), .slice va vn vc, .int .i64 16] 38))
                clear hM3
                obtain ⟨X4, hT4, hX4, _⟩ := hM4.go1
                have hu4 := used_any hT4
                have HOB := hide (HREF.out (by unfold refused; omega))
                rw [HOB.out] at hu4 tU
                clear HREF HFULL
                have HM4 := hide hM4
                clear hM4
                go_wp2_with fail
                refine hu4.mono ?_
                rintro e w' ⟨rfl, hww⟩
                subst hww
                go_wp2_with fail
                refine hu4.mono ?_
                rintro e w' ⟨rfl, hww⟩
                subst hww
                have hn4 := names_any hT4 (by omega) HS2.out.sizes
                rw [HOB.out] at hn4
                go_wp2_with fail
                refine hu4.mono ?_
                rintro e w' ⟨rfl, hww⟩
                subst hww
                clear hu4
                go_wp2_with fail
                refine hn4.mono ?_
                rintro e w5 ⟨v5, rfl, hN5⟩
                have hf5 := hN5.row.form
                rw [List.length_map] at hf5
                obtain ⟨a5, cap5, rfl⟩ := hf5
                have HM5 := hide (HM4.out.later (bkT_good _ _) hN5.below)
                have hcE := (hN5.below.cell (p := ⟨w3.heap.size, 3, none⟩) (by simp)).trans (show (w3.alloc (.cells #[.string S, .int .i64 (N : Nat), .slice va vn vc, .int .i64 16] 38)).cell? ⟨w3.heap.size, 3, none⟩ = some (.int .i64 16) by simp)
                have c2q := (op_at HM5.out.below hgl hrg) 2 _ rfl
                clear hn4 hT4 hN5
                go_wp2
                go_roundw
                case rel => exact ⟨k + 1, _, by omega, by go_num, HM5.out, HS2.out, HQ2⟩
                case measure => simp [intOf]; omega
              · skip
                by_cases g15 : E = 15
                · subst g15
                  have hM4 := hM3.later (bkT_good _ _) (below_alloc w3 (.cells #[.string S, .int .i64 (N : Nat), .slice va vn vc, .int .i64 15] 38))
                  clear hM3
                  obtain ⟨X4, hT4, hX4, _⟩ := hM4.go1
                  have hu4 := used_any hT4
                  have HOB := hide (HREF.out (by unfold refused; omega))
                  rw [HOB.out] at hu4 tU
                  clear HREF HFULL
                  have HM4 := hide hM4
                  clear hM4
                  go_wp2_with fail
                  refine hu4.mono ?_
                  rintro e w' ⟨rfl, hww⟩
                  subst hww
                  go_wp2_with fail
                  refine hu4.mono ?_
                  rintro e w' ⟨rfl, hww⟩
                  subst hww
                  have hn4 := names_any hT4 (by omega) HS2.out.sizes
                  rw [HOB.out] at hn4
                  go_wp2_with fail
                  refine hu4.mono ?_
                  rintro e w' ⟨rfl, hww⟩
                  subst hww
                  clear hu4
                  go_wp2_with fail
                  refine hn4.mono ?_
                  rintro e w5 ⟨v5, rfl, hN5⟩
                  have hf5 := hN5.row.form
                  rw [List.length_map] at hf5
                  obtain ⟨a5, cap5, rfl⟩ := hf5
                  have HM5 := hide (HM4.out.later (bkT_good _ _) hN5.below)
                  have hcE := (hN5.below.cell (p := ⟨w3.heap.size, 3, none⟩) (by simp)).trans (show (w3.alloc (.cells #[.string S, .int .i64 (N : Nat), .slice va vn vc, .int .i64 15] 38)).cell? ⟨w3.heap.size, 3, none⟩ = some (.int .i64 15) by simp)
                  have c2q := (op_at HM5.out.below hgl hrg) 2 _ rfl
                  clear hn4 hT4 hN5
                  go_wp2
                  go_roundw
                  case rel => exact ⟨k + 1, _, by omega, by go_num, HM5.out, HS2.out, HQ2⟩
                  case measure => simp [intOf]; omega
                · skip
                  by_cases g01 : E = 1
                  · subst g01
                    have hM4 := hM3.later (bkT_good _ _) (below_alloc w3 (.cells #[.string S, .int .i64 (N : Nat), .slice va vn vc, .int .i64 1] 38))
                    clear hM3
                    obtain ⟨X4, hT4, hX4, _⟩ := hM4.go1
                    have hu4 := used_any hT4
                    have HOB := hide (HREF.out (by unfold refused; omega))
                    rw [HOB.out] at hu4 tU
                    clear HREF HFULL
                    have HM4 := hide hM4
                    clear hM4
                    go_wp2_with fail
                    refine hu4.mono ?_
                    rintro e w' ⟨rfl, hww⟩
                    subst hww
                    go_wp2_with fail
                    refine hu4.mono ?_
                    rintro e w' ⟨rfl, hww⟩
                    subst hww
                    have hn4 := names_any hT4 (by omega) HS2.out.sizes
                    rw [HOB.out] at hn4
                    go_wp2_with fail
                    refine hu4.mono ?_
                    rintro e w' ⟨rfl, hww⟩
                    subst hww
                    clear hu4
                    go_wp2_with fail
                    refine hn4.mono ?_
                    rintro e w5 ⟨v5, rfl, hN5⟩
                    have hf5 := hN5.row.form
                    rw [List.length_map] at hf5
                    obtain ⟨a5, cap5, rfl⟩ := hf5
                    have HM5 := hide (HM4.out.later (bkT_good _ _) hN5.below)
                    have hcE := (hN5.below.cell (p := ⟨w3.heap.size, 3, none⟩) (by simp)).trans (show (w3.alloc (.cells #[.string S, .int .i64 (N : Nat), .slice va vn vc, .int .i64 1] 38)).cell? ⟨w3.heap.size, 3, none⟩ = some (.int .i64 1) by simp)
                    have c2q := (op_at HM5.out.below hgl hrg) 2 _ rfl
                    clear hn4 hT4 hN5
                    go_wp2
                    go_roundw
                    case rel => exact ⟨k + 1, _, by omega, by go_num, HM5.out, HS2.out, HQ2⟩
                    case measure => simp [intOf]; omega
                  · skip
                    by_cases g31 : E = 31
                    · subst g31
                      have hM4 := hM3.later (bkT_good _ _) (below_alloc w3 (.cells #[.string S, .int .i64 (N : Nat), .slice va vn vc, .int .i64 31] 38))
                      clear hM3
                      obtain ⟨X4, hT4, hX4, _⟩ := hM4.go1
                      have hu4 := used_any hT4
                      have HOB := hide (HREF.out (by unfold refused; omega))
                      rw [HOB.out] at hu4 tU
                      clear HREF HFULL
                      have HM4 := hide hM4
                      clear hM4
                      go_wp2_with fail
                      refine hu4.mono ?_
                      rintro e w' ⟨rfl, hww⟩
                      subst hww
                      go_wp2_with fail
                      refine hu4.mono ?_
                      rintro e w' ⟨rfl, hww⟩
                      subst hww
                      have hn4 := names_any hT4 (by omega) HS2.out.sizes
                      rw [HOB.out] at hn4
                      go_wp2_with fail
                      refine hu4.mono ?_
                      rintro e w' ⟨rfl, hww⟩
                      subst hww
                      clear hu4
                      go_wp2_with fail
                      refine hn4.mono ?_
                      rintro e w5 ⟨v5, rfl, hN5⟩
                      have hf5 := hN5.row.form
                      rw [List.length_map] at hf5
                      obtain ⟨a5, cap5, rfl⟩ := hf5
                      have HM5 := hide (HM4.out.later (bkT_good _ _) hN5.below)
                      have hcE := (hN5.below.cell (p := ⟨w3.heap.size, 3, none⟩) (by simp)).trans (show (w3.alloc (.cells #[.string S, .int .i64 (N : Nat), .slice va vn vc, .int .i64 31] 38)).cell? ⟨w3.heap.size, 3, none⟩ = some (.int .i64 31) by simp)
                      have c2q := (op_at HM5.out.below hgl hrg) 2 _ rfl
                      clear hn4 hT4 hN5
                      go_wp2
                      go_roundw
                      case rel => exact ⟨k + 1, _, by omega, by go_num, HM5.out, HS2.out, HQ2⟩
                      case measure => simp [intOf]; omega
                    · skip
                      have hM4 := hM3.later (bkT_good _ _) (below_alloc w3 (.cells #[.string S, .int .i64 (N : Nat), .slice va vn vc, .int .i64 E] 38))
                      clear hM3
                      obtain ⟨X4, hT4, hX4, _⟩ := hM4.go1
                      have hu4 := used_any hT4
                      have v33 : (E == 33) = false := by rw [beq_eq_false_iff_ne]; exact g33
                      have v16 : (E == 16) = false := by rw [beq_eq_false_iff_ne]; exact g16
                      have v15 : (E == 15) = false := by rw [beq_eq_false_iff_ne]; exact g15
                      have v01 : (E == 1) = false := by rw [beq_eq_false_iff_ne]; exact g01
                      have v31 : (E == 31) = false := by rw [beq_eq_false_iff_ne]; exact g31
                      clear HREF HFULL
                      have HM4 := hide hM4
                      clear hM4
                      go_wp2_with fail
                      refine hu4.mono ?_
                      rintro e w' ⟨rfl, hww⟩
                      subst hww
                      go_wp2_with fail
                      refine hu4.mono ?_
                      rintro e w' ⟨rfl, hww⟩
                      subst hww
                      clear hu4 hT4
                      go_wp2
                      go_roundw
                      case rel => exact ⟨k + 1, _, by omega, by go_num, HM4.out, HS2.out, HQ2⟩
                      case measure => simp [intOf]; omega
          · obtain rfl : k = n := by omega
            have hbb := hide hM.below
            clear hM hlt
            go_wp2_with fail
            refine (awake_any _).mono ?_
            rintro e w9 ⟨rfl, hb9⟩
            go_wp2
            go_ret
            exact ⟨rfl, hbb.out.trans (hb9.mono hbb.out.size)⟩

end Wi
end Go.Proofs.Ythnhapjjgaicdaa
