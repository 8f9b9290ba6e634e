/- The law BucketPlays: what each call answers, and which objects there are, call by call. -/
import Derived.Test.YthnhapjjgaicdaaRj
import Derived.Test.YthnhapjjgaicdaaLg
namespace Go.Proofs.Ythnhapjjgaicdaa
open Go.RowKit
namespace Wi

theorem op_at5 {W w : World} {g off : Nat} {cs : List Value} (hb : Below W.heap.size W w) (hg : g < W.heap.size) (h : W.rangeAt g off cs) : w.rangeAt g off cs := fun j v hv => (hb.cell (p := ⟨g, off + j, none⟩) hg).trans (h j v hv)
theorem ref_new (w : World) (q : Nat) (hq : q ≤ 9223372036854775807) : ∃ X, refT w.heap.size (bk0 q) (w.alloc (.cells #[.slice none 0 0, .int .i64 (q : Nat), .slice none 0 0, .slice none 0 0] 34)) X ∧ ∀ k, X k → w.heap.size ≤ k := by
  refine ⟨xB w.heap.size (.slice none 0 0) (.slice none 0 0) (.slice none 0 0), ⟨_, _, _, [], ⟨heap_alloc_new w _, Rw.nil _ _ _, Rw.nil _ _ _, Rw.nil _ _ _, by simp [Value.ownBlock], by simp [Value.ownBlock], by simp [Value.ownBlock], by simp [Value.ownBlock], by simp [Value.ownBlock], by simp [Value.ownBlock]⟩, rfl, by simp, bk0_ok hq, rfl⟩, fun k hk => ?_⟩
  rcases hk with e | e | e | e
  · omega
  all_goals simp [Value.ownBlock] at e
theorem Fd.start (q : Nat) : Fd (bk0 q) := by simp [Fd, bk0]
set_option maxHeartbeats 8000000 in
set_option maxRecDepth 20000 in
theorem bucketPlays_walk (z : Int) (a : Option Addr) (n cap : Nat) (xs : List OpV) (W : World) (hz : Num z) (hO : Os W a n xs) : Calls Try.prog 3 #[.int .i64 z, .slice a n cap] W fun e w' => e = .returned (.bool true) ∧ Below W.heap.size W w' := by
  have hn := hO.most
  have HL := hide hO.len
  have hfw := few_any (cap := cap) hO
  cases hB : fewB xs with
  | false =>
    rw [hB] at hfw
    go_enter Try.func3, Try.ntmps3
    go_wp2_with fail
    refine hfw.mono ?_
    rintro e w' ⟨rfl, rfl⟩
    clear hfw
    go_wp2_with fail
    refine (awake_any _).mono ?_
    rintro e w9 ⟨rfl, hb9⟩
    go_wp2
    go_ret
    exact ⟨rfl, hb9⟩
  | true =>
    rw [hB] at hfw
    obtain ⟨hgood, h60⟩ := fewB_iff.1 hB
    have HG := hide hgood
    clear hgood hB
    by_cases hz0 : z < 0
    · have hnw := new_neg z hz0 hz W
      obtain ⟨z1, z2⟩ := hz
      go_enter Try.func3, Try.ntmps3
      go_wp2_with fail
      refine hfw.mono ?_
      rintro e w' ⟨rfl, hww⟩
      subst hww
      clear hfw
      go_wp2_with fail
      refine hnw.mono ?_
      rintro e w1 ⟨rfl, hww⟩
      subst hww
      clear hnw
      go_wp2_with fail
      refine (awake_any _).mono ?_
      rintro e w9 ⟨rfl, hb9⟩
      go_wp2
      go_ret
      exact ⟨rfl, hb9⟩
    · obtain ⟨q, rfl⟩ : ∃ q : Nat, z = q := ⟨z.toNat, by omega⟩
      obtain ⟨_, hz2⟩ := hz
      have hq : q ≤ 9223372036854775807 := by omega
      clear hz0
      have hnw := new_any q hq W
      go_enter Try.func3, Try.ntmps3
      go_wp2_with fail
      refine hfw.mono ?_
      rintro e w' ⟨rfl, hww⟩
      subst hww
      clear hfw
      go_wp2_with fail
      refine hnw.mono ?_
      rintro e w1 ⟨rfl, hN, hb1⟩
      have hM : Mine w' w1 (bkT w'.heap.size (bk0 q)) := let ⟨X, h1, h2⟩ := hN; ⟨X, h1, h2, hb1⟩
      have hS : S3 w' w'.heap.size w1.heap.size (bk0 q) (w1.alloc (.cells #[.slice none 0 0, .int .i64 (q : Nat), .slice none 0 0, .slice none 0 0] 34)) := (hM.new (bkT_good _ _) (below_alloc _ _) (ref_new w1 q hq)).swap
      have HS := hide hS
      clear hN hb1 hnw hM hS
      go_wp2
      generalize w1.heap.size = rb at *
      go_loopw [8] (fun i wr => ∃ (k : Nat) (d : Bk), k ≤ n ∧ i = .int .i64 k ∧ S3 w' w'.heap.size rb d wr ∧ Fine k d ∧ Fd d) (fun i _ => n - (intOf i).toNat)
      case atStart => exact ⟨0, bk0 q, Nat.zero_le _, rfl, HS.out, fine_start hq, Fd.start q⟩
      case round =>
        clear HS
        obtain ⟨k, d, hk, rfl, hM, hF, hD⟩ := hrel
        by_cases hlt : k < n
        · obtain ⟨o, ho⟩ : ∃ o, xs[k]? = some o := ⟨_, List.getElem?_eq_getElem (by have := HL.out; omega)⟩
          have hmem := List.mem_of_getElem? ho
          have hgd := HG.out o hmem
          have hok := hO.ok o hmem
          have hk60 : k < 60 := by have := HL.out; omega
          obtain ⟨g, off, rfl, hgl, hrg⟩ := hO.cells k o ho
          clear ho hmem
          have hSL := stepL_few d o
          have hfw := hF.few
          obtain ⟨NL, hNL⟩ : ∃ NL, (d.stepL o).length = NL := ⟨_, rfl⟩
          rw [hNL] at hSL
          have HF' := hide (hF.step hok hgd)
          have HD' := hide (hD.step hF.ok o)
          have hMd : S3 w' w'.heap.size rb d wr.drew := hM.later (Below.refl _ _).drew
          have HC1 := hide (go_does hMd hF (by omega) hok hgd hNL)
          have HC2 : Hid (∀ va vc w4, S1 w' w'.heap.size rb d (d.step o) (d.stepL o) NL va vc w4 → _) := fun va vc w4 h => go_asked h hF hD (by omega) hok hgd hNL
          have HC3 : Hid (∀ va vc ua uc w5, S2 w' w'.heap.size rb (d.step o) (d.stepL o) NL va vc ua uc w5 → _) := fun va vc ua uc w5 h => go_same h hNL (by omega) (d.stepS o) (d.stepN o : Nat) (d.stepE o)
          have HC4 : Hid (∀ w6, S3 w' w'.heap.size rb (d.step o) w6 → _) := fun w6 h => go_Same h HF'.out HD'.out (by omega)
          have HCE : Hid (∀ va vc w4, S1 w' w'.heap.size rb d (d.step o) (d.stepL o) NL va vc w4 → _) := fun va vc w4 h => op_cells (op_at5 h.below hgl hrg)
          obtain ⟨c0, c1, c2, c3, c4, c5⟩ := op_cells (op_at5 hM.below hgl hrg)
          obtain ⟨ask, name, data, pl, nn, la, ln, lc, l⟩ := o
          unfold OpV.cells at *
          simp only at *
          clear hok hgd hrg hM hMd hF hD hNL
          generalize d.step ⟨ask, name, data, pl, nn, la, ln, lc, l⟩ = d' at *
          generalize d.stepL ⟨ask, name, data, pl, nn, la, ln, lc, l⟩ = L at *
          generalize d.stepE ⟨ask, name, data, pl, nn, la, ln, lc, l⟩ = E at *
          generalize d.stepS ⟨ask, name, data, pl, nn, la, ln, lc, l⟩ = S at *
          generalize d.stepN ⟨ask, name, data, pl, nn, la, ln, lc, l⟩ = N at *
          go_wp2
          go_region_law (first | (refine step_got (by simp [Region.wanted]) 15 _ (by simp [go_sem]) HC1.out ?_; intro va vc w4 hs1; obtain ⟨p0, p1, p2, p3, p4, p5⟩ := HCE.out _ _ _ hs1; replace hs1 := hide hs1) | (refine step_got (by simp [Region.wanted]) 16 _ (by simp [go_sem]) (HC2.out _ _ _ hs1.out) ?_; intro ua uc w5 hs2; replace hs2 := hide hs2) | (refine step_val (by simp [Region.wanted]) 14 _ (by simp [go_sem]) (HC3.out _ _ _ _ _ hs2.out) ?_; intro w6 hs3; replace hs3 := hide hs3) | (refine step_val (by go_simp) 17 _ (by simp [go_sem]) (HC4.out _ hs3.out) ?_; intro w7 hs4; replace hs4 := hide hs4))
          all_goals
            clear HC1 HC2 HC3 HC4 HCE hs1 hs2 hs3 p0 p1 p2 p3 p4 p5 c0 c1 c2 c3 c4 c5
            go_wp2
            go_roundw
            case rel => exact ⟨k + 1, d', by omega, by go_num, hs4.out, HF'.out, HD'.out⟩
            case measure => simp [intOf]; omega
        · obtain rfl : k = n := by omega
          have hbb := hide hM.below
          clear hM hlt hF hD
          go_wp2_with fail
          refine (awake_any _).mono ?_
          rintro e w9 ⟨rfl, hb9⟩
          go_wp2
          go_ret
          exact ⟨rfl, hbb.out.trans (hb9.mono hbb.out.size)⟩

end Wi
end Go.Proofs.Ythnhapjjgaicdaa
