/- A part of the proofs about package span: what its functions answer, call by call. -/
import Derived.Test.YthbgniclplfpgaaWn
namespace Go.Proofs.Ythbgniclplfpgaa
open Go.RowKit
namespace Sp

theorem Own.sl' {w : World} {v : Value} {xs : List (Int × Int)} (h : Own w v xs) (hf : ∀ x ∈ xs, Fit x) : ∃ a cap, v = .slice a xs.length cap ∧ xs.length ≤ cap ∧ Sl w a xs.length xs := by
  obtain ⟨a, cap, hv, hs⟩ := h.sl hf
  refine ⟨a, cap, hv, ?_, hs⟩
  rcases id h with ⟨_, ⟨hv', hn⟩ | ⟨g, cap', cur, hv', _, _, hnc, _⟩⟩
  · omega
  · rw [hv] at hv'
    simp only [Value.slice.injEq] at hv'
    omega
theorem fit_of_set {xs : List (Int × Int)} (h : setB xs = true) : ∀ x ∈ xs, Fit x := fun x hx => Fit.of_may (by
  have := allB_setB h
  unfold allB at this
  rw [List.all_eq_true] at this
  exact this x hx)

set_option maxHeartbeats 2000000 in
theorem cut_ok (a b : Option Addr) (n m cap cap' : Nat) (xs os : List (Int × Int)) (w : World) (hA : Sl w a n xs) (hB : Sl w b m os) (hx : setB xs = true) (ho : allB os = true) (hlo : os.length ≤ 1000000) :
    Calls Try.prog 26 #[.slice a n cap, .slice b m cap'] w (SetPost (fun i => wi xs i = true ∧ ¬ wi os i = true) w) := by
  have hn := hA.most
  have hn2 := hB.most
  have hr1 := fun W hW => check_ok a n cap xs W hW hx
  have hr2 := fun W hW => join_ok b m cap' os W hW ho hlo
  go_enter Try.func26, Try.ntmps26
  go_wp2_with fail
  refine (hr1 _ hA).mono ?_
  rintro e w1 ⟨rfl, hb1⟩
  go_wp2_with fail
  refine (hr2 _ (hB.later hb1)).mono ?_
  rintro e w2 ⟨vz, zs, rfl, hownz, _, hz, hzmem, hb2⟩
  have hb := hb1.trans (hb2.mono hb1.size)
  obtain ⟨az, capz, rfl, hcapz, hZ⟩ := hownz.sl' (fit_of_set hz)
  have hA2 := hA.later hb
  have HZM := hide hzmem
  clear hb1 hb2 hr1 hr2 hzmem hA hB
  go_wp2
  go_loopw [9, 30] (fun v i wr => ∃ (k : Nat) (ys : List (Int × Int)), k ≤ n ∧ i = .int .i64 k ∧ Own wr v ys ∧ From w2.heap.size v ∧ CO xs zs k ys ∧ Below w2.heap.size w2 wr) (fun _ i _ => n - (intOf i).toNat)
  case atStart => exact ⟨0, [], Nat.zero_le _, rfl, Own.nil _, From.nil _ _ _, CO.start xs zs hx, Below.refl _ _⟩
  case round =>
    obtain ⟨k, ys, hk, rfl, hown, hfrom, hmo, hbr⟩ := hrel
    by_cases hlt : k < n
    · obtain ⟨ba, off, rfl, hbl, c0, c1⟩ := (hA2.later hbr).cells k (by have := hA2.len; omega)
      have HK := hide (show k < xs.length by have := hA2.len; omega)
      have hms := okAt_may (setB_at hx k HK.out)
      have hnear := fun W hW => near_any az zs.length capz zs (nth xs k) W hW hcapz hz hms
      have HX : Hid (∃ s, s = nth xs k) := ⟨_, rfl⟩
      obtain ⟨s, hs⟩ := HX.out
      have HS := hide hs
      rw [← hs] at c0 c1 hnear hms
      have hap := hown.lt wr.heap.size (Nat.le_refl _)
      clear hs HX
      go_wp2_with fail
      refine (hnear _ (hZ.later (hbr.trans ((below_alloc _ _).mono hbr.size)))).mono ?_
      rintro e w3 ⟨f, t, a', cp, hN, rfl, hsl, hb3⟩
      have d0 := box0 hb3
      have d1 := box1 hb3
      have hb4 := box_below hb3
      have hsz : wr.heap.size < w3.heap.size := by have := hb3.size; simp at this; omega
      have hown3 := hown.later hb4
      have hbw := hbr.trans (hb4.mono hbr.size)
      have hslw := hsl w2 hZ
      have hml := hslw.most
      rw [HS.out] at hN
      have bs := mayB_iff.1 hms
      have R0 := hide (hmo.inner hx HK.out f)
      rw [← HS.out] at R0
      clear hnear hb3 hb4 hsl hown c0 c1 hbl hmo
      generalize hg : wr.heap.size = g at *
      clear hg
      go_wp2
      go_loopw [9, 12, 40] (fun v at' i wr => ∃ (j : Nat) (A : Int) (ys : List (Int × Int)), j ≤ t - f ∧ i = .int .i64 j ∧ at' = .int .i64 A ∧ Own wr v ys ∧ From w2.heap.size v ∧ CI xs zs k f j A ys ∧ Below w2.heap.size w2 wr ∧ wr.cell? ⟨g, 0, none⟩ = some (.int .i64 s.1) ∧ wr.cell? ⟨g, 1, none⟩ = some (.int .i64 s.2) ∧ v.ownBlock ≠ some g ∧ g < wr.heap.size) (fun _ _ i _ => (t - f) - (intOf i).toNat)
      case atStart => exact ⟨0, _, ys, Nat.zero_le _, rfl, rfl, hown3, hfrom, R0.out, hbw, d0, d1, hap, hsz⟩
      case round =>
        obtain ⟨j, A, ys2, hj, rfl, rfl, hown, hfrom2, hmi, hbr2, c0, c1, hap2, hg⟩ := hrel
        have hge := hmi.ge
        rw [← HS.out] at hge
        have hlen := set_length hmi.set
        by_cases hlt2 : j < t - f
        · have hlz := hN.len
          obtain ⟨bo, offo, rfl, hbl, e0, e1⟩ := (hslw.later hbr2).cells j (by rw [sub_length hlz]; exact hlt2)
          rw [nth_sub hlz hlt2] at e0 e1
          have hmo2 := okAt_may (setB_at hz (f + j) (by omega))
          have HST := hide (hmi.step hx hz HK.out hN (by omega))
          clear hmi
          generalize nth zs (f + j) = o at *
          have bo' := mayB_iff.1 hmo2
          have hb5 := below_alloc wr (.cells #[.int .i64 o.1, .int .i64 o.2] 27)
          have hownp := hown.later hb5
          have hbw5 := hbr2.trans (hb5.mono hbr2.size)
          have c0p : (wr.alloc (.cells #[.int .i64 o.1, .int .i64 o.2] 27)).cell? ⟨g, 0, none⟩ = some (.int .i64 s.1) := (hb5.cell hg).trans c0
          have c1p : (wr.alloc (.cells #[.int .i64 o.1, .int .i64 o.2] 27)).cell? ⟨g, 1, none⟩ = some (.int .i64 s.2) := (hb5.cell hg).trans c1
          have hapo := hown.lt wr.heap.size (Nat.le_refl _)
          have HE := fun W => end_b o W hmo2
          have hadd := fun W hW => add_any u9 ys2 A o.1 W hW (by omega) (by omega) (by omega)
          go_wp2_with fail
          refine (hadd _ hownp).mono ?_
          rintro e w5 ⟨v', rfl, hown5, hg5, hm5⟩
          have hgp : g < (wr.alloc (.cells #[.int .i64 o.1, .int .i64 o.2] 27)).heap.size := Nat.lt_of_lt_of_le hg hb5.size
          have q0 : w5.cell? ⟨wr.heap.size, 0, none⟩ = some (.int .i64 o.1) := gcell hg5 (by simp) hapo
          have q1 : w5.cell? ⟨wr.heap.size, 1, none⟩ = some (.int .i64 o.2) := gcell hg5 (by simp) hapo
          have R2 := hide (below_grown hbw5 hg5 hbw5.size hfrom2)
          have R3 := hide (hfrom2.moved hm5 hbw5.size)
          have R4 := hide (gcell hg5 c0p hap2)
          have R5 := hide (gcell hg5 c1p hap2)
          have R6 := hide (apart_moved hap2 hm5 hgp)
          have R7 := hide (Nat.lt_of_lt_of_le hgp hg5.size)
          have R8 := hide hown5
          clear hown5 hg5 hm5 c0p c1p hownp hadd e0 e1 c0 c1
          go_wp2_with fail
          refine (HE _).mono ?_
          rintro e w6 ⟨rfl, hb6⟩
          have R24 := hide ((hb6.cell R7.out).trans R4.out)
          have R25 := hide ((hb6.cell R7.out).trans R5.out)
          go_wp2
          go_roundw
          case rel => exact ⟨j + 1, _, _, by omega, by go_num, rfl, R8.out.later hb6, R3.out, HST.out, R2.out.trans (hb6.mono R2.out.size), R24.out, R25.out, R6.out, Nat.lt_of_lt_of_le R7.out hb6.size⟩
          case measure => simp [intOf]; omega
        · have R1 := hide (show CI xs zs k f (t - f) A ys2 by rwa [show t - f = j by omega])
          have R9 := hide (R1.out.done hx hz HK.out hN)
          rw [← HS.out] at R9
          clear hmi R1
          have HE := fun W => end_b s W hms
          go_wp2_with fail
          refine (HE _).mono ?_
          rintro e w5 ⟨rfl, hb5⟩
          have hadd := add_any u9 ys2 A (s.1 + s.2) w5 (hown.later hb5) (by omega) (by omega) (by omega)
          go_wp2_with fail
          refine hadd.mono ?_
          rintro e w6 ⟨v', rfl, hown6, hg6, hm6⟩
          have hbw5 := hbr2.trans (hb5.mono hbr2.size)
          have R2 := hide (below_grown hbw5 hg6 hbw5.size hfrom2)
          have R3 := hide (hfrom2.moved hm6 hbw5.size)
          have R8 := hide hown6
          clear hown6 hg6 hm6 hadd
          go_wp2
          go_roundw
          case rel => exact ⟨k + 1, _, by omega, by go_num, R8.out, R3.out, R9.out, R2.out⟩
          case measure => simp [intOf]; omega
    · have HF := hide (show CO xs zs xs.length ys by have := hA2.len; rwa [show xs.length = k by omega])
      go_wp2
      go_ret2
      exact ⟨_, ys, rfl, hown, fun q hq => Nat.le_trans hb.size (hfrom q hq), HF.out.all.1, fun i => by rw [HF.out.all.2, HZM.out], hb.trans (hbr.mono hb.size)⟩

set_option maxHeartbeats 1000000 in
theorem cut_no (a b : Option Addr) (n m cap cap' : Nat) (xs os : List (Int × Int)) (w : World) (hA : Sl w a n xs) (hB : Sl w b m os) (hx : setB xs = false ∨ allB os = false) :
    Calls Try.prog 26 #[.slice a n cap, .slice b m cap'] w (ErrPost w) := by
  have hn := hA.most
  have hn2 := hB.most
  cases hs : setB xs with
  | false =>
    have hr1 := fun W hW => check_no a n cap xs W hW hs
    clear hx hs
    go_enter Try.func26, Try.ntmps26
    go_wp2_with fail
    refine (hr1 _ hA).mono ?_
    rintro e w1 ⟨rfl, hb1⟩
    go_wp2
    go_ret2
    exact ⟨rfl, hb1⟩
  | true =>
    have hr1 := fun W hW => check_ok a n cap xs W hW hs
    have hr2 := fun W hW => join_no b m cap' os W hW (hx.resolve_left (by rw [hs]; simp))
    clear hx hs
    go_enter Try.func26, Try.ntmps26
    go_wp2_with fail
    refine (hr1 _ hA).mono ?_
    rintro e w1 ⟨rfl, hb1⟩
    go_wp2_with fail
    refine (hr2 _ (hB.later hb1)).mono ?_
    rintro e w2 ⟨rfl, hb2⟩
    go_wp2
    go_ret2
    exact ⟨rfl, hb1.trans (hb2.mono hb1.size)⟩

end Sp
end Go.Proofs.Ythbgniclplfpgaa
