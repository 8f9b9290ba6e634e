/- A part of the proofs about package span: what its functions answer, call by call. -/
import Derived.Test.YthbgniclplfpgaaLk
namespace Go.Proofs.Ythbgniclplfpgaa
open Go.RowKit
namespace Sp

theorem idx_ok (t : Int) (n : Nat) (h : 0 < n) (h' : n ≤ 1000) : ∃ i : Nat, i < n ∧ (wrap64 (t.tmod n + n)).tmod n = (i : Int) := by
  have h1 := Int.tmod_lt_of_pos t (show (0 : Int) < n by omega)
  have h2 : -(n : Int) < t.tmod n := by
    have := Int.tmod_lt_of_pos (-t) (show (0 : Int) < n by omega)
    rw [Int.neg_tmod] at this
    omega
  have e : wrap64 (t.tmod n + n) = t.tmod n + n := by unfold wrap64; omega
  rw [e]
  have h3 := Int.tmod_nonneg (n : Int) (show 0 ≤ t.tmod n + n by omega)
  have h4 := Int.tmod_lt_of_pos (t.tmod n + n) (show (0 : Int) < n by omega)
  exact ⟨((t.tmod n + n).tmod n).toNat, by omega, by omega⟩
theorem Own.form {w : World} {v : Value} {xs : List (Int × Int)} (h : Own w v xs) (hl : 0 < xs.length) : ∃ g cap, v = .slice (some ⟨g, 0, none⟩) xs.length cap ∧ g < w.heap.size ∧ ∀ i, i < xs.length → w.cell? ⟨g, i * 2, none⟩ = some (.int .i64 (nth xs i).1) ∧ w.cell? ⟨g, i * 2 + 1, none⟩ = some (.int .i64 (nth xs i).2) ∧ w.frozen? ⟨g, i * 2, none⟩ = false ∧ w.frozen? ⟨g, i * 2 + 1, none⟩ = false := by
  rcases id h with ⟨_, ⟨_, hn⟩ | ⟨g, cap, cur, hv, _, hg, _⟩⟩
  · omega
  · refine ⟨g, cap, hv, (Array.getElem?_eq_some_iff.1 hg).1, fun i hi => ?_⟩
    unfold Own at h
    rw [hv] at h
    refine ⟨?_, ?_, h.frozenAt _, h.frozenAt _⟩
    · rw [h.cellAt _ (by omega), enc2_get0 _ _ hi]
    · rw [h.cellAt _ (by omega), enc2_get1 _ _ hi]

theorem enc2_setAt : ∀ (xs : List (Int × Int)) (i : Nat) (y : Int × Int), ((enc2 xs).set (i * 2) (.int .i64 y.1)).set (i * 2 + 1) (.int .i64 y.2) = enc2 (xs.set i y)
  | [], i, y => by simp [enc2]
  | x :: r, 0, y => by simp [enc2]
  | x :: r, i + 1, y => by
    have := enc2_setAt r i y
    rw [show (i + 1) * 2 = i * 2 + 2 by omega, show i * 2 + 2 + 1 = i * 2 + 1 + 2 by omega]
    simp [enc2, this]
theorem Own.setAt {w : World} {g cap n : Nat} {xs : List (Int × Int)} (hn : n = xs.length) (h : Own w (.slice (some ⟨g, 0, none⟩) n cap) xs) (i : Nat) (y : Int × Int) :
    Own ((w.setCell ⟨g, i * 2, none⟩ (.int .i64 y.1)).setCell ⟨g, i * 2 + 1, none⟩ (.int .i64 y.2)) (.slice (some ⟨g, 0, none⟩) n cap) (xs.set i y) ∧ w.grownBy ((w.setCell ⟨g, i * 2, none⟩ (.int .i64 y.1)).setCell ⟨g, i * 2 + 1, none⟩ (.int .i64 y.2)) (some g) := by
  subst hn
  have h1 := World.ownsRow.stored h (i * 2) (.int .i64 y.1)
  have h2 := World.ownsRow.stored h1.1 (i * 2 + 1) (.int .i64 y.2)
  rw [enc2_setAt] at h2
  refine ⟨by unfold Own; simpa using h2.1, ?_⟩
  exact grownBy_trans (v := .slice (some ⟨g, 0, none⟩) xs.length cap) (v' := .slice (some ⟨g, 0, none⟩) xs.length cap) h1.2 h2.2 (Moved.refl _ _)
/-- Two places changed for one another. -/
def swapL (xs : List (Int × Int)) (i k : Nat) : List (Int × Int) := (xs.set i (nth xs k)).set k (nth xs i)
theorem swapL_length (xs : List (Int × Int)) (i k : Nat) : (swapL xs i k).length = xs.length := by simp [swapL]
theorem nth_set {xs : List (Int × Int)} {i j : Nat} {y : Int × Int} (hj : j < xs.length) : nth (xs.set i y) j = if i = j then y else nth xs j := by
  rw [nth_eq (by simpa using hj), nth_eq hj, List.getElem_set]
theorem nth_swapL {xs : List (Int × Int)} {i k j : Nat} (hj : j < xs.length) : nth (swapL xs i k) j = if k = j then nth xs i else if i = j then nth xs k else nth xs j := by
  unfold swapL
  rw [nth_set (by simpa using hj), nth_set hj]
theorem swapL_wi {xs : List (Int × Int)} {i k : Nat} (hi : i < xs.length) (hk : k < xs.length) (z : Int) : wi (swapL xs i k) z = true ↔ wi xs z = true := by
  rw [wi_iff, wi_iff]
  constructor
  · rintro ⟨j, hj, hh⟩
    rw [swapL_length] at hj
    rw [nth_swapL hj] at hh
    split at hh
    · exact ⟨i, hi, hh⟩
    · split at hh
      · exact ⟨k, hk, hh⟩
      · exact ⟨j, hj, hh⟩
  · rintro ⟨j, hj, hh⟩
    by_cases h1 : j = i
    · refine ⟨k, by rw [swapL_length]; exact hk, ?_⟩
      rw [nth_swapL hk, if_pos rfl, ← h1]; exact hh
    · by_cases h2 : j = k
      · refine ⟨i, by rw [swapL_length]; exact hi, ?_⟩
        rw [nth_swapL hi]
        by_cases h3 : k = i
        · omega
        · rw [if_neg h3, if_pos rfl, ← h2]; exact hh
      · refine ⟨j, by rw [swapL_length]; exact hj, ?_⟩
        rw [nth_swapL hj, if_neg (Ne.symm h2), if_neg (Ne.symm h1)]; exact hh
theorem swapL_all {xs : List (Int × Int)} {i k : Nat} (hi : i < xs.length) (hk : k < xs.length) (h : allB xs = true) : allB (swapL xs i k) = true := allB_of fun j hj => by
  rw [swapL_length] at hj
  rw [nth_swapL hj]
  split
  · exact allB_at h hi
  · split
    · exact allB_at h hk
    · exact allB_at h hj

set_option maxRecDepth 100000 in
set_option maxHeartbeats 8000000 in
theorem spanOrder_walk (a : Option Addr) (n cap : Nat) (xs : List (Int × Int)) (s : Int × Int) (w : World) (hA : Sl w a n xs) (hca : Cap a n cap) (_hf : Fit s) :
    Calls Try.prog 8 #[.slice a n cap, .agg #[.int .i64 s.1, .int .i64 s.2]] w fun e w' => e = .returned (.bool true) ∧ Below w.heap.size w w' := by
  have hn := hA.most
  have haw := awake_any
  have hr1 := fun W hW => all_any a n cap xs W hW
  cases hx : allB xs with
  | false =>
    rw [hx] at hr1
    clear hx
    go_enter Try.func8, Try.ntmps8
    have hb0 := below_alloc w (.cells #[.int .i64 s.1, .int .i64 s.2] 47)
    replace hA := hA.later hb0
    have BB := hb0
    clear hb0
    have bx : Bx (w.alloc (.cells #[.int .i64 s.1, .int .i64 s.2] 47)) w.heap.size s := ⟨by simp, by simp, by simp⟩
    have bs := bx
    have bsc0 := bs.c0
    have bsc1 := bs.c1
    clear bx
    go_wp2_with fail
    refine (hr1 _ hA).mono ?_
    rintro e wv1 ⟨rfl, hv1⟩
    replace hA := hA.later hv1
    replace bs := bs.later hv1
    replace bsc0 := bs.c0
    replace bsc1 := bs.c1
    replace BB := BB.trans (hv1.mono BB.size)
    clear hv1
    go_wp2_with fail
    refine (haw _).mono ?_
    rintro e we ⟨rfl, hbe⟩
    go_wp2
    go_ret
    exact ⟨rfl, BB.trans (hbe.mono BB.size)⟩
  | true =>
    rw [hx] at hr1
    by_cases h1 : 1000 < n
    · clear hx
      go_enter Try.func8, Try.ntmps8
      have hb0 := below_alloc w (.cells #[.int .i64 s.1, .int .i64 s.2] 47)
      replace hA := hA.later hb0
      have BB := hb0
      clear hb0
      have bx : Bx (w.alloc (.cells #[.int .i64 s.1, .int .i64 s.2] 47)) w.heap.size s := ⟨by simp, by simp, by simp⟩
      have bs := bx
      have bsc0 := bs.c0
      have bsc1 := bs.c1
      clear bx
      go_wp2_with fail
      refine (hr1 _ hA).mono ?_
      rintro e wv1 ⟨rfl, hv1⟩
      replace hA := hA.later hv1
      replace bs := bs.later hv1
      replace bsc0 := bs.c0
      replace bsc1 := bs.c1
      replace BB := BB.trans (hv1.mono BB.size)
      clear hv1
      go_wp2_with fail
      refine (haw _).mono ?_
      rintro e we ⟨rfl, hbe⟩
      go_wp2
      go_ret
      exact ⟨rfl, BB.trans (hbe.mono BB.size)⟩
    · by_cases h0 : n < 1
      · have hz0 : ((n : Int) == 0) = true := by simp; omega
        clear hx
        go_enter Try.func8, Try.ntmps8
        have hb0 := below_alloc w (.cells #[.int .i64 s.1, .int .i64 s.2] 47)
        replace hA := hA.later hb0
        have BB := hb0
        clear hb0
        have bx : Bx (w.alloc (.cells #[.int .i64 s.1, .int .i64 s.2] 47)) w.heap.size s := ⟨by simp, by simp, by simp⟩
        have bs := bx
        have bsc0 := bs.c0
        have bsc1 := bs.c1
        clear bx
        go_wp2_with fail
        refine (hr1 _ hA).mono ?_
        rintro e wv1 ⟨rfl, hv1⟩
        replace hA := hA.later hv1
        replace bs := bs.later hv1
        replace bsc0 := bs.c0
        replace bsc1 := bs.c1
        replace BB := BB.trans (hv1.mono BB.size)
        clear hv1
        go_wp2_with fail
        refine (haw _).mono ?_
        rintro e we ⟨rfl, hbe⟩
        go_wp2
        go_ret
        exact ⟨rfl, BB.trans (hbe.mono BB.size)⟩
      · have hz0 : ((n : Int) == 0) = false := by simp; omega
        go_enter Try.func8, Try.ntmps8
        have hb0 := below_alloc w (.cells #[.int .i64 s.1, .int .i64 s.2] 47)
        replace hA := hA.later hb0
        have BB := hb0
        clear hb0
        have bx : Bx (w.alloc (.cells #[.int .i64 s.1, .int .i64 s.2] 47)) w.heap.size s := ⟨by simp, by simp, by simp⟩
        have bs := bx
        have bsc0 := bs.c0
        have bsc1 := bs.c1
        clear bx
        go_wp2_with fail
        refine (hr1 _ hA).mono ?_
        rintro e wv1 ⟨rfl, hv1⟩
        replace hA := hA.later hv1
        replace bs := bs.later hv1
        replace bsc0 := bs.c0
        replace bsc1 := bs.c1
        replace BB := BB.trans (hv1.mono BB.size)
        clear hv1
        have HL := hide hA.len
        have hn1 : 0 < n := by omega
        obtain ⟨i, hi, hie⟩ := idx_ok s.1 n hn1 (by omega)
        obtain ⟨k, hk, hke⟩ := idx_ok s.2 n hn1 (by omega)
        go_wp2_with (first | (at_builtin; refine wpList_append_sl rfl (.const (.slice none 0 0)) (.tmp 50) rfl _ [] xs rfl (Own.nil _) a n cap rfl hA hca (by have := HL.out; simp; omega) ?_; intro v3 w3 ho3 hg3 hm3; have b3 := grown_none hg3 rfl; have f3 := (From.nil _ 0 0).moved hm3 (Nat.le_refl _)) | fail)
        rw [List.nil_append] at ho3
        obtain ⟨g, cp, rfl, hgl, hcell⟩ := ho3.form (by have := HL.out; omega)
        have hxn : xs.length = n := HL.out.symm
        rw [hxn] at ho3 hcell ⊢
        clear hxn
        obtain ⟨ei0, ei1, fi0, fi1⟩ := hcell i hi
        obtain ⟨ek0, ek1, fk0, fk1⟩ := hcell k hk
        clear hie hke hg3 hm3 bs bsc0 bsc1 hcell hr1 haw
        have HO := hide ho3
        clear ho3
        have S1 := HO.out.setAt HL.out i (nth xs k)
        have S2 := S1.1.setAt (by rw [List.length_set]; exact HL.out) k (nth xs i)
        have HM : Hid (Own _ _ (swapL xs i k)) := S2.1
        have hgr := grownBy_trans (v := .slice (some ⟨g, 0, none⟩) n cp) (v' := .slice (some ⟨g, 0, none⟩) n cp) S1.2 S2.2 (Moved.refl _ _)
        have HG := hide hgr
        have HX := hide hx
        have haw := awake_any
        clear S1 S2 hgr hx HO
        have HI := hide hi
        have HKK := hide hk
        have HXi : Hid (∃ x y, x = nth xs i ∧ y = nth xs k) := ⟨_, _, rfl, rfl⟩
        obtain ⟨x, y, hxe, hye⟩ := HXi.out
        rw [← hxe, ← hye] at HM HG
        rw [← hxe] at ei0 ei1
        rw [← hye] at ek0 ek1
        have HXE := hide hxe
        have HYE := hide hye
        have XY : Hid (i = k → x = y) := fun h => by rw [hxe, hye, h]
        clear hxe hye HXi
        by_cases hik : i = k
        · have hxy := XY.out hik
          subst hik
          subst hxy
          clear XY
          go_region
          have B5 := (below_grown (v := .slice (some ⟨g, 0, none⟩) n cp) b3 HG.out b3.size f3).drew
          have ow4 := HM.out.later (Below.refl _ _).drew
          have hls := swapL_length xs i i
          have hall4 := swapL_all (by have := HL.out; have := HI.out; omega) (by have := HL.out; have := HKK.out; omega) HX.out (i := i) (k := i)
          have hsw := swapL_wi (xs := xs) (i := i) (k := i) (by have := HL.out; have := HI.out; omega) (by have := HL.out; have := HKK.out; omega)
          obtain ⟨a4, c4, hv4, cap4, SL4⟩ := ow4.slc (fun z hz => Fit.of_may (by unfold allB at hall4; rw [List.all_eq_true] at hall4; exact hall4 z hz))
          simp only [Value.slice.injEq] at hv4
          obtain ⟨rfl, hl4, rfl⟩ := hv4
          rw [← hl4] at SL4 cap4
          have HLS := hide hls
          clear hl4 hls
          replace hA := hA.later B5
          replace BB := BB.trans (B5.mono BB.size)
          clear B5 b3 f3 HG HM ow4 ei0 ei1 ek0 ek1 fi0 fi1 fk0 fk1
          go_wp2_with fail
          refine (join_ok a n cap xs _ hA HX.out (by have := HL.out; omega)).mono ?_
          rintro e wv2 ⟨vv1, rs1, rfl, ow1, _, st1, mem1, hv2⟩
          obtain ⟨aa1, cc1, rfl, cap1, SL1⟩ := ow1.slc (fit_of_set st1)
          clear ow1
          replace hA := hA.later hv2
          replace SL4 := SL4.later hv2
          replace BB := BB.trans (hv2.mono BB.size)
          clear hv2
          go_wp2_with fail
          refine (join_ok (some ⟨g, 0, none⟩) n cp (swapL xs i i) _ SL4 hall4 (by have := HL.out; have := HLS.out; omega)).mono ?_
          rintro e wv3 ⟨vv2, rs2, rfl, ow2, _, st2, mem2, hv3⟩
          obtain ⟨aa2, cc2, rfl, cap2, SL2⟩ := ow2.slc (fit_of_set st2)
          clear ow2
          replace hA := hA.later hv3
          replace SL4 := SL4.later hv3
          replace SL1 := SL1.later hv3
          replace BB := BB.trans (hv3.mono BB.size)
          clear hv3
          obtain rfl : rs1 = rs2 := set_ext st1 st2 fun z => by simp only [mem1, mem2, hsw]
          have hl1 := set_length st1
          go_wp2_with fail
          refine (join_ok aa1 rs1.length cc1 rs1 _ SL1 (allB_setB st1) (by omega)).mono ?_
          rintro e wv4 ⟨vv3, rs3, rfl, ow3, _, st3, mem3, hv4⟩
          obtain ⟨aa3, cc3, rfl, cap3, SL3⟩ := ow3.slc (fit_of_set st3)
          clear ow3
          replace hA := hA.later hv4
          replace SL4 := SL4.later hv4
          replace SL1 := SL1.later hv4
          replace SL2 := SL2.later hv4
          replace BB := BB.trans (hv4.mono BB.size)
          clear hv4
          obtain rfl : rs1 = rs3 := set_ext st1 st3 fun z => by simp only [mem3]
          have hq1 := fun W hW hW' => same_any aa1 aa2 rs1.length rs1.length cc1 cc2 rs1 rs1 W hW hW'
          have hq2 := fun W hW hW' => same_any aa1 aa3 rs1.length rs1.length cc1 cc3 rs1 rs1 W hW hW'
          rw [show decide (rs1 = rs1) = true by simp] at hq1 hq2
          have hck := fun W hW => check_ok aa1 rs1.length cc1 rs1 W hW st1
          clear mem1 mem2 mem3 st2 st3 hsw hall4
          go_wp2_with fail
          refine (hq1 _ SL1 SL2).mono ?_
          rintro e wv5 ⟨rfl, hv5⟩
          replace hA := hA.later hv5
          replace SL4 := SL4.later hv5
          replace SL1 := SL1.later hv5
          replace SL2 := SL2.later hv5
          replace SL3 := SL3.later hv5
          replace BB := BB.trans (hv5.mono BB.size)
          clear hv5
          go_wp2_with fail
          refine (hq2 _ SL1 SL3).mono ?_
          rintro e wv6 ⟨rfl, hv6⟩
          replace hA := hA.later hv6
          replace SL4 := SL4.later hv6
          replace SL1 := SL1.later hv6
          replace SL2 := SL2.later hv6
          replace SL3 := SL3.later hv6
          replace BB := BB.trans (hv6.mono BB.size)
          clear hv6
          go_wp2_with fail
          refine (hck _ SL1).mono ?_
          rintro e wv7 ⟨rfl, hv7⟩
          replace hA := hA.later hv7
          replace SL4 := SL4.later hv7
          replace SL1 := SL1.later hv7
          replace SL2 := SL2.later hv7
          replace SL3 := SL3.later hv7
          replace BB := BB.trans (hv7.mono BB.size)
          clear hv7
          go_wp2_with fail
          refine (haw _).mono ?_
          rintro e we ⟨rfl, hbe⟩
          go_wp2
          go_ret
          exact ⟨rfl, BB.trans (hbe.mono BB.size)⟩
        · clear XY
          have q1 : ¬ i * 2 = k * 2 := by omega
          have q2 : ¬ i * 2 + 1 = k * 2 + 1 := by omega
          have q3 : ¬ i * 2 + 1 = k * 2 := by omega
          have q4 : ¬ i * 2 = k * 2 + 1 := by omega
          go_region
          have B5 := (below_grown (v := .slice (some ⟨g, 0, none⟩) n cp) b3 HG.out b3.size f3).drew
          have ow4 := HM.out.later (Below.refl _ _).drew
          have hls := swapL_length xs i k
          have hall4 := swapL_all (by have := HL.out; have := HI.out; omega) (by have := HL.out; have := HKK.out; omega) HX.out (i := i) (k := k)
          have hsw := swapL_wi (xs := xs) (i := i) (k := k) (by have := HL.out; have := HI.out; omega) (by have := HL.out; have := HKK.out; omega)
          obtain ⟨a4, c4, hv4, cap4, SL4⟩ := ow4.slc (fun z hz => Fit.of_may (by unfold allB at hall4; rw [List.all_eq_true] at hall4; exact hall4 z hz))
          simp only [Value.slice.injEq] at hv4
          obtain ⟨rfl, hl4, rfl⟩ := hv4
          rw [← hl4] at SL4 cap4
          have HLS := hide hls
          clear hl4 hls
          replace hA := hA.later B5
          replace BB := BB.trans (B5.mono BB.size)
          clear B5 b3 f3 HG HM ow4 ei0 ei1 ek0 ek1 fi0 fi1 fk0 fk1
          go_wp2_with fail
          refine (join_ok a n cap xs _ hA HX.out (by have := HL.out; omega)).mono ?_
          rintro e wv2 ⟨vv1, rs1, rfl, ow1, _, st1, mem1, hv2⟩
          obtain ⟨aa1, cc1, rfl, cap1, SL1⟩ := ow1.slc (fit_of_set st1)
          clear ow1
          replace hA := hA.later hv2
          replace SL4 := SL4.later hv2
          replace BB := BB.trans (hv2.mono BB.size)
          clear hv2
          go_wp2_with fail
          refine (join_ok (some ⟨g, 0, none⟩) n cp (swapL xs i k) _ SL4 hall4 (by have := HL.out; have := HLS.out; omega)).mono ?_
          rintro e wv3 ⟨vv2, rs2, rfl, ow2, _, st2, mem2, hv3⟩
          obtain ⟨aa2, cc2, rfl, cap2, SL2⟩ := ow2.slc (fit_of_set st2)
          clear ow2
          replace hA := hA.later hv3
          replace SL4 := SL4.later hv3
          replace SL1 := SL1.later hv3
          replace BB := BB.trans (hv3.mono BB.size)
          clear hv3
          obtain rfl : rs1 = rs2 := set_ext st1 st2 fun z => by simp only [mem1, mem2, hsw]
          have hl1 := set_length st1
          go_wp2_with fail
          refine (join_ok aa1 rs1.length cc1 rs1 _ SL1 (allB_setB st1) (by omega)).mono ?_
          rintro e wv4 ⟨vv3, rs3, rfl, ow3, _, st3, mem3, hv4⟩
          obtain ⟨aa3, cc3, rfl, cap3, SL3⟩ := ow3.slc (fit_of_set st3)
          clear ow3
          replace hA := hA.later hv4
          replace SL4 := SL4.later hv4
          replace SL1 := SL1.later hv4
          replace SL2 := SL2.later hv4
          replace BB := BB.trans (hv4.mono BB.size)
          clear hv4
          obtain rfl : rs1 = rs3 := set_ext st1 st3 fun z => by simp only [mem3]
          have hq1 := fun W hW hW' => same_any aa1 aa2 rs1.length rs1.length cc1 cc2 rs1 rs1 W hW hW'
          have hq2 := fun W hW hW' => same_any aa1 aa3 rs1.length rs1.length cc1 cc3 rs1 rs1 W hW hW'
          rw [show decide (rs1 = rs1) = true by simp] at hq1 hq2
          have hck := fun W hW => check_ok aa1 rs1.length cc1 rs1 W hW st1
          clear mem1 mem2 mem3 st2 st3 hsw hall4
          go_wp2_with fail
          refine (hq1 _ SL1 SL2).mono ?_
          rintro e wv5 ⟨rfl, hv5⟩
          replace hA := hA.later hv5
          replace SL4 := SL4.later hv5
          replace SL1 := SL1.later hv5
          replace SL2 := SL2.later hv5
          replace SL3 := SL3.later hv5
          replace BB := BB.trans (hv5.mono BB.size)
          clear hv5
          go_wp2_with fail
          refine (hq2 _ SL1 SL3).mono ?_
          rintro e wv6 ⟨rfl, hv6⟩
          replace hA := hA.later hv6
          replace SL4 := SL4.later hv6
          replace SL1 := SL1.later hv6
          replace SL2 := SL2.later hv6
          replace SL3 := SL3.later hv6
          replace BB := BB.trans (hv6.mono BB.size)
          clear hv6
          go_wp2_with fail
          refine (hck _ SL1).mono ?_
          rintro e wv7 ⟨rfl, hv7⟩
          replace hA := hA.later hv7
          replace SL4 := SL4.later hv7
          replace SL1 := SL1.later hv7
          replace SL2 := SL2.later hv7
          replace SL3 := SL3.later hv7
          replace BB := BB.trans (hv7.mono BB.size)
          clear hv7
          go_wp2_with fail
          refine (haw _).mono ?_
          rintro e we ⟨rfl, hbe⟩
          go_wp2
          go_ret
          exact ⟨rfl, BB.trans (hbe.mono BB.size)⟩

end Sp
end Go.Proofs.Ythbgniclplfpgaa
