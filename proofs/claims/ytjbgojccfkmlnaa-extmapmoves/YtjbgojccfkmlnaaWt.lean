/- What a map is when sectors of a span are elsewhere. -/
import Derived.Test.YtjbgojccfkmlnaaWs
namespace Go.Proofs.Ytjbgojccfkmlnaa
open Go.RowKit
namespace Wi

theorem lay_done {w w8 w9 : World} {b : Nat} {v v9 u : Value} {l l' wl : List Xt} {X0 : Nat → Prop} (hX0 : ∀ k, X0 k ↔ k = b ∨ v.ownBlock = some k) (hM : RawM w b v l) (hb8 : Below w.heap.size w w8) (hk : Keep (fun k => v.ownBlock = some k) w8 w9) (hmv : Moved w8 v v9) (h9 : Xs w9 v9 l') (hu : Xs w8 u wl) (hun : From w.heap.size u) :
    LeftT ((mapT b l').and (listT u wl)) w X0 (w9.setCell ⟨b, 0, none⟩ v9) := by
  have hbl := hM.lt
  have hvl : ∀ k, v.ownBlock = some k → k < w.heap.size := Rw.lt hM.xs
  have hs8 := hb8.size
  have hb9 : w9.heap[b]? = some (.cells #[v] 72 (0, 0)) := ((hk.block b (by omega) hM.no).trans (hb8.block b hbl)).trans hM.blk
  have hno : v9.ownBlock ≠ some b := by
    rcases hmv with e | e
    · rw [e]; exact hM.no
    · intro e2; have := e b e2; omega
  have hkc : Keep (fun k => k = b) w9 (w9.setCell ⟨b, 0, none⟩ v9) := Keep.setCell w9 ⟨b, 0, none⟩ v9 rfl
  have hap : ∀ k, u.ownBlock = some k → v.ownBlock ≠ some k := fun k h1 h2 => by have := hun k h1; have := hvl k h2; omega
  have hub : ∀ k, u.ownBlock = some k → k ≠ b := fun k h1 h2 => by have := hun k h1; omega
  have hu9 : Xs (w9.setCell ⟨b, 0, none⟩ v9) u wl := Rw.keep (Rw.keep hu hk fun k h1 h2 => hap k h1 h2) hkc fun k h1 h2 => hub k h1 h2
  refine ⟨fun k => (k = b ∨ v9.ownBlock = some k) ∨ u.ownBlock = some k, ⟨_, _, ⟨v9, ⟨?_, Rw.keep h9 hkc fun k h1 h2 => hno (by rw [h1, h2]), hno⟩, fun k => Iff.rfl⟩, ⟨hu9, fun k => Iff.rfl⟩, ?_, fun k => Iff.rfl⟩, ?_, ?_⟩
  · have := setCell_blk (i := 0) hb9 v9
    simpa using this
  · rintro k (rfl | h1) h2
    · exact hub k h2 rfl
    · rcases hmv with e | e
      · rw [e] at h1
        exact hap k h2 h1
      · have h3 := e k h1
        have := Rw.lt hu k h2
        omega
  · have k1 : Keep X0 w w8 := Keep.of_below hb8
    have k2 : Keep X0 w w9 := k1.trans hk fun k hk2 e => (hX0 k).2 (.inr e)
    exact k2.trans hkc fun k hk2 e => (hX0 k).2 (.inl e)
  · rintro k ((rfl | h1) | h1)
    · exact .inl ((hX0 k).2 (.inl rfl))
    · rcases hmv with e | e
      · exact .inl ((hX0 k).2 (.inr (e ▸ h1)))
      · exact .inr (Nat.le_trans hs8 (e k h1))
    · exact .inr (hun k h1)

set_option maxHeartbeats 8000000 in
set_option maxRecDepth 100000 in
theorem lay_any {w : World} {b : Nat} {v xv : Value} {l X : List Xt} {X0 : Nat → Prop} (hX0 : ∀ k, X0 k ↔ k = b ∨ v.ownBlock = some k) (h : RawM w b v l) (hcan : Can l) (hs : Sm l) (hn : l.length ≤ 100000) (hX : Xs w xv X) (hXr : Ris X) (hXs : Sm X) (hXn : X.length ≤ 100000) (at_ n : Nat) (h1 : 1 ≤ n) (h2 : at_ + n ≤ 65536) (hin : ∀ x ∈ X, at_ ≤ x.at_ ∧ x.fin ≤ at_ + n) :
    Calls Try.prog 46 #[.pointer (some ⟨b, 0, none⟩), .agg #[.int .i64 (at_ : Nat), .int .i64 (n : Nat)], xv] w fun e w' => ∃ v', e = .returned v' ∧ LeftT ((mapT b (layL l at_ (at_ + n) X)).and (listT v' (wasL l at_ (at_ + n)))) w X0 w' := by
  have hr := hcan.ris
  obtain ⟨a, cap, rfl, hlc, hcm⟩ := h.xs.len
  obtain ⟨xa, xc, rfl, _, _⟩ := hX.len
  have hij : idx (endsP ((at_ : Int) - 1)) l ≤ idx (atP ((at_ + n : Nat) + 1 : Int)) l := idx_idx (by omega) hr
  have hjl := idx_le (atP ((at_ + n : Nat) + 1 : Int)) l
  obtain ⟨p1, hp1, hp2, _⟩ := Xs.sl3 h.xs (lo := idx (endsP ((at_ : Int) - 1)) l) (hi := idx (atP ((at_ + n : Nat) + 1 : Int)) l) (mx := idx (atP ((at_ + n : Nat) + 1 : Int)) l) hij hjl (Nat.le_refl _) (by omega)
  have hsp := split3 (l := l) hij
  have hA : ∀ x ∈ l.take (idx (endsP ((at_ : Int) - 1)) l), x.fin < at_ := fun x hx => by have := front_ends x hx; omega
  have hBB : ∀ x ∈ l.drop (idx (atP ((at_ + n : Nat) + 1 : Int)) l), at_ + n < x.at_ := fun x hx => by have := rear_begins hr x hx; omega
  have hlp := lay_part (A := l.take (idx (endsP ((at_ : Int) - 1)) l)) (S := (l.drop (idx (endsP ((at_ : Int) - 1)) l)).take (idx (atP ((at_ + n : Nat) + 1 : Int)) l - idx (endsP ((at_ : Int) - 1)) l)) (B := l.drop (idx (atP ((at_ + n : Nat) + 1 : Int)) l)) (X := X) (a := at_) (b := at_ + n) (by rw [← hsp]; exact hcan) hXr (by omega) hin hA hBB
  rw [← hsp] at hlp
  have HLP := hide hlp
  have HS1 := hide (hr.mid _ _ hij)
  have HS2 := hide (hs.mid (idx (endsP ((at_ : Int) - 1)) l) (idx (atP ((at_ + n : Nat) + 1 : Int)) l))
  have HS4 : Hid (((l.drop (idx (endsP ((at_ : Int) - 1)) l)).take (idx (atP ((at_ + n : Nat) + 1 : Int)) l - idx (endsP ((at_ : Int) - 1)) l)).length ≤ 100000) := by show _ ≤ _; rw [List.length_take, List.length_drop]; omega
  have HS3 := hide (Nat.le_trans HS4.out (show 100000 ≤ 1000000 by omega))
  have HPL : Hid (∀ w', Below w.heap.size w w' → Calls Try.prog 50 #[.pointer (some ⟨b, 0, none⟩), .int .i64 ((at_ : Int) - 1), .int .i64 ((at_ + n : Nat) + 1 : Int)] w' fun e w'' => e = .returned (.tuple #[.int .i64 (idx (endsP ((at_ : Int) - 1)) l : Nat), .int .i64 (idx (atP ((at_ + n : Nat) + 1 : Int)) l : Nat)]) ∧ Below w'.heap.size w' w'') := fun w' hb => places_any (h.later hb) hr hs (by omega) _ _
  have HM : Hid (∀ w', Below w.heap.size w w' → w'.cell? ⟨b, 0, none⟩ = some (.slice a l.length cap)) := fun w' hb => (h.later hb).c
  have HMR := hide h
  have HP := hide hp2
  have HIJ := hide hij
  have HJL := hide hjl
  have HXX := hide hX
  have HXS := hide hXs
  have HXR := hide hXr
  have HXN := hide hXn
  have HVL := hide (Rw.lt h.xs)
  generalize (l.drop (idx (endsP ((at_ : Int) - 1)) l)).take (idx (atP ((at_ + n : Nat) + 1 : Int)) l - idx (endsP ((at_ : Int) - 1)) l) = S at *
  generalize idx (endsP ((at_ : Int) - 1)) l = I at *
  generalize idx (atP ((at_ + n : Nat) + 1 : Int)) l = J at *
  have HBL := hide (Nat.le_trans (behind_len S at_) HS4.out)
  have HAL := hide (Nat.le_trans (ahead_len S at_) HS4.out)
  have HWL := hide (Nat.le_trans (ahead_len (behindL S at_) (at_ + n)) HBL.out)
  have HBB := hide (Nat.le_trans (behind_len (behindL S at_) (at_ + n)) HBL.out)
  have HSM : Hid (Sm (aheadL S at_ ++ X ++ behindL (behindL S at_) (at_ + n))) := fun x hx => by
    rcases List.mem_append.1 hx with hx | hx
    · rcases List.mem_append.1 hx with hx | hx
      · exact HS2.out.ahead HS1.out x hx
      · exact HXS.out x hx
    · exact (HS2.out.behind HS1.out).behind (behind_ris HS1.out) x hx
  have HLN := hide hn
  clear h hcan hr hs hp2 hlp hsp hA hBB hX hXs hXr hin hjl hij hn
  obtain ⟨L, hL⟩ : ∃ L, l.length = L := ⟨_, rfl⟩
  have HLL := hide hL
  have hLB : L ≤ 100000 := by rw [← hL]; exact HLN.out
  rw [hL] at HM hp1 hlc HMR HJL
  rw [hL] at HVL hX0
  clear hL
  obtain ⟨fin, hfin⟩ : ∃ fin, at_ + n = fin := ⟨_, rfl⟩
  rw [hfin] at HLP HPL HWL HBB HSM ⊢
  have HE : Hid (∀ w', Calls Try.prog 43 #[.agg #[.int .i64 (at_ : Nat), .int .i64 (n : Nat)]] w' fun e w'' => e = .returned (.int .i64 (fin : Nat)) ∧ Below w'.heap.size w' w'') := fun w' => by
    have := end_any at_ n ⟨by omega, by omega⟩ w'
    rwa [show ((at_ : Nat) : Int) + (n : Int) = (fin : Nat) by omega] at this
  have hfb : fin ≤ 65536 := by omega
  have hat : at_ ≤ 65536 := by omega
  clear hfin
  obtain ⟨W, hW⟩ : ∃ W, W = w.alloc (.cells #[.int .i64 (at_ : Nat), .int .i64 (n : Nat)] 38) := ⟨_, rfl⟩
  have HB : Hid (Below w.heap.size w W) := by show Below _ _ _; rw [hW]; exact below_alloc _ _
  have HX : Hid (∀ w', Below W.heap.size W w' → w'.cell? ⟨w.heap.size, 0, none⟩ = some (.int .i64 (at_ : Nat)) ∧ w'.cell? ⟨w.heap.size, 1, none⟩ = some (.int .i64 (n : Nat))) := fun w' hb => by
    have e := heap_alloc_new w (.cells #[.int .i64 (at_ : Nat), .int .i64 (n : Nat)] 38)
    rw [← hW] at e
    have hl := lt_of_block e
    refine ⟨(hb.cell (p := ⟨w.heap.size, 0, none⟩) hl).trans ?_, (hb.cell (p := ⟨w.heap.size, 1, none⟩) hl).trans ?_⟩
    · rw [cell_of_row _ _ _ _ _ _ e]; rfl
    · rw [cell_of_row _ _ _ _ _ _ e]; rfl
  have c0 : ∀ P : Later W, P.val.cell? ⟨w.heap.size, 0, none⟩ = some (.int .i64 (at_ : Nat)) := fun P => (HX.out _ P.below).1
  have c1 : ∀ P : Later W, P.val.cell? ⟨w.heap.size, 1, none⟩ = some (.int .i64 (n : Nat)) := fun P => (HX.out _ P.below).2
  have hc1 : ∀ P : Later W, _ := fun P => HE.out P.val
  have hc2 : ∀ P : Later W, _ := fun P => HPL.out P.val (HB.out.trans (P.below.mono HB.out.size))
  have hne := later_ne W
  have HW := hide hW
  clear hW
  go_enter Try.func46, Try.ntmps46
  go_wp2
  rw [← HW.out]
  have hm1 : IntKind.i64.wrap ((at_ : Int) - 1) = (at_ : Int) - 1 := by rw [IntKind.wrap_i64]; omega
  refine wp_region_later (by kernel_rfl) (by kernel_rfl) ?_
  (repeat (first | go_big_quiet_skip | (go_big_quiet_want; go_big_quiet_op; go_big_quiet_on)))
  (go_big_quiet_want; go_big_quiet_op; apply Exists.intro; refine ⟨fun p => ?_, ?_⟩; (· exact later_of (hc1 p)); go_big_quiet_on)
  (repeat (first | go_big_quiet_skip | (go_big_quiet_want; go_big_quiet_op; go_big_quiet_on)))
  (go_big_quiet_want; go_big_quiet_op; apply Exists.intro; refine ⟨fun p => ?_, ?_⟩; (· exact later_of (hc2 p)); go_big_quiet_on)
  (repeat (first | go_big_quiet_skip | (go_big_quiet_want; go_big_quiet_op; go_big_quiet_on)))
  refine wpQuiet_nil ?_
  rintro _ ⟨P, rfl⟩
  have HB2 := hide (HB.out.trans (P.below.mono HB.out.size))
  have HP2 := hide P.below
  clear c0 c1 hc1 hc2 hne
  generalize P.val = w2 at *
  have HX2 : Hid (∀ w', Below w2.heap.size w2 w' → w'.cell? ⟨w.heap.size, 0, none⟩ = some (.int .i64 (at_ : Nat)) ∧ w'.cell? ⟨w.heap.size, 1, none⟩ = some (.int .i64 (n : Nat))) := fun w' hb => HX.out w' (HP2.out.trans (hb.mono HP2.out.size))
  clear HP2 HX
  go_wp2_with fail
  refine wp_region_specs [.val (.pointer (some ⟨b, 0, none⟩)), .val (.pointer (some ⟨b, 0, none⟩)), .val (.pointer (some ⟨b, 0, none⟩)), .val (.slice a L cap), .val (.int .i64 (I : Nat)), .val (.int .i64 (J : Nat)), .val (.int .i64 (J : Nat)), .val (.slice p1 (J - I) (J - I)), .val (.pointer (some ⟨w.heap.size, 0, none⟩)), .val (.int .i64 (at_ : Nat)), Spec.two (aheadL S at_) (behindL S at_), Spec.two (aheadL S at_) (behindL S at_), Spec.xs (aheadL S at_), Spec.xs (behindL S at_), Spec.xs (aheadL S at_), Spec.xs (behindL S at_)] (by kernel_rfl) (by kernel_rfl) ?_ ?_
  · skip
    refine ⟨?_, ?_⟩
    · intro A w1 hb ho hd
      have e0 : A.tmps[0]?.getD undef = .pointer (some ⟨b, 0, none⟩) := olds_get ho 0 (by kernel_rfl)
      refine ⟨rfl, goes_value (v := .pointer (some ⟨b, 0, none⟩)) ?_ rfl⟩
      simp [go_sem, e0]
    refine ⟨?_, ?_⟩
    · intro A w1 hb ho hd
      have e26 : A.tmps[26]?.getD undef = .pointer (some ⟨b, 0, none⟩) := getq (hd _ (Array.mem_of_getElem? (i := 0) rfl) rfl _ _ rfl rfl)
      refine ⟨rfl, goes_value (v := .pointer (some ⟨b, 0, none⟩)) ?_ rfl⟩
      simp [go_sem, e26]
    refine ⟨?_, ?_⟩
    · intro A w1 hb ho hd
      have e27 : A.tmps[27]?.getD undef = .pointer (some ⟨b, 0, none⟩) := getq (hd _ (Array.mem_of_getElem? (i := 0) rfl) rfl _ _ rfl rfl)
      refine ⟨rfl, goes_value (v := .pointer (some ⟨b, 0, none⟩)) ?_ rfl⟩
      simp [go_sem, e27]
    refine ⟨?_, ?_⟩
    · intro A w1 hb ho hd
      have e28 : A.tmps[28]?.getD undef = .pointer (some ⟨b, 0, none⟩) := getq (hd _ (Array.mem_of_getElem? (i := 0) rfl) rfl _ _ rfl rfl)
      have y := HM.out w1 (HB2.out.trans (hb.mono HB2.out.size))
      refine ⟨rfl, goes_value (v := .slice a L cap) ?_ rfl⟩
      simp [go_sem, e28, y]
    refine ⟨?_, ?_⟩
    · intro A w1 hb ho hd
      have e7 : A.tmps[7]?.getD undef = .int .i64 (I : Nat) := olds_get ho 7 (by kernel_rfl)
      refine ⟨rfl, goes_value (v := .int .i64 (I : Nat)) ?_ rfl⟩
      simp [go_sem, e7]
    refine ⟨?_, ?_⟩
    · intro A w1 hb ho hd
      have e8 : A.tmps[8]?.getD undef = .int .i64 (J : Nat) := olds_get ho 8 (by kernel_rfl)
      refine ⟨rfl, goes_value (v := .int .i64 (J : Nat)) ?_ rfl⟩
      simp [go_sem, e8]
    refine ⟨?_, ?_⟩
    · intro A w1 hb ho hd
      have e8 : A.tmps[8]?.getD undef = .int .i64 (J : Nat) := olds_get ho 8 (by kernel_rfl)
      refine ⟨rfl, goes_value (v := .int .i64 (J : Nat)) ?_ rfl⟩
      simp [go_sem, e8]
    refine ⟨?_, ?_⟩
    · intro A w1 hb ho hd
      have e29 : A.tmps[29]?.getD undef = .slice a L cap := getq (hd _ (Array.mem_of_getElem? (i := 0) rfl) rfl _ _ rfl rfl)
      have e30 : A.tmps[30]?.getD undef = .int .i64 (I : Nat) := getq (hd _ (Array.mem_of_getElem? (i := 1) rfl) rfl _ _ rfl rfl)
      have e31 : A.tmps[31]?.getD undef = .int .i64 (J : Nat) := getq (hd _ (Array.mem_of_getElem? (i := 2) rfl) rfl _ _ rfl rfl)
      have e32 : A.tmps[32]?.getD undef = .int .i64 (J : Nat) := getq (hd _ (Array.mem_of_getElem? (i := 3) rfl) rfl _ _ rfl rfl)
      refine ⟨rfl, goes_value (v := .slice p1 (J - I) (J - I)) ?_ rfl⟩
      simp [go_sem, e29, e30, e31, e32, hp1]
    refine ⟨?_, ?_⟩
    · intro A w1 hb ho hd
      have e4 : A.tmps[4]?.getD undef = .pointer (some ⟨w.heap.size, 0, none⟩) := olds_get ho 4 (by kernel_rfl)
      refine ⟨rfl, goes_value (v := .pointer (some ⟨w.heap.size, 0, none⟩)) ?_ rfl⟩
      simp [go_sem, e4]
    refine ⟨?_, ?_⟩
    · intro A w1 hb ho hd
      have e34 : A.tmps[34]?.getD undef = .pointer (some ⟨w.heap.size, 0, none⟩) := getq (hd _ (Array.mem_of_getElem? (i := 0) rfl) rfl _ _ rfl rfl)
      have y := (HX2.out w1 hb).1
      refine ⟨rfl, goes_value (v := .int .i64 (at_ : Nat)) ?_ rfl⟩
      simp [go_sem, e34, y]
    refine ⟨?_, ?_⟩
    · intro A w1 hb ho hd
      have e33 : A.tmps[33]?.getD undef = .slice p1 (J - I) (J - I) := getq (hd _ (Array.mem_of_getElem? (i := 0) rfl) rfl _ _ rfl rfl)
      have e35 : A.tmps[35]?.getD undef = .int .i64 (at_ : Nat) := getq (hd _ (Array.mem_of_getElem? (i := 1) rfl) rfl _ _ rfl rfl)
      have hX := HP.out.later (HB2.out.trans (hb.mono HB2.out.size))
      refine ⟨rfl, goes_cut (f := 51) (args := #[.slice p1 (J - I) (J - I), .int .i64 (at_ : Nat)]) ?_ (cut_any hX HS1.out HS2.out HS3.out at_ (by omega))⟩
      simp [go_sem, e33, e35]
    refine ⟨?_, ?_⟩
    · intro A w1 hb ho hd
      obtain Sc := hd _ (Array.mem_of_getElem? (i := 0) rfl) rfl _ _ rfl rfl
      have e36 := getq (A := A) (d := 36) rfl
      refine ⟨rfl, goes_value (v := A.tmps.getD 36 undef) ?_ Sc⟩
      simp [go_sem]
    refine ⟨?_, ?_⟩
    · intro A w1 hb ho hd
      obtain ⟨q1, q2, qe, hq1, hq2⟩ := hd _ (Array.mem_of_getElem? (i := 0) rfl) rfl _ _ rfl rfl
      have e25 := getq qe
      refine ⟨rfl, goes_value (v := q1) ?_ hq1⟩
      simp [go_sem, e25]
    refine ⟨?_, ?_⟩
    · intro A w1 hb ho hd
      obtain ⟨q1, q2, qe, hq1, hq2⟩ := hd _ (Array.mem_of_getElem? (i := 0) rfl) rfl _ _ rfl rfl
      have e25 := getq qe
      refine ⟨rfl, goes_value (v := q2) ?_ hq2⟩
      simp [go_sem, e25]
    refine ⟨?_, ?_⟩
    · intro A w1 hb ho hd
      obtain Se := hd _ (Array.mem_of_getElem? (i := 0) rfl) rfl _ _ rfl rfl
      have e37 := getq (A := A) (d := 37) rfl
      refine ⟨rfl, goes_value (v := A.tmps.getD 37 undef) ?_ Se⟩
      simp [go_sem]
    refine ⟨?_, ?_⟩
    · intro A w1 hb ho hd
      obtain Sf := hd _ (Array.mem_of_getElem? (i := 0) rfl) rfl _ _ rfl rfl
      have e38 := getq (A := A) (d := 38) rfl
      refine ⟨rfl, goes_value (v := A.tmps.getD 38 undef) ?_ Sf⟩
      simp [go_sem]
    trivial
  intro A w3 hb3 hdf hsz hol hft
  have m26 := hft 0 _ 26 rfl rfl
  have m27 := hft 1 _ 27 rfl rfl
  have m28 := hft 2 _ 28 rfl rfl
  have m29 := hft 3 _ 29 rfl rfl
  have m30 := hft 4 _ 30 rfl rfl
  have m31 := hft 5 _ 31 rfl rfl
  have m32 := hft 6 _ 32 rfl rfl
  have m33 := hft 7 _ 33 rfl rfl
  have m34 := hft 8 _ 34 rfl rfl
  have m35 := hft 9 _ 35 rfl rfl
  have M14 := hft 14 _ 9 rfl rfl
  have M15 := hft 15 _ 10 rfl rfl
  have HB3 := hide (HB2.out.trans (hb3.mono HB2.out.size))
  obtain ⟨c0, c1⟩ := HX2.out w3 hb3
  rename_i KK hKK
  refine hKK _ _ ?_
  show Code.wp _ _ _ A w3
  rw [frame_puts hdf hsz hol]
  simp only [List.foldl_cons, List.foldl_nil, Act.put, Option.getD_some, List.setIfInBounds_toArray, List.set_cons_succ, List.set_cons_zero]
  have X7 : Hid (Xs w3 (A.tmps.getD 9 undef) (aheadL S at_)) := M14
  have X8 : Hid (Xs w3 (A.tmps.getD 10 undef) (behindL S at_)) := M15
  clear m26 m27 m28 m29 m30 m31 m32 m33 m34 m35 M14 M15 hft hol hsz hdf hKK hb3 HX2
  generalize A.tmps.getD 9 undef = r7 at *
  generalize A.tmps.getD 10 undef = r8 at *
  have hc3 := HE.out w3
  go_wp2_with fail
  refine hc3.mono ?_
  rintro e w4 ⟨rfl, hb4⟩
  have X84 := X8.out.later hb4
  have X7 := hide (X7.out.later hb4)
  have hc4 := cut_any X84 (behind_ris HS1.out) (HS2.out.behind HS1.out) (Nat.le_trans HBL.out (by omega)) fin (by omega)
  have HB4 := hide (HB3.out.trans (hb4.mono HB3.out.size))
  clear hc3 hb4 X84 c0 c1
  go_wp2_with fail
  refine hc4.mono ?_
  rintro e w5 ⟨u1, u2, rfl, hu1, hu2, hb5⟩
  have X7 := hide (X7.out.later hb5)
  have HB5 := hide (HB4.out.trans (hb5.mono HB4.out.size))
  have hc5 := clone39 hu1 (encXs_oneCell _) (Nat.le_trans HWL.out (by omega))
  have HU2 := hide hu2
  clear hc4 hb5 hu2 hu1
  go_wp2_with fail
  refine hc5.mono ?_
  rintro e w6 ⟨u6, rfl, hF⟩
  have X7 := hide (X7.out.later hF.below)
  have HU2 := hide (HU2.out.later hF.below)
  have HR : Hid (Xs w6 u6 (aheadL (behindL S at_) fin)) := hF.row
  have HN : Hid (From w.heap.size u6) := fun k hk => Nat.le_trans HB5.out.size (hF.new k hk)
  have HB6 := hide (HB5.out.trans (hF.below.mono HB5.out.size))
  clear hc5 hF
  have HX6 := hide (HXX.out.later HB6.out)
  obtain ⟨a7, d7, rfl, _, _⟩ := X7.out.len
  obtain ⟨a2, d2, rfl, _, _⟩ := HU2.out.len
  have hc6 := concat_any (w := w6.alloc (.cells #[.slice a7 (aheadL S at_).length d7, .slice xa X.length xc, .slice a2 (behindL (behindL S at_) fin).length d2] 30)) (heap_alloc_new w6 _) (X7.out.later (below_alloc _ _)) (HX6.out.later (below_alloc _ _)) (HU2.out.later (below_alloc _ _)) (Nat.le_trans HAL.out (by omega)) (Nat.le_trans HXN.out (by omega)) (Nat.le_trans HBB.out (by omega))
  have HBA := hide (below_alloc w6 (.cells #[.slice a7 (aheadL S at_).length d7, .slice xa X.length xc, .slice a2 (behindL (behindL S at_) fin).length d2] 30))
  go_wp2_with fail
  refine hc6.mono ?_
  rintro e w7 ⟨f7, rfl, hf7, hn7, hb7⟩
  have hb67 : Below w6.heap.size w6 w7 := HBA.out.trans (hb7.mono HBA.out.size)
  have hc7 := join_any hf7 HSM.out (by have := HAL.out; have := HXN.out; have := HBB.out; rw [List.length_append, List.length_append]; omega)
  have HB7 := hide (HB6.out.trans (hb67.mono HB6.out.size))
  have HR := hide (HR.out.later hb67)
  clear hc6 hb7 hn7 hf7 hb67 HBA
  go_wp2_with fail
  refine hc7.mono ?_
  rintro e w8 ⟨f8, rfl, hf8, hn8, hb8⟩
  have HR := hide (HR.out.later hb8)
  have HB8 := hide (HB7.out.trans (hb8.mono HB7.out.size))
  have hfl := joinL_len (aheadL S at_ ++ X ++ behindL (behindL S at_) fin)
  have hRM := HMR.out.later HB8.out
  have hxs8 : Xs w8 (.slice a L cap) l := hRM.xs
  have hc8 := replace_xs (i := I) (j := J) hxs8 (by have := HLN.out; omega) hf8 (by have := HAL.out; have := HXN.out; have := HBB.out; rw [List.length_append, List.length_append] at hfl; omega) HIJ.out (by rw [HLL.out]; exact HJL.out) (fun k h3 h4 => by
    have h5 := hn8 k h3
    have h6 := HVL.out k h4
    have h7 := HB7.out.size
    omega)
  have hcb := HM.out w8 HB8.out
  have hb8l : b < w8.heap.size := hRM.lt
  clear hc7 hb8 hn8 hf8 hfl hRM hxs8
  go_wp2_with fail
  refine hc8.mono ?_
  rintro e w9 ⟨v9, rfl, hv9, hk9, hm9⟩
  rw [HLP.out.1] at hv9
  obtain ⟨a9, c9, rfl, _, _⟩ := hv9.len
  have hlf := lay_done hX0 HMR.out HB8.out hk9 hm9 hv9 HR.out HN.out
  have hno := HMR.out.no
  have hcb9 : w9.cell? ⟨b, 0, none⟩ = some (.slice a L cap) := (keep_cell hk9 hb8l (fun e => hno e)).trans hcb
  have hfz : w9.frozen? ⟨b, 0, none⟩ = false := frozen_of_row w9 b 0 _ _ ((hk9.block b hb8l (fun e => hno e)).trans ((HB8.out.block b HMR.out.lt).trans HMR.out.blk))
  have HLF := hide hlf
  clear hc8 hv9 hk9 hm9 hlf hcb hno
  go_wp2
  go_ret
  have hw := HLF.out
  rw [show aheadL (behindL S at_) fin = wasL S at_ fin from rfl, HLP.out.2] at hw
  exact ⟨_, rfl, hw⟩

end Wi
end Go.Proofs.Ytjbgojccfkmlnaa
