/- The record with which sectors begin, and how many it has, the document's way. -/
import Derived.Test.YtnpbgjafahhadaaDoorTh
namespace Go.Proofs.YtnpbgjafahhadaaDoor
open Go.RowKit
namespace Re
open Cr
theorem dR_bad {s : ByteArray} {e : Int} (h : rH s = (no, 0, 0, e)) (he : e ≠ 0) : dR s = (no, 0, e) := by
  unfold dR
  rw [if_neg (by rw [h]; exact he), h]
set_option maxRecDepth 20000 in
set_option maxHeartbeats 8000000 in
theorem rdec_any (s : ByteArray) (hs : s.size ≤ 1000000) (w : World) (T : Tab w) :
    Calls Tryd.prog 21 #[.string s] w fun e w' => ∃ v', e = .returned (.tuple #[.agg #[.int .i64 (dR s).1.ep, .int .i64 (dR s).1.nu, .int .i64 (dR s).1.ki, v', .string (dR s).1.da, .string (dR s).1.tx], .int .i64 ((dR s).2.1 : Nat), .int .i64 (dR s).2.2]) ∧ Own w' v' (dR s).1.sp ∧ From w.heap.size v' ∧ Below w.heap.size w w' := by
  have hZ0 := rNew w 29
  have hA1 := below_alloc w (.cells #[.int .i64 0, .int .i64 0, .int .i64 0, .slice none 0 0, .string { data := #[] }, .string { data := #[] }] 29)
  generalize hW1 : w.alloc (.cells #[.int .i64 0, .int .i64 0, .int .i64 0, .slice none 0 0, .string { data := #[] }, .string { data := #[] }] 29) = W1 at *
  have hz1 : Hid (w.heap.size < W1.heap.size) := hZ0.lt
  rcases rH_err s with h0 | h | h | h
  · obtain ⟨hI, hcn, hle, -, -⟩ := rH_ok h0
    have hop := ropen_any s hs W1 (T.later hA1)
    have hDo := @dR_of s
    generalize hq : rH s = q at *
    obtain ⟨⟨ep, nu, ki, sp, da, tx⟩, sum, n, er⟩ := q
    simp only at h0 hI hcn hle hop
    subst h0
    have hD := hide (hDo rfl)
    clear hDo
    have hda := hI.da
    simp only at hda
    subst hda
    have hB0 := hI.ok
    have hsl := hI.lt
    have hsz := hI.z
    simp only at hsl hsz
    obtain ⟨h5d, h5m⟩ := nd_need hB0
    have h5 := hB_ok hB0
    have hn40 : n ≤ 20000 := by omega
    have hfit : ∀ x ∈ sp, Fit x := by
      simp only at h5
      obtain ⟨-, -, -, -, h | h | h⟩ := h5
      · exact fun x hx => Fit.of_may (List.all_eq_true.1 h.2.2.2.2.1 x hx)
      · exact fun x hx => Fit.of_may (List.all_eq_true.1 h.2.2.2.2 x hx)
      · exact fun x hx => by rw [List.length_eq_zero_iff.1 h.2.1] at hx; simp at hx
    clear hI hq hcn hB0 h5
    by_cases hk : ki = 1
    · subst hk
      rw [show smB ⟨ep, nu, 1, sp, ⟨#[]⟩, tx⟩ sum = be sum 4 from if_pos rfl, ← h5d] at hop
      obtain ⟨Z, hZs⟩ : ∃ Z, Hid (str (be sum 4) = Z) := ⟨_, rfl⟩
      rw [hZs.out] at hop
      generalize nd ⟨ep, nu, 1, sp, ⟨#[]⟩, tx⟩ = d at *
      replace h5d := hide h5d
      go_enter Tryd.func21, Tryd.ntmps21
      go_wp2_with fail
      refine hop.mono ?_
      rintro x w2 ⟨v', rfl, hO2, hF2, b2⟩
      have hZ2 := hZ0.later b2
      have BB2 := hA1.trans (b2.mono hA1.size)
      obtain ⟨a, cap, rfl, hS2⟩ := hO2.sl hfit
      have hFz : From w.heap.size (.slice a sp.length cap) := fun g hg => Nat.le_trans (Nat.le_of_lt hz1.out) (hF2 g hg)
      have hvz : Hid ((Value.slice a sp.length cap).ownBlock ≠ some w.heap.size) := fun x => by have := hF2 _ x; have := hz1.out; omega
      have hvy : Hid ((Value.slice a sp.length cap).ownBlock ≠ some w2.heap.size) := hO2.lt _ (Nat.le_refl _)
      have hz2 : Hid (w.heap.size < w2.heap.size) := hZ2.lt
      have hzb : Hid (w.heap.size ≠ w2.heap.size) := by have := hz2.out; show _ ≠ _; omega
      clear hop hF2 b2 hW1 hZ0 hA1 hS2 hfit hsz
      have bY := below_alloc w2 (.cells #[.int .i64 ep, .int .i64 nu, .int .i64 1, .slice a sp.length cap, .string ⟨#[]⟩, .string tx] 29)
      have hY3 : RAt (w2.alloc (.cells #[.int .i64 ep, .int .i64 nu, .int .i64 1, .slice a sp.length cap, .string ⟨#[]⟩, .string tx] 29)) w2.heap.size ep nu 1 (.slice a sp.length cap) ⟨#[]⟩ tx := ⟨boxR w2 _ _ _ _ _ _ 29, fun i => by simp⟩
      generalize hW3 : w2.alloc (.cells #[.int .i64 ep, .int .i64 nu, .int .i64 1, .slice a sp.length cap, .string ⟨#[]⟩, .string tx] 29) = w3 at *
      have hZ3 := hZ2.later bY
      have hO3 := hO2.later bY
      have BB3 := BB2.trans (bY.mono BB2.size)
      have hy3 : Hid (w2.heap.size < w3.heap.size) := hY3.lt
      clear bY hZ2 hO2 BB2
      have c2 := hY3.box.c2
      by_cases hlt : s.size < 64 * (n + d)
      · have hl2 : (s.size : Int) < 64 * ((n : Int) + (d : Int)) := by omega
        have HG : Hid (dR s = (no, 0, 10)) := hD.out.trans (if_pos hlt)
        clear hD hlt hO3 hY3
        have z0 := hZ3.box.c0
        have z1 := hZ3.box.c1
        have z2 := hZ3.box.c2
        have z3 := hZ3.box.c3
        have z4 := hZ3.box.c4
        have z5 := hZ3.box.c5
        have y0 := hZ3.fr 0
        have y1 := hZ3.fr 1
        have y2 := hZ3.fr 2
        have y3 := hZ3.fr 3
        have y4 := hZ3.fr 4
        have y5 := hZ3.fr 5
        have hE := ((((((hZ3.set0 (0)).set1 (0)).set2 (0)).set3 (.slice none 0 0)).set4 (⟨#[]⟩)).set5 (⟨#[]⟩))
        have kZ : ∀ (W : World) (i : Nat) (u : Value), Keep (fun k => k = w.heap.size) W (W.setCell ⟨w.heap.size, i, none⟩ u) := fun W i u => Keep.setCell W _ u rfl
        have kAll := (((((kZ w3 0 (.int .i64 0)).trans (kZ _ 1 (.int .i64 0)) fun _ _ x => x).trans (kZ _ 2 (.int .i64 0)) fun _ _ x => x).trans (kZ _ 3 (.slice none 0 0)) fun _ _ x => x).trans (kZ _ 4 (.string ⟨#[]⟩)) fun _ _ x => x).trans (kZ _ 5 (.string ⟨#[]⟩)) fun _ _ x => x
        replace hE := hide hE
        have BF := BB3.trans (kAll.below (B := w.heap.size) BB3.size (fun k hk x => by omega))
        clear kAll kZ hZ3 BB3 
        go_wp2
        have e0 := hE.out.box.c0
        have e1 := hE.out.box.c1
        have e2 := hE.out.box.c2
        have e3 := hE.out.box.c3
        have e4 := hE.out.box.c4
        have e5 := hE.out.box.c5
        refine bodyPost_ret (v := .tuple #[.agg #[.int .i64 0, .int .i64 0, .int .i64 0, .slice none 0 0, .string ⟨#[]⟩, .string ⟨#[]⟩], .int .i64 0, .int .i64 10]) (by simp [results, Tryd.results21, go_sem, e0, e1, e2, e3, e4, e5]) rfl ⟨_, by rw [HG.out]; rfl, by rw [HG.out]; exact Own.nil _, From.nil _ _ _, BF⟩
      · have hl2 : ¬ (s.size : Int) < 64 * ((n : Int) + (d : Int)) := by omega
        have hl4 : 64 * (n + d) ≤ s.size := by omega
        have hl5 : 64 * n ≤ 64 * (n + d) := by omega
        have hl6 : (64 : Int) * ((n : Int) + (d : Int)) ≤ (s.size : Int) := by omega
        have hl7 : (64 : Int) * (n : Int) ≤ 64 * ((n : Int) + (d : Int)) := by omega
        have hD2 := hD.out.trans (if_neg hlt)
        have hXz : (s.extract (64 * n) (64 * (n + d))).size ≤ 1000000 := by rw [ByteArray.size_extract]; omega
        obtain ⟨X, hX⟩ : ∃ X, s.extract (64 * n) (64 * (n + d)) = X := ⟨_, rfl⟩
        rw [hX] at hD2 hXz
        replace hD2 := hide hD2
        have hM := more_lt' (bs X)
        have hmo : ∀ w : World, _ := fun w => rmore0 X (by omega) w
        obtain ⟨M, hMM⟩ : ∃ M, Hid (more 0 (bs X) = M) := ⟨_, rfl⟩
        rw [hMM.out] at hmo hM
        have hfx : ∀ w : World, _ := fun w => rfixed_any M 4 (by omega) (by omega) w
        obtain ⟨F, hF⟩ : ∃ F, Hid (str (be M 4) = F) := ⟨_, rfl⟩
        rw [hF.out] at hfx
        have c4 := hY3.box.c4
        have f4 := hY3.fr 4
        have kS := Keep.setCell (X := fun k => k = w2.heap.size) w3 ⟨w2.heap.size, 4, none⟩ (.string X) rfl
        have hY5 := hY3.set4 X
        have hZ5 := hZ3.keep kS (fun x => hzb.out x)
        have hO5 := own_keep hO3 kS (fun i hi x => hvy.out (x ▸ hi))
        have BB5 := BB3.trans (kS.below (B := w.heap.size) BB3.size (fun k hk x => by have := hz2.out; omega))
        generalize hW5 : w3.setCell ⟨w2.heap.size, 4, none⟩ (.string X) = w5 at *
        clear hD hlt kS hY3 hZ3 hO3 BB3
        have c4' := hY5.box.c4
        go_wp2_with fail
        refine (hmo _).mono ?_
        rintro x w6 ⟨rfl, b6⟩
        have hY6 := hY5.later b6
        have hZ6 := hZ5.later b6
        have hO6 := hO5.later b6
        have BB6 := BB5.trans (b6.mono BB5.size)
        clear hW5 hW3 c4 f4 c4' c2 hY5 hZ5 hO5 BB5 b6 hmo
        go_wp2_with fail
        refine (hfx _).mono ?_
        rintro x w7 ⟨rfl, b7⟩
        have hY7 := hY6.later b7
        have hZ7 := hZ6.later b7
        have hO7 := hO6.later b7
        have BB7 := BB6.trans (b7.mono BB6.size)
        clear hY6 hZ6 hO6 BB6 b7 hfx
        by_cases hms : M = sum
        · have hFZ : F = Z := by rw [← hF.out, ← hZs.out, hms]
          have g1 : (F.toList == Z.toList) = true := beq_lists hFZ
          have g2 : (F.toList != Z.toList) = false := by rw [bne, g1]; rfl
          have HG : Hid (dR s = _) := hD2.out.trans (if_pos (hMM.out.trans hms))
          clear hD2 hms hFZ
          have x0 := hY7.box.c0
          have x1 := hY7.box.c1
          have x2 := hY7.box.c2
          have x3 := hY7.box.c3
          have x4 := hY7.box.c4
          have x5 := hY7.box.c5
          have z0 := hZ7.box.c0
          have z1 := hZ7.box.c1
          have z2 := hZ7.box.c2
          have z3 := hZ7.box.c3
          have z4 := hZ7.box.c4
          have z5 := hZ7.box.c5
          have y0 := hZ7.fr 0
          have y1 := hZ7.fr 1
          have y2 := hZ7.fr 2
          have y3 := hZ7.fr 3
          have y4 := hZ7.fr 4
          have y5 := hZ7.fr 5
          have hE := ((((((hZ7.set0 (ep)).set1 (nu)).set2 (1)).set3 (.slice a sp.length cap)).set4 (X)).set5 (tx))
          have kZ : ∀ (W : World) (i : Nat) (u : Value), Keep (fun k => k = w.heap.size) W (W.setCell ⟨w.heap.size, i, none⟩ u) := fun W i u => Keep.setCell W _ u rfl
          have kAll := (((((kZ w7 0 (.int .i64 ep)).trans (kZ _ 1 (.int .i64 nu)) fun _ _ x => x).trans (kZ _ 2 (.int .i64 1)) fun _ _ x => x).trans (kZ _ 3 (.slice a sp.length cap)) fun _ _ x => x).trans (kZ _ 4 (.string X)) fun _ _ x => x).trans (kZ _ 5 (.string tx)) fun _ _ x => x
          replace hE := hide hE
          have BF := BB7.trans (kAll.below (B := w.heap.size) BB7.size (fun k hk x => by omega))
          have hOF := (own_keep (own_keep (own_keep (own_keep (own_keep (own_keep hO7 (kZ _ 0 (.int .i64 ep)) (fun i hi x => hvz.out (x ▸ hi))) (kZ _ 1 (.int .i64 nu)) (fun i hi x => hvz.out (x ▸ hi))) (kZ _ 2 (.int .i64 1)) (fun i hi x => hvz.out (x ▸ hi))) (kZ _ 3 (.slice a sp.length cap)) (fun i hi x => hvz.out (x ▸ hi))) (kZ _ 4 (.string X)) (fun i hi x => hvz.out (x ▸ hi))) (kZ _ 5 (.string tx)) (fun i hi x => hvz.out (x ▸ hi)))
          clear kAll kZ hZ7 BB7 
          go_wp2
          have e0 := hE.out.box.c0
          have e1 := hE.out.box.c1
          have e2 := hE.out.box.c2
          have e3 := hE.out.box.c3
          have e4 := hE.out.box.c4
          have e5 := hE.out.box.c5
          refine bodyPost_ret (v := .tuple #[.agg #[.int .i64 ep, .int .i64 nu, .int .i64 1, .slice a sp.length cap, .string X, .string tx], .int .i64 ((n : Int) + (d : Int)), .int .i64 0]) (by simp [results, Tryd.results21, go_sem, e0, e1, e2, e3, e4, e5]) rfl ⟨_, by rw [HG.out]; rfl, by rw [HG.out]; exact hOF, hFz, BF⟩
        · have hFZ : ¬ F = Z := fun x => hms (by
            have : num (bs F) = num (bs Z) := by rw [x]
            rw [← hF.out, ← hZs.out, bs_str (be_lt _ _), bs_str (be_lt _ _), num_be, num_be, Nat.mod_eq_of_lt hM, Nat.mod_eq_of_lt hsl] at this
            exact this)
          have g1 : (F.toList == Z.toList) = false := bne_lists hFZ
          have g2 : (F.toList != Z.toList) = true := by rw [bne, g1]; rfl
          have HG : Hid (dR s = (no, 0, 13)) := hD2.out.trans (if_neg (fun x => hms (hMM.out.symm.trans x)))
          clear hD2 hms hFZ hY7 hO7
          have z0 := hZ7.box.c0
          have z1 := hZ7.box.c1
          have z2 := hZ7.box.c2
          have z3 := hZ7.box.c3
          have z4 := hZ7.box.c4
          have z5 := hZ7.box.c5
          have y0 := hZ7.fr 0
          have y1 := hZ7.fr 1
          have y2 := hZ7.fr 2
          have y3 := hZ7.fr 3
          have y4 := hZ7.fr 4
          have y5 := hZ7.fr 5
          have hE := ((((((hZ7.set0 (0)).set1 (0)).set2 (0)).set3 (.slice none 0 0)).set4 (⟨#[]⟩)).set5 (⟨#[]⟩))
          have kZ : ∀ (W : World) (i : Nat) (u : Value), Keep (fun k => k = w.heap.size) W (W.setCell ⟨w.heap.size, i, none⟩ u) := fun W i u => Keep.setCell W _ u rfl
          have kAll := (((((kZ w7 0 (.int .i64 0)).trans (kZ _ 1 (.int .i64 0)) fun _ _ x => x).trans (kZ _ 2 (.int .i64 0)) fun _ _ x => x).trans (kZ _ 3 (.slice none 0 0)) fun _ _ x => x).trans (kZ _ 4 (.string ⟨#[]⟩)) fun _ _ x => x).trans (kZ _ 5 (.string ⟨#[]⟩)) fun _ _ x => x
          replace hE := hide hE
          have BF := BB7.trans (kAll.below (B := w.heap.size) BB7.size (fun k hk x => by omega))
          clear kAll kZ hZ7 BB7 
          go_wp2
          have e0 := hE.out.box.c0
          have e1 := hE.out.box.c1
          have e2 := hE.out.box.c2
          have e3 := hE.out.box.c3
          have e4 := hE.out.box.c4
          have e5 := hE.out.box.c5
          refine bodyPost_ret (v := .tuple #[.agg #[.int .i64 0, .int .i64 0, .int .i64 0, .slice none 0 0, .string ⟨#[]⟩, .string ⟨#[]⟩], .int .i64 0, .int .i64 13]) (by simp [results, Tryd.results21, go_sem, e0, e1, e2, e3, e4, e5]) rfl ⟨_, by rw [HG.out]; rfl, by rw [HG.out]; exact Own.nil _, From.nil _ _ _, BF⟩
    · have hk1 : (ki == 1) = false := by rwa [beq_eq_false_iff_ne]
      have hn0 : need ⟨ep, nu, ki, sp, ⟨#[]⟩, tx⟩ = 0 := if_neg hk
      have hs0 := hsz hk
      rw [hn0] at h5d hop
      rw [show smB ⟨ep, nu, ki, sp, ⟨#[]⟩, tx⟩ sum = [] from if_neg hk, show str [] = ⟨#[]⟩ from rfl] at hop
      rw [show nd ⟨ep, nu, ki, sp, ⟨#[]⟩, tx⟩ = 0 by omega] at hD
      clear h5d h5m hn0
      go_enter Tryd.func21, Tryd.ntmps21
      go_wp2_with fail
      refine hop.mono ?_
      rintro x w2 ⟨v', rfl, hO2, hF2, b2⟩
      have hZ2 := hZ0.later b2
      have BB2 := hA1.trans (b2.mono hA1.size)
      obtain ⟨a, cap, rfl, hS2⟩ := hO2.sl hfit
      have hFz : From w.heap.size (.slice a sp.length cap) := fun g hg => Nat.le_trans (Nat.le_of_lt hz1.out) (hF2 g hg)
      have hvz : Hid ((Value.slice a sp.length cap).ownBlock ≠ some w.heap.size) := fun x => by have := hF2 _ x; have := hz1.out; omega
      clear hop hF2 b2 hW1 hZ0 hA1 hS2 hfit hsz hk
      have bY := below_alloc w2 (.cells #[.int .i64 ep, .int .i64 nu, .int .i64 ki, .slice a sp.length cap, .string ⟨#[]⟩, .string tx] 29)
      have hY3 : RAt (w2.alloc (.cells #[.int .i64 ep, .int .i64 nu, .int .i64 ki, .slice a sp.length cap, .string ⟨#[]⟩, .string tx] 29)) w2.heap.size ep nu ki (.slice a sp.length cap) ⟨#[]⟩ tx := ⟨boxR w2 _ _ _ _ _ _ 29, fun i => by simp⟩
      generalize hW3 : w2.alloc (.cells #[.int .i64 ep, .int .i64 nu, .int .i64 ki, .slice a sp.length cap, .string ⟨#[]⟩, .string tx] 29) = w3 at *
      have hZ3 := hZ2.later bY
      have hO3 := hO2.later bY
      have BB3 := BB2.trans (bY.mono BB2.size)
      have hy3 : Hid (w2.heap.size < w3.heap.size) := hY3.lt
      clear bY hZ2 hO2 BB2
      have hl2 : ¬ (s.size : Int) < 64 * (n : Int) := by omega
      have HG : Hid (dR s = (⟨ep, nu, ki, sp, ⟨#[]⟩, tx⟩, n, 0)) := by
        show _ = _
        rw [hD.out, if_neg (by omega), Nat.add_zero, show s.extract (64 * n) (64 * n) = ⟨#[]⟩ from empty_tx (by rw [ByteArray.size_extract]; omega), show more 0 (bs ⟨#[]⟩) = 0 from more_nil, if_pos hs0.symm]
        rfl
      clear hD hs0
      have x0 := hY3.box.c0
      have x1 := hY3.box.c1
      have x2 := hY3.box.c2
      have x3 := hY3.box.c3
      have x4 := hY3.box.c4
      have x5 := hY3.box.c5
      have z0 := hZ3.box.c0
      have z1 := hZ3.box.c1
      have z2 := hZ3.box.c2
      have z3 := hZ3.box.c3
      have z4 := hZ3.box.c4
      have z5 := hZ3.box.c5
      have y0 := hZ3.fr 0
      have y1 := hZ3.fr 1
      have y2 := hZ3.fr 2
      have y3 := hZ3.fr 3
      have y4 := hZ3.fr 4
      have y5 := hZ3.fr 5
      have hE := ((((((hZ3.set0 (ep)).set1 (nu)).set2 (ki)).set3 (.slice a sp.length cap)).set4 (⟨#[]⟩)).set5 (tx))
      have kZ : ∀ (W : World) (i : Nat) (u : Value), Keep (fun k => k = w.heap.size) W (W.setCell ⟨w.heap.size, i, none⟩ u) := fun W i u => Keep.setCell W _ u rfl
      have kAll := (((((kZ w3 0 (.int .i64 ep)).trans (kZ _ 1 (.int .i64 nu)) fun _ _ x => x).trans (kZ _ 2 (.int .i64 ki)) fun _ _ x => x).trans (kZ _ 3 (.slice a sp.length cap)) fun _ _ x => x).trans (kZ _ 4 (.string ⟨#[]⟩)) fun _ _ x => x).trans (kZ _ 5 (.string tx)) fun _ _ x => x
      replace hE := hide hE
      have BF := BB3.trans (kAll.below (B := w.heap.size) BB3.size (fun k hk x => by omega))
      have hOF := (own_keep (own_keep (own_keep (own_keep (own_keep (own_keep hO3 (kZ _ 0 (.int .i64 ep)) (fun i hi x => hvz.out (x ▸ hi))) (kZ _ 1 (.int .i64 nu)) (fun i hi x => hvz.out (x ▸ hi))) (kZ _ 2 (.int .i64 ki)) (fun i hi x => hvz.out (x ▸ hi))) (kZ _ 3 (.slice a sp.length cap)) (fun i hi x => hvz.out (x ▸ hi))) (kZ _ 4 (.string ⟨#[]⟩)) (fun i hi x => hvz.out (x ▸ hi))) (kZ _ 5 (.string tx)) (fun i hi x => hvz.out (x ▸ hi)))
      clear kAll kZ hZ3 BB3 
      go_wp2
      have e0 := hE.out.box.c0
      have e1 := hE.out.box.c1
      have e2 := hE.out.box.c2
      have e3 := hE.out.box.c3
      have e4 := hE.out.box.c4
      have e5 := hE.out.box.c5
      refine bodyPost_ret (v := .tuple #[.agg #[.int .i64 ep, .int .i64 nu, .int .i64 ki, .slice a sp.length cap, .string ⟨#[]⟩, .string tx], .int .i64 (n : Nat), .int .i64 0]) (by simp [results, Tryd.results21, go_sem, e0, e1, e2, e3, e4, e5]) rfl ⟨_, by rw [HG.out], by rw [HG.out]; exact hOF, hFz, BF⟩
  · skip
    have HG : Hid (dR s = (no, 0, 10)) := dR_bad h (by decide)
    have hop := ropen_any s hs W1 (T.later hA1)
    rw [h] at hop
    simp only [no, show need ⟨0, 0, 0, [], ⟨#[]⟩, ⟨#[]⟩⟩ = 0 from rfl, show smB ⟨0, 0, 0, [], ⟨#[]⟩, ⟨#[]⟩⟩ 0 = [] from rfl, show str [] = ⟨#[]⟩ from rfl] at hop
    go_enter Tryd.func21, Tryd.ntmps21
    go_wp2_with fail
    refine hop.mono ?_
    rintro x w2 ⟨v', rfl, hO2, hF2, b2⟩
    obtain ⟨a, m, cap, rfl⟩ := own_form hO2
    have hZ2 := hZ0.later b2
    have BB2 := hA1.trans (b2.mono hA1.size)
    have bY := below_alloc w2 (.cells #[.int .i64 0, .int .i64 0, .int .i64 0, .slice a m cap, .string ⟨#[]⟩, .string ⟨#[]⟩] 29)
    have hZ3 := hZ2.later bY
    have BB3 := BB2.trans (bY.mono BB2.size)
    clear hop hO2 hF2 b2 hZ2 BB2 bY hW1 hZ0 hA1
    have z0 := hZ3.box.c0
    have z1 := hZ3.box.c1
    have z2 := hZ3.box.c2
    have z3 := hZ3.box.c3
    have z4 := hZ3.box.c4
    have z5 := hZ3.box.c5
    have y0 := hZ3.fr 0
    have y1 := hZ3.fr 1
    have y2 := hZ3.fr 2
    have y3 := hZ3.fr 3
    have y4 := hZ3.fr 4
    have y5 := hZ3.fr 5
    have hE := ((((((hZ3.set0 (0)).set1 (0)).set2 (0)).set3 (.slice none 0 0)).set4 (⟨#[]⟩)).set5 (⟨#[]⟩))
    have kZ : ∀ (W : World) (i : Nat) (u : Value), Keep (fun k => k = w.heap.size) W (W.setCell ⟨w.heap.size, i, none⟩ u) := fun W i u => Keep.setCell W _ u rfl
    have kAll := (((((kZ (w2.alloc (.cells #[.int .i64 0, .int .i64 0, .int .i64 0, .slice a m cap, .string ⟨#[]⟩, .string ⟨#[]⟩] 29)) 0 (.int .i64 0)).trans (kZ _ 1 (.int .i64 0)) fun _ _ x => x).trans (kZ _ 2 (.int .i64 0)) fun _ _ x => x).trans (kZ _ 3 (.slice none 0 0)) fun _ _ x => x).trans (kZ _ 4 (.string ⟨#[]⟩)) fun _ _ x => x).trans (kZ _ 5 (.string ⟨#[]⟩)) fun _ _ x => x
    replace hE := hide hE
    have BF := BB3.trans (kAll.below (B := w.heap.size) BB3.size (fun k hk x => by omega))
    clear kAll kZ hZ3 BB3 
    go_wp2
    have e0 := hE.out.box.c0
    have e1 := hE.out.box.c1
    have e2 := hE.out.box.c2
    have e3 := hE.out.box.c3
    have e4 := hE.out.box.c4
    have e5 := hE.out.box.c5
    refine bodyPost_ret (v := .tuple #[.agg #[.int .i64 0, .int .i64 0, .int .i64 0, .slice none 0 0, .string ⟨#[]⟩, .string ⟨#[]⟩], .int .i64 0, .int .i64 10]) (by simp [results, Tryd.results21, go_sem, e0, e1, e2, e3, e4, e5]) rfl ⟨_, by rw [HG.out]; rfl, by rw [HG.out]; exact Own.nil _, From.nil _ _ _, BF⟩
  · skip
    have HG : Hid (dR s = (no, 0, 12)) := dR_bad h (by decide)
    have hop := ropen_any s hs W1 (T.later hA1)
    rw [h] at hop
    simp only [no, show need ⟨0, 0, 0, [], ⟨#[]⟩, ⟨#[]⟩⟩ = 0 from rfl, show smB ⟨0, 0, 0, [], ⟨#[]⟩, ⟨#[]⟩⟩ 0 = [] from rfl, show str [] = ⟨#[]⟩ from rfl] at hop
    go_enter Tryd.func21, Tryd.ntmps21
    go_wp2_with fail
    refine hop.mono ?_
    rintro x w2 ⟨v', rfl, hO2, hF2, b2⟩
    obtain ⟨a, m, cap, rfl⟩ := own_form hO2
    have hZ2 := hZ0.later b2
    have BB2 := hA1.trans (b2.mono hA1.size)
    have bY := below_alloc w2 (.cells #[.int .i64 0, .int .i64 0, .int .i64 0, .slice a m cap, .string ⟨#[]⟩, .string ⟨#[]⟩] 29)
    have hZ3 := hZ2.later bY
    have BB3 := BB2.trans (bY.mono BB2.size)
    clear hop hO2 hF2 b2 hZ2 BB2 bY hW1 hZ0 hA1
    have z0 := hZ3.box.c0
    have z1 := hZ3.box.c1
    have z2 := hZ3.box.c2
    have z3 := hZ3.box.c3
    have z4 := hZ3.box.c4
    have z5 := hZ3.box.c5
    have y0 := hZ3.fr 0
    have y1 := hZ3.fr 1
    have y2 := hZ3.fr 2
    have y3 := hZ3.fr 3
    have y4 := hZ3.fr 4
    have y5 := hZ3.fr 5
    have hE := ((((((hZ3.set0 (0)).set1 (0)).set2 (0)).set3 (.slice none 0 0)).set4 (⟨#[]⟩)).set5 (⟨#[]⟩))
    have kZ : ∀ (W : World) (i : Nat) (u : Value), Keep (fun k => k = w.heap.size) W (W.setCell ⟨w.heap.size, i, none⟩ u) := fun W i u => Keep.setCell W _ u rfl
    have kAll := (((((kZ (w2.alloc (.cells #[.int .i64 0, .int .i64 0, .int .i64 0, .slice a m cap, .string ⟨#[]⟩, .string ⟨#[]⟩] 29)) 0 (.int .i64 0)).trans (kZ _ 1 (.int .i64 0)) fun _ _ x => x).trans (kZ _ 2 (.int .i64 0)) fun _ _ x => x).trans (kZ _ 3 (.slice none 0 0)) fun _ _ x => x).trans (kZ _ 4 (.string ⟨#[]⟩)) fun _ _ x => x).trans (kZ _ 5 (.string ⟨#[]⟩)) fun _ _ x => x
    replace hE := hide hE
    have BF := BB3.trans (kAll.below (B := w.heap.size) BB3.size (fun k hk x => by omega))
    clear kAll kZ hZ3 BB3 
    go_wp2
    have e0 := hE.out.box.c0
    have e1 := hE.out.box.c1
    have e2 := hE.out.box.c2
    have e3 := hE.out.box.c3
    have e4 := hE.out.box.c4
    have e5 := hE.out.box.c5
    refine bodyPost_ret (v := .tuple #[.agg #[.int .i64 0, .int .i64 0, .int .i64 0, .slice none 0 0, .string ⟨#[]⟩, .string ⟨#[]⟩], .int .i64 0, .int .i64 12]) (by simp [results, Tryd.results21, go_sem, e0, e1, e2, e3, e4, e5]) rfl ⟨_, by rw [HG.out]; rfl, by rw [HG.out]; exact Own.nil _, From.nil _ _ _, BF⟩
  · skip
    have HG : Hid (dR s = (no, 0, 13)) := dR_bad h (by decide)
    have hop := ropen_any s hs W1 (T.later hA1)
    rw [h] at hop
    simp only [no, show need ⟨0, 0, 0, [], ⟨#[]⟩, ⟨#[]⟩⟩ = 0 from rfl, show smB ⟨0, 0, 0, [], ⟨#[]⟩, ⟨#[]⟩⟩ 0 = [] from rfl, show str [] = ⟨#[]⟩ from rfl] at hop
    go_enter Tryd.func21, Tryd.ntmps21
    go_wp2_with fail
    refine hop.mono ?_
    rintro x w2 ⟨v', rfl, hO2, hF2, b2⟩
    obtain ⟨a, m, cap, rfl⟩ := own_form hO2
    have hZ2 := hZ0.later b2
    have BB2 := hA1.trans (b2.mono hA1.size)
    have bY := below_alloc w2 (.cells #[.int .i64 0, .int .i64 0, .int .i64 0, .slice a m cap, .string ⟨#[]⟩, .string ⟨#[]⟩] 29)
    have hZ3 := hZ2.later bY
    have BB3 := BB2.trans (bY.mono BB2.size)
    clear hop hO2 hF2 b2 hZ2 BB2 bY hW1 hZ0 hA1
    have z0 := hZ3.box.c0
    have z1 := hZ3.box.c1
    have z2 := hZ3.box.c2
    have z3 := hZ3.box.c3
    have z4 := hZ3.box.c4
    have z5 := hZ3.box.c5
    have y0 := hZ3.fr 0
    have y1 := hZ3.fr 1
    have y2 := hZ3.fr 2
    have y3 := hZ3.fr 3
    have y4 := hZ3.fr 4
    have y5 := hZ3.fr 5
    have hE := ((((((hZ3.set0 (0)).set1 (0)).set2 (0)).set3 (.slice none 0 0)).set4 (⟨#[]⟩)).set5 (⟨#[]⟩))
    have kZ : ∀ (W : World) (i : Nat) (u : Value), Keep (fun k => k = w.heap.size) W (W.setCell ⟨w.heap.size, i, none⟩ u) := fun W i u => Keep.setCell W _ u rfl
    have kAll := (((((kZ (w2.alloc (.cells #[.int .i64 0, .int .i64 0, .int .i64 0, .slice a m cap, .string ⟨#[]⟩, .string ⟨#[]⟩] 29)) 0 (.int .i64 0)).trans (kZ _ 1 (.int .i64 0)) fun _ _ x => x).trans (kZ _ 2 (.int .i64 0)) fun _ _ x => x).trans (kZ _ 3 (.slice none 0 0)) fun _ _ x => x).trans (kZ _ 4 (.string ⟨#[]⟩)) fun _ _ x => x).trans (kZ _ 5 (.string ⟨#[]⟩)) fun _ _ x => x
    replace hE := hide hE
    have BF := BB3.trans (kAll.below (B := w.heap.size) BB3.size (fun k hk x => by omega))
    clear kAll kZ hZ3 BB3 
    go_wp2
    have e0 := hE.out.box.c0
    have e1 := hE.out.box.c1
    have e2 := hE.out.box.c2
    have e3 := hE.out.box.c3
    have e4 := hE.out.box.c4
    have e5 := hE.out.box.c5
    refine bodyPost_ret (v := .tuple #[.agg #[.int .i64 0, .int .i64 0, .int .i64 0, .slice none 0 0, .string ⟨#[]⟩, .string ⟨#[]⟩], .int .i64 0, .int .i64 13]) (by simp [results, Tryd.results21, go_sem, e0, e1, e2, e3, e4, e5]) rfl ⟨_, by rw [HG.out]; rfl, by rw [HG.out]; exact Own.nil _, From.nil _ _ _, BF⟩
end Re
end Go.Proofs.YtnpbgjafahhadaaDoor
