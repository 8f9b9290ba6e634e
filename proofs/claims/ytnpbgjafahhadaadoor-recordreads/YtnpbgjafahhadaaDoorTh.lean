/- The record with which sectors begin, the document's way. -/
import Derived.Test.YtnpbgjafahhadaaDoorTe
import Derived.Test.YtnpbgjafahhadaaDoorTf
import Derived.Test.YtnpbgjafahhadaaDoorTg
namespace Go.Proofs.YtnpbgjafahhadaaDoor
open Go.RowKit
namespace Re
open Cr
theorem cnt_two {s : ByteArray} (h : 64 ≤ s.size) : cnt s = 256 * (s[2]'(by omega)).toNat + (s[3]'(by omega)).toNat := by
  have hl := bs_length s
  have h2 : (bs s)[2]'(by omega) = (s[2]'(by omega)).toNat := by simp [bs, ByteArray.getElem_eq_getElem_data]
  have h3 : (bs s)[3]'(by omega) = (s[3]'(by omega)).toNat := by simp [bs, ByteArray.getElem_eq_getElem_data]
  unfold cnt
  rw [List.drop_eq_getElem_cons (by omega), List.drop_eq_getElem_cons (by omega), List.take_succ_cons, List.take_succ_cons, List.take_zero, h2, h3]
  simp only [num, List.foldl_cons, List.foldl_nil]
  omega
theorem rH_bad {s : ByteArray} {e : Int} (h : (hN s).2 = e) (he : e ≠ 0) : rH s = (no, 0, 0, e) := by
  unfold rH
  rw [if_neg (by rw [h]; exact he), h]
theorem opened2 {H : ByteArray} (h : 4 ≤ H.size) : (opened H).2 = if str (four (more 0 (bs (H.extract 0 (H.size - 4))))) = H.extract (H.size - 4) H.size then 0 else 13 := by
  unfold opened
  rw [if_neg (by omega)]
  have e : H.extract 0 (H.size - 4) ++ H.extract (H.size - 4) H.size = H := by
    apply bs_inj
    rw [bs_append, bs_rest, bs_extract, List.drop_zero, Nat.sub_zero, List.take_append_drop]
  by_cases hx : str (four (more 0 (bs (H.extract 0 (H.size - 4))))) = H.extract (H.size - 4) H.size
  · rw [if_pos hx, if_pos (by rw [hx, e])]
  · rw [if_neg hx, if_neg]
    intro y
    apply hx
    have y2 : bs (H.extract 0 (H.size - 4)) ++ bs (str (four (more 0 (bs (H.extract 0 (H.size - 4)))))) = bs (H.extract 0 (H.size - 4)) ++ bs (H.extract (H.size - 4) H.size) := by
      rw [← bs_append, ← bs_append, y, e]
    exact bs_inj (List.append_cancel_left y2)
theorem tdP_nil {l : List Nat} (h : (tdP l).2.2 = true) (hk : (tdP l).1.ki ≠ 1) : (tdP l).2.1 = [] := by
  unfold tdP at h hk ⊢
  split at h
  · rename_i h1
    rw [if_pos h1] at hk ⊢
    split at h
    · rename_i h2
      rw [if_pos h2] at hk ⊢
      split at h
      · exact absurd h (by decide)
      · rename_i h3
        rw [if_neg h3]
    · rename_i h2
      rw [if_neg h2] at hk ⊢
      split at h
      · exact absurd h (by decide)
      · rename_i h3
        rw [if_neg h3] at hk ⊢
        split at h
        · rename_i h4
          rw [if_pos h4] at hk ⊢
          split at h
          · rename_i h5
            rw [if_pos h5] at hk
            split at h
            · exact absurd h (by decide)
            · rename_i h6
              rw [if_neg h6] at hk
              exact absurd rfl hk
          · rename_i h5
            rw [if_neg h5]
        · exact absurd h (by decide)
  · exact absurd h (by decide)

set_option maxRecDepth 20000 in
set_option maxHeartbeats 8000000 in
theorem ropen_any (s : ByteArray) (hs : s.size ≤ 1000000) (w : World) (T : Tab w) :
    Calls Tryd.prog 19 #[.string s] w fun e w' => ∃ v', e = .returned (.tuple #[.agg #[.int .i64 (rH s).1.ep, .int .i64 (rH s).1.nu, .int .i64 (rH s).1.ki, v', .string ⟨#[]⟩, .string (rH s).1.tx], .int .i64 ((rH s).2.2.1 : Nat), .int .i64 (need (rH s).1), .string (str (smB (rH s).1 (rH s).2.1)), .int .i64 (rH s).2.2.2]) ∧ Own w' v' (rH s).1.sp ∧ From w.heap.size v' ∧ Below w.heap.size w w' := by
  have hZ0 := rNew w 29
  have hA1 := below_alloc w (.cells #[.int .i64 0, .int .i64 0, .int .i64 0, .slice none 0 0, .string { data := #[] }, .string { data := #[] }] 29)
  generalize hW1 : w.alloc (.cells #[.int .i64 0, .int .i64 0, .int .i64 0, .slice none 0 0, .string { data := #[] }, .string { data := #[] }] 29) = W1 at *
  have hz1 : Hid (w.heap.size < W1.heap.size) := hZ0.lt
  by_cases h64 : s.size < 64
  · have h64' : (s.size : Int) < 64 := by omega
    have HG : Hid (rH s = (no, 0, 0, 10)) := rH_bad (by unfold hN; rw [if_pos h64]) (by decide)
    go_enter Tryd.func19, Tryd.ntmps19
    have z0 := hZ0.box.c0
    have z1 := hZ0.box.c1
    have z2 := hZ0.box.c2
    have z3 := hZ0.box.c3
    have z4 := hZ0.box.c4
    have z5 := hZ0.box.c5
    have y0 := hZ0.fr 0
    have y1 := hZ0.fr 1
    have y2 := hZ0.fr 2
    have y3 := hZ0.fr 3
    have y4 := hZ0.fr 4
    have y5 := hZ0.fr 5
    have hE := ((((((hZ0.set0 (0)).set1 (0)).set2 (0)).set3 (.slice none 0 0)).set4 (⟨#[]⟩)).set5 (⟨#[]⟩))
    have kZ : ∀ (W : World) (i : Nat) (u : Value), Keep (fun k => k = w.heap.size) W (W.setCell ⟨w.heap.size, i, none⟩ u) := fun W i u => Keep.setCell W _ u rfl
    have kAll := (((((kZ W1 0 (.int .i64 0)).trans (kZ _ 1 (.int .i64 0)) fun _ _ x => x).trans (kZ _ 2 (.int .i64 0)) fun _ _ x => x).trans (kZ _ 3 (.slice none 0 0)) fun _ _ x => x).trans (kZ _ 4 (.string ⟨#[]⟩)) fun _ _ x => x).trans (kZ _ 5 (.string ⟨#[]⟩)) fun _ _ x => x
    replace hE := hide hE
    have BF := hA1.trans (kAll.below (B := w.heap.size) hA1.size (fun k hk x => by omega))
    clear kAll kZ hZ0 hA1 
    go_wp2
    have e0 := hE.out.box.c0
    have e1 := hE.out.box.c1
    have e2 := hE.out.box.c2
    have e3 := hE.out.box.c3
    have e4 := hE.out.box.c4
    have e5 := hE.out.box.c5
    refine bodyPost_ret (v := .tuple #[.agg #[.int .i64 0, .int .i64 0, .int .i64 0, .slice none 0 0, .string ⟨#[]⟩, .string ⟨#[]⟩], .int .i64 0, .int .i64 0, .string ⟨#[]⟩, .int .i64 10]) (by simp [results, Tryd.results19, go_sem, e0, e1, e2, e3, e4, e5]) rfl ⟨_, by rw [HG.out]; rfl, by rw [HG.out]; exact Own.nil _, From.nil _ _ _, BF⟩
  · have h64' : ¬ (s.size : Int) < 64 := by omega
    have h64p : 64 ≤ s.size := by omega
    have hi2 : (2 : Int) < (s.size : Int) := by omega
    have hi3 : (3 : Int) < (s.size : Int) := by omega
    have hc2 := cnt_two h64p
    obtain ⟨B2, hB2⟩ : ∃ B2, (s[2]'(by omega)).toNat = B2 := ⟨_, rfl⟩
    obtain ⟨B3, hB3⟩ : ∃ B3, (s[3]'(by omega)).toNat = B3 := ⟨_, rfl⟩
    have hl2 : B2 < 256 := by rw [← hB2]; exact UInt8.toNat_lt _
    have hl3 : B3 < 256 := by rw [← hB3]; exact UInt8.toNat_lt _
    rw [hB2, hB3] at hc2
    have hcI : (256 : Int) * (B2 : Int) + (B3 : Int) = (cnt s : Int) := by omega
    have hc3 : cnt s < 65536 := by omega
    obtain ⟨k, hk0⟩ : ∃ k, Hid (cnt s = k) := ⟨_, rfl⟩
    rw [hk0.out] at hcI hc3
    clear hc2
    go_enter Tryd.func19, Tryd.ntmps19
    go_wp2
    go_region
    have hZ1 := hZ0.later ((Below.refl _ _).drew)
    have BB1 := hA1.trans (((Below.refl W1.heap.size W1).drew).mono hA1.size)
    generalize hW2 : W1.drew = w2 at *
    clear hW2 hZ0 hA1 hB2 hB3 hcI hi2 hi3
    obtain ⟨X, hX⟩ : ∃ X, s.extract 0 2 = X := ⟨_, rfl⟩
    have hXb : bs X = (bs s).take 2 := by rw [← hX, bs_extract, List.drop_zero, Nat.sub_zero]
    have hfm : ∀ (h : ¬ (bs s).take 2 = [76, 82] ∨ cnt s < 1 ∨ 40 < cnt s), rH s = (no, 0, 0, 12) := fun h => rH_bad (by unfold hN; rw [if_neg h64, if_pos h]) (by decide)
    by_cases hx : X = ⟨#[76, 82]⟩
    · subst hx
      by_cases hk1 : k < 1
      · have hk1' : (k : Int) < 1 := by omega
        have HG : Hid (rH s = (no, 0, 0, 12)) := hfm (.inr (.inl (by rw [hk0.out]; exact hk1)))
        clear hfm hk0
        have z0 := hZ1.box.c0
        have z1 := hZ1.box.c1
        have z2 := hZ1.box.c2
        have z3 := hZ1.box.c3
        have z4 := hZ1.box.c4
        have z5 := hZ1.box.c5
        have y0 := hZ1.fr 0
        have y1 := hZ1.fr 1
        have y2 := hZ1.fr 2
        have y3 := hZ1.fr 3
        have y4 := hZ1.fr 4
        have y5 := hZ1.fr 5
        have hE := ((((((hZ1.set0 (0)).set1 (0)).set2 (0)).set3 (.slice none 0 0)).set4 (⟨#[]⟩)).set5 (⟨#[]⟩))
        have kZ : ∀ (W : World) (i : Nat) (u : Value), Keep (fun k => k = w.heap.size) W (W.setCell ⟨w.heap.size, i, none⟩ u) := fun W i u => Keep.setCell W _ u rfl
        have kAll := (((((kZ w2 0 (.int .i64 0)).trans (kZ _ 1 (.int .i64 0)) fun _ _ x => x).trans (kZ _ 2 (.int .i64 0)) fun _ _ x => x).trans (kZ _ 3 (.slice none 0 0)) fun _ _ x => x).trans (kZ _ 4 (.string ⟨#[]⟩)) fun _ _ x => x).trans (kZ _ 5 (.string ⟨#[]⟩)) fun _ _ x => x
        replace hE := hide hE
        have BF := BB1.trans (kAll.below (B := w.heap.size) BB1.size (fun k hk x => by omega))
        clear kAll kZ hZ1 BB1 
        go_wp2
        have e0 := hE.out.box.c0
        have e1 := hE.out.box.c1
        have e2 := hE.out.box.c2
        have e3 := hE.out.box.c3
        have e4 := hE.out.box.c4
        have e5 := hE.out.box.c5
        refine bodyPost_ret (v := .tuple #[.agg #[.int .i64 0, .int .i64 0, .int .i64 0, .slice none 0 0, .string ⟨#[]⟩, .string ⟨#[]⟩], .int .i64 0, .int .i64 0, .string ⟨#[]⟩, .int .i64 12]) (by simp [results, Tryd.results19, go_sem, e0, e1, e2, e3, e4, e5]) rfl ⟨_, by rw [HG.out]; rfl, by rw [HG.out]; exact Own.nil _, From.nil _ _ _, BF⟩
      · by_cases hk2 : 40 < k
        · have hk2' : (40 : Int) < (k : Int) := by omega
          have hk1' : ¬ (k : Int) < 1 := by omega
          have HG : Hid (rH s = (no, 0, 0, 12)) := hfm (.inr (.inr (by rw [hk0.out]; exact hk2)))
          clear hfm hk0
          have z0 := hZ1.box.c0
          have z1 := hZ1.box.c1
          have z2 := hZ1.box.c2
          have z3 := hZ1.box.c3
          have z4 := hZ1.box.c4
          have z5 := hZ1.box.c5
          have y0 := hZ1.fr 0
          have y1 := hZ1.fr 1
          have y2 := hZ1.fr 2
          have y3 := hZ1.fr 3
          have y4 := hZ1.fr 4
          have y5 := hZ1.fr 5
          have hE := ((((((hZ1.set0 (0)).set1 (0)).set2 (0)).set3 (.slice none 0 0)).set4 (⟨#[]⟩)).set5 (⟨#[]⟩))
          have kZ : ∀ (W : World) (i : Nat) (u : Value), Keep (fun k => k = w.heap.size) W (W.setCell ⟨w.heap.size, i, none⟩ u) := fun W i u => Keep.setCell W _ u rfl
          have kAll := (((((kZ w2 0 (.int .i64 0)).trans (kZ _ 1 (.int .i64 0)) fun _ _ x => x).trans (kZ _ 2 (.int .i64 0)) fun _ _ x => x).trans (kZ _ 3 (.slice none 0 0)) fun _ _ x => x).trans (kZ _ 4 (.string ⟨#[]⟩)) fun _ _ x => x).trans (kZ _ 5 (.string ⟨#[]⟩)) fun _ _ x => x
          replace hE := hide hE
          have BF := BB1.trans (kAll.below (B := w.heap.size) BB1.size (fun k hk x => by omega))
          clear kAll kZ hZ1 BB1 
          go_wp2
          have e0 := hE.out.box.c0
          have e1 := hE.out.box.c1
          have e2 := hE.out.box.c2
          have e3 := hE.out.box.c3
          have e4 := hE.out.box.c4
          have e5 := hE.out.box.c5
          refine bodyPost_ret (v := .tuple #[.agg #[.int .i64 0, .int .i64 0, .int .i64 0, .slice none 0 0, .string ⟨#[]⟩, .string ⟨#[]⟩], .int .i64 0, .int .i64 0, .string ⟨#[]⟩, .int .i64 12]) (by simp [results, Tryd.results19, go_sem, e0, e1, e2, e3, e4, e5]) rfl ⟨_, by rw [HG.out]; rfl, by rw [HG.out]; exact Own.nil _, From.nil _ _ _, BF⟩
        · have hk1' : ¬ (k : Int) < 1 := by omega
          have hk2' : ¬ (40 : Int) < (k : Int) := by omega
          have hnf : ¬ (¬ (bs s).take 2 = [76, 82] ∨ cnt s < 1 ∨ 40 < cnt s) := by
            rw [← hXb, hk0.out]
            rintro (h | h | h)
            · exact h rfl
            · omega
            · omega
          clear hfm
          by_cases hsz : s.size < 64 * k
          · have hsz' : (s.size : Int) < 64 * (k : Int) := by omega
            have HG : Hid (rH s = (no, 0, 0, 10)) := rH_bad (by unfold hN; rw [if_neg h64, if_neg hnf, hk0.out, if_pos hsz]) (by decide)
            clear hnf hk0
            have z0 := hZ1.box.c0
            have z1 := hZ1.box.c1
            have z2 := hZ1.box.c2
            have z3 := hZ1.box.c3
            have z4 := hZ1.box.c4
            have z5 := hZ1.box.c5
            have y0 := hZ1.fr 0
            have y1 := hZ1.fr 1
            have y2 := hZ1.fr 2
            have y3 := hZ1.fr 3
            have y4 := hZ1.fr 4
            have y5 := hZ1.fr 5
            have hE := ((((((hZ1.set0 (0)).set1 (0)).set2 (0)).set3 (.slice none 0 0)).set4 (⟨#[]⟩)).set5 (⟨#[]⟩))
            have kZ : ∀ (W : World) (i : Nat) (u : Value), Keep (fun k => k = w.heap.size) W (W.setCell ⟨w.heap.size, i, none⟩ u) := fun W i u => Keep.setCell W _ u rfl
            have kAll := (((((kZ w2 0 (.int .i64 0)).trans (kZ _ 1 (.int .i64 0)) fun _ _ x => x).trans (kZ _ 2 (.int .i64 0)) fun _ _ x => x).trans (kZ _ 3 (.slice none 0 0)) fun _ _ x => x).trans (kZ _ 4 (.string ⟨#[]⟩)) fun _ _ x => x).trans (kZ _ 5 (.string ⟨#[]⟩)) fun _ _ x => x
            replace hE := hide hE
            have BF := BB1.trans (kAll.below (B := w.heap.size) BB1.size (fun k hk x => by omega))
            clear kAll kZ hZ1 BB1 
            go_wp2
            have e0 := hE.out.box.c0
            have e1 := hE.out.box.c1
            have e2 := hE.out.box.c2
            have e3 := hE.out.box.c3
            have e4 := hE.out.box.c4
            have e5 := hE.out.box.c5
            refine bodyPost_ret (v := .tuple #[.agg #[.int .i64 0, .int .i64 0, .int .i64 0, .slice none 0 0, .string ⟨#[]⟩, .string ⟨#[]⟩], .int .i64 0, .int .i64 0, .string ⟨#[]⟩, .int .i64 10]) (by simp [results, Tryd.results19, go_sem, e0, e1, e2, e3, e4, e5]) rfl ⟨_, by rw [HG.out]; rfl, by rw [HG.out]; exact Own.nil _, From.nil _ _ _, BF⟩
          · have hsz' : ¬ (s.size : Int) < 64 * (k : Int) := by omega
            have hsz2 : 64 * k ≤ s.size := by omega
            have hHz : (s.extract 0 (64 * k)).size = 64 * k := by rw [ByteArray.size_extract]; omega
            have hN1 : hN s = if (opened (s.extract 0 (64 * k))).2 = 0 then (k, 0) else (0, (opened (s.extract 0 (64 * k))).2) := by
              unfold hN
              rw [if_neg h64, if_neg hnf, hk0.out, if_neg hsz]
            have hmid : bs ((s.extract 0 (64 * k)).extract 4 ((s.extract 0 (64 * k)).size - 4)) = mid s := by
              unfold mid
              rw [hk0.out, hHz]
            clear hnf
            obtain ⟨H, hH⟩ : ∃ H, s.extract 0 (64 * k) = H := ⟨_, rfl⟩
            have hHc : Hid (s.extract 0 (64 * cnt s) = H) := by show _ = _; rw [hk0.out]; exact hH
            rw [hH] at hHz hN1 hmid
            have ho2 := opened2 (H := H) (by omega)
            rw [hHz] at ho2
            obtain ⟨H1, hH1⟩ : ∃ H1, H.extract 0 (64 * k - 4) = H1 := ⟨_, rfl⟩
            obtain ⟨H2, hH2⟩ : ∃ H2, H.extract (64 * k - 4) (64 * k) = H2 := ⟨_, rfl⟩
            have hH1z : H1.size = 64 * k - 4 := by rw [← hH1, ByteArray.size_extract]; omega
            rw [hH1, hH2] at ho2
            have hM := more_lt' (bs H1)
            have hMo : ∀ w : World, _ := fun w => rmore0 H1 (by omega) w
            have hFo : ∀ w : World, _ := fun w => rfour_any (more 0 (bs H1)) hM w
            generalize more 0 (bs H1) = M at *
            obtain ⟨F, hF⟩ : ∃ F, Hid (str (four M) = F) := ⟨_, rfl⟩
            rw [hF.out] at ho2 hFo
            have hk4 : (64 : Int) * (k : Int) - 4 = ((64 * k - 4 : Nat) : Int) := by omega
            have htl : ∀ w : World, _ := fun w => told_any H (by omega) (by omega) w
            rw [hmid] at htl
            replace hmid := hide hmid
            have hHzI : (64 : Int) * (k : Int) ≤ (s.size : Int) := by omega
            have hk9 : 64 * k - 4 ≤ 64 * k := by omega
            replace hH1z := hide hH1z
            have hne := later_ne w2
            by_cases he : F = H2
            · have he1 : (F.toList == H2.toList) = true := beq_lists he
              have he2 : (F.toList != H2.toList) = false := by rw [bne, he1]; rfl
              have h0 : Hid ((hN s).2 = 0) := by show _ = _; rw [hN1, if_pos (ho2.trans (if_pos he))]
              clear hN1 ho2 hM
              go_wp2
              refine wp_region_later (by kernel_rfl) (by kernel_rfl) ?_
              (repeat (first | go_big_quiet_skip | (go_big_quiet_want; go_big_quiet_op; go_big_quiet_on)))
              (go_big_quiet_want; go_big_quiet_op; apply Exists.intro; refine ⟨fun p => ?_, ?_⟩; (· exact later_of (hMo p.val)); go_big_quiet_on)
              (repeat (first | go_big_quiet_skip | (go_big_quiet_want; go_big_quiet_op; go_big_quiet_on)))
              (go_big_quiet_want; go_big_quiet_op; apply Exists.intro; refine ⟨fun p => ?_, ?_⟩; (· exact later_of (hFo p.val)); go_big_quiet_on)
              (repeat (first | go_big_quiet_skip | (go_big_quiet_want; go_big_quiet_op; go_big_quiet_on)))
              refine wpQuiet_nil ?_
              rintro _ ⟨p, rfl⟩
              have hZ3 := hZ1.later p.below
              have BB3 := BB1.trans (p.below.mono BB1.size)
              generalize p.val = w3 at *
              clear hne hZ1 BB1 p
              clear he1 he2 he hMo hFo hk9
              obtain ⟨ok, hok⟩ : ∃ ok, Hid ((tdP (mid s)).2.2 = ok) := ⟨_, rfl⟩
              rw [hok.out] at htl
              go_wp2_with fail
              refine (htl _).mono ?_
              rintro x w4 ⟨ep, nu, ki, v1, sp, tx, z, rfl, hO, hF1, b4, htd⟩
              have hZ := hZ3.later b4
              have BB4 := BB3.trans (b4.mono BB3.size)
              have T4 := T.later BB4
              have hw4 : Hid (w.heap.size < w4.heap.size) := hZ.lt
              have hF3 : From w.heap.size v1 := fun g hg => Nat.le_trans BB3.size (hF1 g hg)
              have hz3 : Hid (w.heap.size < w3.heap.size) := hZ3.lt
              have hvz0 : Hid (v1.ownBlock ≠ some w.heap.size) := fun x => by have := hF1 _ x; have := hz3.out; omega
              clear htl hZ3 BB3 b4 hF1 hk4
              cases ok with
              | false =>
                obtain ⟨a, m, cap, rfl⟩ := own_form hO
                have bY := below_alloc w4 (.cells #[.int .i64 ep, .int .i64 nu, .int .i64 ki, .slice a m cap, .string ⟨#[]⟩, .string tx] 29)
                have HG : Hid (rH s = (no, 0, 0, 12)) := rH_no h0.out (fun x => by have := x.1; rw [hok.out] at this; cases this)
                replace hZ := hZ.later bY
                have BB5 := BB4.trans (bY.mono BB4.size)
                generalize hW5 : w4.alloc (.cells #[.int .i64 ep, .int .i64 nu, .int .i64 ki, .slice a m cap, .string ⟨#[]⟩, .string tx] 29) = w5 at *
                clear bY BB4 hO htd hok h0 T4 hw4 hF3
                have z0 := hZ.box.c0
                have z1 := hZ.box.c1
                have z2 := hZ.box.c2
                have z3 := hZ.box.c3
                have z4 := hZ.box.c4
                have z5 := hZ.box.c5
                have y0 := hZ.fr 0
                have y1 := hZ.fr 1
                have y2 := hZ.fr 2
                have y3 := hZ.fr 3
                have y4 := hZ.fr 4
                have y5 := hZ.fr 5
                have hE := ((((((hZ.set0 (0)).set1 (0)).set2 (0)).set3 (.slice none 0 0)).set4 (⟨#[]⟩)).set5 (⟨#[]⟩))
                have kZ : ∀ (W : World) (i : Nat) (u : Value), Keep (fun k => k = w.heap.size) W (W.setCell ⟨w.heap.size, i, none⟩ u) := fun W i u => Keep.setCell W _ u rfl
                have kAll := (((((kZ w5 0 (.int .i64 0)).trans (kZ _ 1 (.int .i64 0)) fun _ _ x => x).trans (kZ _ 2 (.int .i64 0)) fun _ _ x => x).trans (kZ _ 3 (.slice none 0 0)) fun _ _ x => x).trans (kZ _ 4 (.string ⟨#[]⟩)) fun _ _ x => x).trans (kZ _ 5 (.string ⟨#[]⟩)) fun _ _ x => x
                replace hE := hide hE
                have BF := BB5.trans (kAll.below (B := w.heap.size) BB5.size (fun k hk x => by omega))
                clear kAll kZ hZ BB5 
                go_wp2
                have e0 := hE.out.box.c0
                have e1 := hE.out.box.c1
                have e2 := hE.out.box.c2
                have e3 := hE.out.box.c3
                have e4 := hE.out.box.c4
                have e5 := hE.out.box.c5
                refine bodyPost_ret (v := .tuple #[.agg #[.int .i64 0, .int .i64 0, .int .i64 0, .slice none 0 0, .string ⟨#[]⟩, .string ⟨#[]⟩], .int .i64 0, .int .i64 0, .string ⟨#[]⟩, .int .i64 12]) (by simp [results, Tryd.results19, go_sem, e0, e1, e2, e3, e4, e5]) rfl ⟨_, by rw [HG.out]; rfl, by rw [HG.out]; exact Own.nil _, From.nil _ _ _, BF⟩
              | true =>
                have hT := htd rfl
                have hT2 : (tdP (mid s)).2.2 = true := hok.out
                obtain ⟨-, f2, f3, f4, f5, f6⟩ := tdP_ok (mid_lt s) hT2
                have f7 := tdP_nil hT2
                rw [hT] at f2 f3 f4 f5 f6 f7
                simp only at f2 f3 f4 f5 f6 f7
                obtain ⟨a, cap, rfl, hS⟩ := hO.sl f2
                have hOw := hO
                have hvz : Hid ((Value.slice a sp.length cap).ownBlock ≠ some w.heap.size) := hvz0
                have hFz : From w.heap.size (.slice a sp.length cap) := hF3
                have hml : (mid s).length ≤ 1000000 := by rw [← hmid.out, bs_length, ByteArray.size_extract]; omega
                have hri : ∀ (w : World) (T : Tab w) (h : Sl w a sp.length sp), _ := fun w T h => right_any ep nu ki a sp.length cap sp tx w T h (by omega) (by omega)
                clear hO htd hok hF3 hvz0 hT2 f2
                by_cases hB0 : hB ⟨ep, nu, ki, sp, ⟨#[]⟩, tx⟩ = 0
                · have hhd : ∀ (w : World) (T : Tab w) (h : Sl w a sp.length sp), _ := fun w T h => rhead_any ep nu ki a sp.length cap sp ⟨#[]⟩ tx w T h (by decide) hB0
                  rw [decide_eq_true hB0] at hri
                  by_cases hk : ki = 1
                  · subst hk
                    have hz4 : z.size = 4 := by rw [← bs_length]; exact f5 rfl
                    have hho : ∀ (w : World) (T : Tab w) (h : Sl w a sp.length sp), _ := fun w T h => rhof_any ep nu a sp.length cap sp ⟨#[]⟩ tx z w T h hz4 hB0
                    have hall : allB sp = true := by
                      obtain ⟨-, -, -, -, h5⟩ := hB_ok hB0
                      simp only at h5
                      rcases h5 with h5 | h5 | h5
                      · exact h5.2.2.2.2.1
                      · omega
                      · omega
                    have hto : ∀ (w : World) (h : Sl w a sp.length sp), _ := fun w h => rtotal_any a sp.length cap sp w h hall (by omega)
                    obtain ⟨G0, hG0⟩ : ∃ G0, Hid (str (hdB (body ⟨ep, nu, 1, sp, ⟨#[]⟩, tx⟩ (more 0 (bs ⟨#[]⟩)))) = G0) := ⟨_, rfl⟩
                    obtain ⟨G1, hG1⟩ : ∃ G1, Hid (str (hdB (body ⟨ep, nu, 1, sp, ⟨#[]⟩, tx⟩ (num (bs z)))) = G1) := ⟨_, rfl⟩
                    rw [hG0.out] at hhd
                    rw [hG1.out] at hho
                    replace hmid := hide hmid
                    by_cases hGH : G1 = H
                    · have g1 : (G1.toList == H.toList) = true := beq_lists hGH
                      have g2 : (G1.toList != H.toList) = false := by rw [bne, g1]; rfl
                      have hopb : opB s := ⟨by rw [hT], by rw [hT]; exact hB0, by rw [hT, hHc.out, ← hGH]; exact hG1.out⟩
                      obtain ⟨sum, HG, hsb⟩ := rH_op h0.out hopb
                      rw [hT, hk0.out] at HG
                      rw [hT] at hsb
                      have hsm : Hid (str (smB ⟨ep, nu, 1, sp, ⟨#[]⟩, tx⟩ sum) = z) := by
                        show _ = _
                        rw [smB, if_pos rfl, ← hsb rfl, str_bs]
                      have hnd : Hid (need ⟨ep, nu, 1, sp, ⟨#[]⟩, tx⟩ = total sp) := if_pos rfl
                      replace HG := hide HG
                      replace hT := hide hT
                      clear hopb hsb f5 f6 f7 f4 hGH
                      have kh1 := below_alloc w4 (.cells #[.int .i64 ep, .int .i64 nu, .int .i64 1, .slice a sp.length cap, .string ⟨#[]⟩, .string tx] 29)
                      replace hZ := hZ.later kh1
                      replace hS := hS.later kh1
                      replace hOw := hOw.later kh1
                      have kB1 := BB4.trans (kh1.mono BB4.size)
                      clear BB4
                      have kT1 := T4.later kh1
                      clear T4
                      have Y := boxR w4 (ep) (nu) (1) (.slice a sp.length cap) (⟨#[]⟩) (tx) 29
                      generalize kW1 : w4.alloc (.cells #[.int .i64 ep, .int .i64 nu, .int .i64 1, .slice a sp.length cap, .string ⟨#[]⟩, .string tx] 29) = kw1 at *
                      clear kh1
                      have Yf0_2 := Y.c0
                      have Yf1_2 := Y.c1
                      have Yf2_2 := Y.c2
                      have Yf3_2 := Y.c3
                      have Yf4_2 := Y.c4
                      have Yf5_2 := Y.c5
                      go_wp2_with fail
                      refine (hri _ kT1 hS).mono ?_
                      rintro e kw3 ⟨rfl, kh3⟩
                      clear Yf0_2 Yf1_2 Yf2_2 Yf3_2 Yf4_2 Yf5_2 kW1
                      replace Y := Y.later (kh3.mono Y.lt)
                      replace hZ := hZ.later kh3
                      replace hS := hS.later kh3
                      replace hOw := hOw.later kh3
                      have kB3 := kB1.trans (kh3.mono kB1.size)
                      clear kB1
                      have kT3 := kT1.later kh3
                      clear kT1
                      clear kh3 hri
                      have Yf0_4 := Y.c0
                      have Yf1_4 := Y.c1
                      have Yf2_4 := Y.c2
                      have Yf3_4 := Y.c3
                      have Yf4_4 := Y.c4
                      have Yf5_4 := Y.c5
                      go_wp2_with fail
                      refine (hhd _ kT3 hS).mono ?_
                      rintro e kw5 ⟨rfl, kh5⟩
                      clear Yf0_4 Yf1_4 Yf2_4 Yf3_4 Yf4_4 Yf5_4
                      replace Y := Y.later (kh5.mono Y.lt)
                      replace hZ := hZ.later kh5
                      replace hS := hS.later kh5
                      replace hOw := hOw.later kh5
                      have kB5 := kB3.trans (kh5.mono kB3.size)
                      clear kB3
                      have kT5 := kT3.later kh5
                      clear kT3
                      clear kh5 hhd
                      have Yf0_6 := Y.c0
                      have Yf1_6 := Y.c1
                      have Yf2_6 := Y.c2
                      have Yf3_6 := Y.c3
                      have Yf4_6 := Y.c4
                      have Yf5_6 := Y.c5
                      go_wp2_with fail
                      refine (hho _ kT5 hS).mono ?_
                      rintro e kw7 ⟨rfl, kh7⟩
                      clear Yf0_6 Yf1_6 Yf2_6 Yf3_6 Yf4_6 Yf5_6
                      replace Y := Y.later (kh7.mono Y.lt)
                      replace hZ := hZ.later kh7
                      replace hS := hS.later kh7
                      replace hOw := hOw.later kh7
                      have kB7 := kB5.trans (kh7.mono kB5.size)
                      clear kB5
                      have kT7 := kT5.later kh7
                      clear kT5
                      clear kh7 hho
                      have Yf0_8 := Y.c0
                      have Yf1_8 := Y.c1
                      have Yf2_8 := Y.c2
                      have Yf3_8 := Y.c3
                      have Yf4_8 := Y.c4
                      have Yf5_8 := Y.c5
                      go_wp2_with fail
                      refine (hto _ hS).mono ?_
                      rintro e kw9 ⟨rfl, kh9⟩
                      clear Yf0_8 Yf1_8 Yf2_8 Yf3_8 Yf4_8 Yf5_8
                      replace Y := Y.later (kh9.mono Y.lt)
                      replace hZ := hZ.later kh9
                      replace hS := hS.later kh9
                      replace hOw := hOw.later kh9
                      have kB9 := kB7.trans (kh9.mono kB7.size)
                      clear kB7
                      have kT9 := kT7.later kh9
                      clear kT7
                      clear kh9 hto
                      have Yf0_10 := Y.c0
                      have Yf1_10 := Y.c1
                      have Yf2_10 := Y.c2
                      have Yf3_10 := Y.c3
                      have Yf4_10 := Y.c4
                      have Yf5_10 := Y.c5
                      clear Yf0_10 Yf1_10 Yf2_10 Yf3_10 Yf4_10 Yf5_10
                      have x0 := Y.c0
                      have x1 := Y.c1
                      have x2 := Y.c2
                      have x3 := Y.c3
                      have x4 := Y.c4
                      have x5 := Y.c5
                      have z0 := hZ.box.c0
                      have z1 := hZ.box.c1
                      have z2 := hZ.box.c2
                      have z3 := hZ.box.c3
                      have z4 := hZ.box.c4
                      have z5 := hZ.box.c5
                      have y0 := hZ.fr 0
                      have y1 := hZ.fr 1
                      have y2 := hZ.fr 2
                      have y3 := hZ.fr 3
                      have y4 := hZ.fr 4
                      have y5 := hZ.fr 5
                      have hE := ((((((hZ.set0 (ep)).set1 (nu)).set2 (1)).set3 (.slice a sp.length cap)).set4 (⟨#[]⟩)).set5 (tx))
                      have kZ : ∀ (W : World) (i : Nat) (u : Value), Keep (fun k => k = w.heap.size) W (W.setCell ⟨w.heap.size, i, none⟩ u) := fun W i u => Keep.setCell W _ u rfl
                      have kAll := (((((kZ kw9 0 (.int .i64 ep)).trans (kZ _ 1 (.int .i64 nu)) fun _ _ x => x).trans (kZ _ 2 (.int .i64 1)) fun _ _ x => x).trans (kZ _ 3 (.slice a sp.length cap)) fun _ _ x => x).trans (kZ _ 4 (.string ⟨#[]⟩)) fun _ _ x => x).trans (kZ _ 5 (.string tx)) fun _ _ x => x
                      replace hE := hide hE
                      have BF := kB9.trans (kAll.below (B := w.heap.size) kB9.size (fun k hk x => by omega))
                      have hOF := (own_keep (own_keep (own_keep (own_keep (own_keep (own_keep hOw (kZ _ 0 (.int .i64 ep)) (fun i hi x => hvz.out (x ▸ hi))) (kZ _ 1 (.int .i64 nu)) (fun i hi x => hvz.out (x ▸ hi))) (kZ _ 2 (.int .i64 1)) (fun i hi x => hvz.out (x ▸ hi))) (kZ _ 3 (.slice a sp.length cap)) (fun i hi x => hvz.out (x ▸ hi))) (kZ _ 4 (.string ⟨#[]⟩)) (fun i hi x => hvz.out (x ▸ hi))) (kZ _ 5 (.string tx)) (fun i hi x => hvz.out (x ▸ hi)))
                      clear kAll kZ hZ kB9 hS
                      go_wp2
                      have e0 := hE.out.box.c0
                      have e1 := hE.out.box.c1
                      have e2 := hE.out.box.c2
                      have e3 := hE.out.box.c3
                      have e4 := hE.out.box.c4
                      have e5 := hE.out.box.c5
                      refine bodyPost_ret (v := .tuple #[.agg #[.int .i64 ep, .int .i64 nu, .int .i64 1, .slice a sp.length cap, .string ⟨#[]⟩, .string tx], .int .i64 ((k : Nat) : Int), .int .i64 (total sp), .string z, .int .i64 0]) (by simp [results, Tryd.results19, go_sem, e0, e1, e2, e3, e4, e5]) rfl ⟨_, by rw [HG.out, hnd.out, hsm.out], by rw [HG.out]; exact hOF, hFz, BF⟩
                    · have g1 : (G1.toList == H.toList) = false := bne_lists hGH
                      have g2 : (G1.toList != H.toList) = true := by rw [bne, g1]; rfl
                      have HG : Hid (rH s = (no, 0, 0, 12)) := rH_no h0.out (fun x => hGH (by
                        have := x.2.2
                        rw [hT, hHc.out] at this
                        rw [← hG1.out]
                        exact this))
                      replace hT := hide hT
                      clear hto f5 f6 f7 f4 hGH
                      have kh1 := below_alloc w4 (.cells #[.int .i64 ep, .int .i64 nu, .int .i64 1, .slice a sp.length cap, .string ⟨#[]⟩, .string tx] 29)
                      replace hZ := hZ.later kh1
                      replace hS := hS.later kh1
                      replace hOw := hOw.later kh1
                      have kB1 := BB4.trans (kh1.mono BB4.size)
                      clear BB4
                      have kT1 := T4.later kh1
                      clear T4
                      have Y := boxR w4 (ep) (nu) (1) (.slice a sp.length cap) (⟨#[]⟩) (tx) 29
                      generalize kW1 : w4.alloc (.cells #[.int .i64 ep, .int .i64 nu, .int .i64 1, .slice a sp.length cap, .string ⟨#[]⟩, .string tx] 29) = kw1 at *
                      clear kh1
                      have Yf0_2 := Y.c0
                      have Yf1_2 := Y.c1
                      have Yf2_2 := Y.c2
                      have Yf3_2 := Y.c3
                      have Yf4_2 := Y.c4
                      have Yf5_2 := Y.c5
                      go_wp2_with fail
                      refine (hri _ kT1 hS).mono ?_
                      rintro e kw3 ⟨rfl, kh3⟩
                      clear Yf0_2 Yf1_2 Yf2_2 Yf3_2 Yf4_2 Yf5_2 kW1
                      replace Y := Y.later (kh3.mono Y.lt)
                      replace hZ := hZ.later kh3
                      replace hS := hS.later kh3
                      replace hOw := hOw.later kh3
                      have kB3 := kB1.trans (kh3.mono kB1.size)
                      clear kB1
                      have kT3 := kT1.later kh3
                      clear kT1
                      clear kh3 hri
                      have Yf0_4 := Y.c0
                      have Yf1_4 := Y.c1
                      have Yf2_4 := Y.c2
                      have Yf3_4 := Y.c3
                      have Yf4_4 := Y.c4
                      have Yf5_4 := Y.c5
                      go_wp2_with fail
                      refine (hhd _ kT3 hS).mono ?_
                      rintro e kw5 ⟨rfl, kh5⟩
                      clear Yf0_4 Yf1_4 Yf2_4 Yf3_4 Yf4_4 Yf5_4
                      replace Y := Y.later (kh5.mono Y.lt)
                      replace hZ := hZ.later kh5
                      replace hS := hS.later kh5
                      replace hOw := hOw.later kh5
                      have kB5 := kB3.trans (kh5.mono kB3.size)
                      clear kB3
                      have kT5 := kT3.later kh5
                      clear kT3
                      clear kh5 hhd
                      have Yf0_6 := Y.c0
                      have Yf1_6 := Y.c1
                      have Yf2_6 := Y.c2
                      have Yf3_6 := Y.c3
                      have Yf4_6 := Y.c4
                      have Yf5_6 := Y.c5
                      go_wp2_with fail
                      refine (hho _ kT5 hS).mono ?_
                      rintro e kw7 ⟨rfl, kh7⟩
                      clear Yf0_6 Yf1_6 Yf2_6 Yf3_6 Yf4_6 Yf5_6
                      replace Y := Y.later (kh7.mono Y.lt)
                      replace hZ := hZ.later kh7
                      replace hS := hS.later kh7
                      replace hOw := hOw.later kh7
                      have kB7 := kB5.trans (kh7.mono kB5.size)
                      clear kB5
                      have kT7 := kT5.later kh7
                      clear kT5
                      clear kh7 hho
                      have Yf0_8 := Y.c0
                      have Yf1_8 := Y.c1
                      have Yf2_8 := Y.c2
                      have Yf3_8 := Y.c3
                      have Yf4_8 := Y.c4
                      have Yf5_8 := Y.c5
                      clear Yf0_8 Yf1_8 Yf2_8 Yf3_8 Yf4_8 Yf5_8
                      have z0 := hZ.box.c0
                      have z1 := hZ.box.c1
                      have z2 := hZ.box.c2
                      have z3 := hZ.box.c3
                      have z4 := hZ.box.c4
                      have z5 := hZ.box.c5
                      have y0 := hZ.fr 0
                      have y1 := hZ.fr 1
                      have y2 := hZ.fr 2
                      have y3 := hZ.fr 3
                      have y4 := hZ.fr 4
                      have y5 := hZ.fr 5
                      have hE := ((((((hZ.set0 (0)).set1 (0)).set2 (0)).set3 (.slice none 0 0)).set4 (⟨#[]⟩)).set5 (⟨#[]⟩))
                      have kZ : ∀ (W : World) (i : Nat) (u : Value), Keep (fun k => k = w.heap.size) W (W.setCell ⟨w.heap.size, i, none⟩ u) := fun W i u => Keep.setCell W _ u rfl
                      have kAll := (((((kZ kw7 0 (.int .i64 0)).trans (kZ _ 1 (.int .i64 0)) fun _ _ x => x).trans (kZ _ 2 (.int .i64 0)) fun _ _ x => x).trans (kZ _ 3 (.slice none 0 0)) fun _ _ x => x).trans (kZ _ 4 (.string ⟨#[]⟩)) fun _ _ x => x).trans (kZ _ 5 (.string ⟨#[]⟩)) fun _ _ x => x
                      replace hE := hide hE
                      have BF := kB7.trans (kAll.below (B := w.heap.size) kB7.size (fun k hk x => by omega))
                      clear kAll kZ hZ kB7 Y hS hOw
                      go_wp2
                      have e0 := hE.out.box.c0
                      have e1 := hE.out.box.c1
                      have e2 := hE.out.box.c2
                      have e3 := hE.out.box.c3
                      have e4 := hE.out.box.c4
                      have e5 := hE.out.box.c5
                      refine bodyPost_ret (v := .tuple #[.agg #[.int .i64 0, .int .i64 0, .int .i64 0, .slice none 0 0, .string ⟨#[]⟩, .string ⟨#[]⟩], .int .i64 0, .int .i64 0, .string ⟨#[]⟩, .int .i64 12]) (by simp [results, Tryd.results19, go_sem, e0, e1, e2, e3, e4, e5]) rfl ⟨_, by rw [HG.out]; rfl, by rw [HG.out]; exact Own.nil _, From.nil _ _ _, BF⟩
                  · have hk1 : (ki == 1) = false := by rwa [beq_eq_false_iff_ne]
                    obtain ⟨G1, hG1⟩ : ∃ G1, Hid (str (hdB (body ⟨ep, nu, ki, sp, ⟨#[]⟩, tx⟩ (more 0 (bs ⟨#[]⟩)))) = G1) := ⟨_, rfl⟩
                    rw [hG1.out] at hhd
                    have hbd : ∀ a b, body ⟨ep, nu, ki, sp, ⟨#[]⟩, tx⟩ a = body ⟨ep, nu, ki, sp, ⟨#[]⟩, tx⟩ b := fun a b => by simp only [body, kd, if_neg hk]
                    have hze : z = ⟨#[]⟩ := bs_inj ((f7 hk).trans rfl)
                    subst hze
                    by_cases hGH : G1 = H
                    · have g1 : (G1.toList == H.toList) = true := beq_lists hGH
                      have g2 : (G1.toList != H.toList) = false := by rw [bne, g1]; rfl
                      have hopb : opB s := ⟨by rw [hT], by rw [hT]; exact hB0, by rw [hT, hHc.out, ← hGH, ← hG1.out]; exact congrArg (fun l => str (hdB l)) (hbd _ _)⟩
                      obtain ⟨sum, HG, hsb⟩ := rH_op h0.out hopb
                      rw [hT, hk0.out] at HG
                      have hsm : Hid (str (smB ⟨ep, nu, ki, sp, ⟨#[]⟩, tx⟩ sum) = ⟨#[]⟩) := by
                        show _ = _
                        rw [smB, if_neg hk]
                        rfl
                      have hnd : Hid (need ⟨ep, nu, ki, sp, ⟨#[]⟩, tx⟩ = 0) := if_neg hk
                      replace HG := hide HG
                      replace hT := hide hT
                      replace hbd := hide hbd
                      clear hopb hsb f5 f6 f7 f4 hGH hk
                      have kh1 := below_alloc w4 (.cells #[.int .i64 ep, .int .i64 nu, .int .i64 ki, .slice a sp.length cap, .string ⟨#[]⟩, .string tx] 29)
                      replace hZ := hZ.later kh1
                      replace hS := hS.later kh1
                      replace hOw := hOw.later kh1
                      have kB1 := BB4.trans (kh1.mono BB4.size)
                      clear BB4
                      have kT1 := T4.later kh1
                      clear T4
                      have Y := boxR w4 (ep) (nu) (ki) (.slice a sp.length cap) (⟨#[]⟩) (tx) 29
                      generalize kW1 : w4.alloc (.cells #[.int .i64 ep, .int .i64 nu, .int .i64 ki, .slice a sp.length cap, .string ⟨#[]⟩, .string tx] 29) = kw1 at *
                      clear kh1
                      have Yf0_2 := Y.c0
                      have Yf1_2 := Y.c1
                      have Yf2_2 := Y.c2
                      have Yf3_2 := Y.c3
                      have Yf4_2 := Y.c4
                      have Yf5_2 := Y.c5
                      go_wp2_with fail
                      refine (hri _ kT1 hS).mono ?_
                      rintro e kw3 ⟨rfl, kh3⟩
                      clear Yf0_2 Yf1_2 Yf2_2 Yf3_2 Yf4_2 Yf5_2 kW1
                      replace Y := Y.later (kh3.mono Y.lt)
                      replace hZ := hZ.later kh3
                      replace hS := hS.later kh3
                      replace hOw := hOw.later kh3
                      have kB3 := kB1.trans (kh3.mono kB1.size)
                      clear kB1
                      have kT3 := kT1.later kh3
                      clear kT1
                      clear kh3 hri
                      have Yf0_4 := Y.c0
                      have Yf1_4 := Y.c1
                      have Yf2_4 := Y.c2
                      have Yf3_4 := Y.c3
                      have Yf4_4 := Y.c4
                      have Yf5_4 := Y.c5
                      go_wp2_with fail
                      refine (hhd _ kT3 hS).mono ?_
                      rintro e kw5 ⟨rfl, kh5⟩
                      clear Yf0_4 Yf1_4 Yf2_4 Yf3_4 Yf4_4 Yf5_4
                      replace Y := Y.later (kh5.mono Y.lt)
                      replace hZ := hZ.later kh5
                      replace hS := hS.later kh5
                      replace hOw := hOw.later kh5
                      have kB5 := kB3.trans (kh5.mono kB3.size)
                      clear kB3
                      have kT5 := kT3.later kh5
                      clear kT3
                      clear kh5 hhd
                      have Yf0_6 := Y.c0
                      have Yf1_6 := Y.c1
                      have Yf2_6 := Y.c2
                      have Yf3_6 := Y.c3
                      have Yf4_6 := Y.c4
                      have Yf5_6 := Y.c5
                      clear Yf0_6 Yf1_6 Yf2_6 Yf3_6 Yf4_6 Yf5_6
                      have x0 := Y.c0
                      have x1 := Y.c1
                      have x2 := Y.c2
                      have x3 := Y.c3
                      have x4 := Y.c4
                      have x5 := Y.c5
                      have z0 := hZ.box.c0
                      have z1 := hZ.box.c1
                      have z2 := hZ.box.c2
                      have z3 := hZ.box.c3
                      have z4 := hZ.box.c4
                      have z5 := hZ.box.c5
                      have y0 := hZ.fr 0
                      have y1 := hZ.fr 1
                      have y2 := hZ.fr 2
                      have y3 := hZ.fr 3
                      have y4 := hZ.fr 4
                      have y5 := hZ.fr 5
                      have hE := ((((((hZ.set0 (ep)).set1 (nu)).set2 (ki)).set3 (.slice a sp.length cap)).set4 (⟨#[]⟩)).set5 (tx))
                      have kZ : ∀ (W : World) (i : Nat) (u : Value), Keep (fun k => k = w.heap.size) W (W.setCell ⟨w.heap.size, i, none⟩ u) := fun W i u => Keep.setCell W _ u rfl
                      have kAll := (((((kZ kw5 0 (.int .i64 ep)).trans (kZ _ 1 (.int .i64 nu)) fun _ _ x => x).trans (kZ _ 2 (.int .i64 ki)) fun _ _ x => x).trans (kZ _ 3 (.slice a sp.length cap)) fun _ _ x => x).trans (kZ _ 4 (.string ⟨#[]⟩)) fun _ _ x => x).trans (kZ _ 5 (.string tx)) fun _ _ x => x
                      replace hE := hide hE
                      have BF := kB5.trans (kAll.below (B := w.heap.size) kB5.size (fun k hk x => by omega))
                      have hOF := (own_keep (own_keep (own_keep (own_keep (own_keep (own_keep hOw (kZ _ 0 (.int .i64 ep)) (fun i hi x => hvz.out (x ▸ hi))) (kZ _ 1 (.int .i64 nu)) (fun i hi x => hvz.out (x ▸ hi))) (kZ _ 2 (.int .i64 ki)) (fun i hi x => hvz.out (x ▸ hi))) (kZ _ 3 (.slice a sp.length cap)) (fun i hi x => hvz.out (x ▸ hi))) (kZ _ 4 (.string ⟨#[]⟩)) (fun i hi x => hvz.out (x ▸ hi))) (kZ _ 5 (.string tx)) (fun i hi x => hvz.out (x ▸ hi)))
                      clear kAll kZ hZ kB5 hS
                      go_wp2
                      have e0 := hE.out.box.c0
                      have e1 := hE.out.box.c1
                      have e2 := hE.out.box.c2
                      have e3 := hE.out.box.c3
                      have e4 := hE.out.box.c4
                      have e5 := hE.out.box.c5
                      refine bodyPost_ret (v := .tuple #[.agg #[.int .i64 ep, .int .i64 nu, .int .i64 ki, .slice a sp.length cap, .string ⟨#[]⟩, .string tx], .int .i64 ((k : Nat) : Int), .int .i64 (0), .string ⟨#[]⟩, .int .i64 0]) (by simp [results, Tryd.results19, go_sem, e0, e1, e2, e3, e4, e5]) rfl ⟨_, by rw [HG.out, hnd.out, hsm.out], by rw [HG.out]; exact hOF, hFz, BF⟩
                    · have g1 : (G1.toList == H.toList) = false := bne_lists hGH
                      have g2 : (G1.toList != H.toList) = true := by rw [bne, g1]; rfl
                      have HG : Hid (rH s = (no, 0, 0, 12)) := rH_no h0.out (fun x => hGH (by
                        have := x.2.2
                        rw [hT, hHc.out] at this
                        simp only at this
                        rw [← hG1.out, ← this]
                        exact congrArg (fun l => str (hdB l)) (hbd _ _)))
                      replace hT := hide hT
                      replace hbd := hide hbd
                      clear f5 f6 f7 f4 hGH hk
                      have kh1 := below_alloc w4 (.cells #[.int .i64 ep, .int .i64 nu, .int .i64 ki, .slice a sp.length cap, .string ⟨#[]⟩, .string tx] 29)
                      replace hZ := hZ.later kh1
                      replace hS := hS.later kh1
                      replace hOw := hOw.later kh1
                      have kB1 := BB4.trans (kh1.mono BB4.size)
                      clear BB4
                      have kT1 := T4.later kh1
                      clear T4
                      have Y := boxR w4 (ep) (nu) (ki) (.slice a sp.length cap) (⟨#[]⟩) (tx) 29
                      generalize kW1 : w4.alloc (.cells #[.int .i64 ep, .int .i64 nu, .int .i64 ki, .slice a sp.length cap, .string ⟨#[]⟩, .string tx] 29) = kw1 at *
                      clear kh1
                      have Yf0_2 := Y.c0
                      have Yf1_2 := Y.c1
                      have Yf2_2 := Y.c2
                      have Yf3_2 := Y.c3
                      have Yf4_2 := Y.c4
                      have Yf5_2 := Y.c5
                      go_wp2_with fail
                      refine (hri _ kT1 hS).mono ?_
                      rintro e kw3 ⟨rfl, kh3⟩
                      clear Yf0_2 Yf1_2 Yf2_2 Yf3_2 Yf4_2 Yf5_2 kW1
                      replace Y := Y.later (kh3.mono Y.lt)
                      replace hZ := hZ.later kh3
                      replace hS := hS.later kh3
                      replace hOw := hOw.later kh3
                      have kB3 := kB1.trans (kh3.mono kB1.size)
                      clear kB1
                      have kT3 := kT1.later kh3
                      clear kT1
                      clear kh3 hri
                      have Yf0_4 := Y.c0
                      have Yf1_4 := Y.c1
                      have Yf2_4 := Y.c2
                      have Yf3_4 := Y.c3
                      have Yf4_4 := Y.c4
                      have Yf5_4 := Y.c5
                      go_wp2_with fail
                      refine (hhd _ kT3 hS).mono ?_
                      rintro e kw5 ⟨rfl, kh5⟩
                      clear Yf0_4 Yf1_4 Yf2_4 Yf3_4 Yf4_4 Yf5_4
                      replace Y := Y.later (kh5.mono Y.lt)
                      replace hZ := hZ.later kh5
                      replace hS := hS.later kh5
                      replace hOw := hOw.later kh5
                      have kB5 := kB3.trans (kh5.mono kB3.size)
                      clear kB3
                      have kT5 := kT3.later kh5
                      clear kT3
                      clear kh5 hhd
                      have Yf0_6 := Y.c0
                      have Yf1_6 := Y.c1
                      have Yf2_6 := Y.c2
                      have Yf3_6 := Y.c3
                      have Yf4_6 := Y.c4
                      have Yf5_6 := Y.c5
                      clear Yf0_6 Yf1_6 Yf2_6 Yf3_6 Yf4_6 Yf5_6
                      have x2 := Y.c2
                      have z0 := hZ.box.c0
                      have z1 := hZ.box.c1
                      have z2 := hZ.box.c2
                      have z3 := hZ.box.c3
                      have z4 := hZ.box.c4
                      have z5 := hZ.box.c5
                      have y0 := hZ.fr 0
                      have y1 := hZ.fr 1
                      have y2 := hZ.fr 2
                      have y3 := hZ.fr 3
                      have y4 := hZ.fr 4
                      have y5 := hZ.fr 5
                      have hE := ((((((hZ.set0 (0)).set1 (0)).set2 (0)).set3 (.slice none 0 0)).set4 (⟨#[]⟩)).set5 (⟨#[]⟩))
                      have kZ : ∀ (W : World) (i : Nat) (u : Value), Keep (fun k => k = w.heap.size) W (W.setCell ⟨w.heap.size, i, none⟩ u) := fun W i u => Keep.setCell W _ u rfl
                      have kAll := (((((kZ kw5 0 (.int .i64 0)).trans (kZ _ 1 (.int .i64 0)) fun _ _ x => x).trans (kZ _ 2 (.int .i64 0)) fun _ _ x => x).trans (kZ _ 3 (.slice none 0 0)) fun _ _ x => x).trans (kZ _ 4 (.string ⟨#[]⟩)) fun _ _ x => x).trans (kZ _ 5 (.string ⟨#[]⟩)) fun _ _ x => x
                      replace hE := hide hE
                      have BF := kB5.trans (kAll.below (B := w.heap.size) kB5.size (fun k hk x => by omega))
                      clear kAll kZ hZ kB5 Y hS hOw
                      go_wp2
                      have e0 := hE.out.box.c0
                      have e1 := hE.out.box.c1
                      have e2 := hE.out.box.c2
                      have e3 := hE.out.box.c3
                      have e4 := hE.out.box.c4
                      have e5 := hE.out.box.c5
                      refine bodyPost_ret (v := .tuple #[.agg #[.int .i64 0, .int .i64 0, .int .i64 0, .slice none 0 0, .string ⟨#[]⟩, .string ⟨#[]⟩], .int .i64 0, .int .i64 0, .string ⟨#[]⟩, .int .i64 12]) (by simp [results, Tryd.results19, go_sem, e0, e1, e2, e3, e4, e5]) rfl ⟨_, by rw [HG.out]; rfl, by rw [HG.out]; exact Own.nil _, From.nil _ _ _, BF⟩
                · have HG : Hid (rH s = (no, 0, 0, 12)) := rH_no h0.out (fun x => hB0 (by have := x.2.1; rwa [hT] at this))
                  rw [decide_eq_false hB0] at hri
                  replace hT := hide hT
                  clear f5 f6 f7 f4
                  have kh1 := below_alloc w4 (.cells #[.int .i64 ep, .int .i64 nu, .int .i64 ki, .slice a sp.length cap, .string ⟨#[]⟩, .string tx] 29)
                  replace hZ := hZ.later kh1
                  replace hS := hS.later kh1
                  replace hOw := hOw.later kh1
                  have kB1 := BB4.trans (kh1.mono BB4.size)
                  clear BB4
                  have kT1 := T4.later kh1
                  clear T4
                  have Y := boxR w4 (ep) (nu) (ki) (.slice a sp.length cap) (⟨#[]⟩) (tx) 29
                  generalize kW1 : w4.alloc (.cells #[.int .i64 ep, .int .i64 nu, .int .i64 ki, .slice a sp.length cap, .string ⟨#[]⟩, .string tx] 29) = kw1 at *
                  clear kh1
                  have Yf0_2 := Y.c0
                  have Yf1_2 := Y.c1
                  have Yf2_2 := Y.c2
                  have Yf3_2 := Y.c3
                  have Yf4_2 := Y.c4
                  have Yf5_2 := Y.c5
                  go_wp2_with fail
                  refine (hri _ kT1 hS).mono ?_
                  rintro e kw3 ⟨rfl, kh3⟩
                  clear Yf0_2 Yf1_2 Yf2_2 Yf3_2 Yf4_2 Yf5_2 kW1
                  replace Y := Y.later (kh3.mono Y.lt)
                  replace hZ := hZ.later kh3
                  replace hS := hS.later kh3
                  replace hOw := hOw.later kh3
                  have kB3 := kB1.trans (kh3.mono kB1.size)
                  clear kB1
                  have kT3 := kT1.later kh3
                  clear kT1
                  clear kh3 hri
                  have Yf0_4 := Y.c0
                  have Yf1_4 := Y.c1
                  have Yf2_4 := Y.c2
                  have Yf3_4 := Y.c3
                  have Yf4_4 := Y.c4
                  have Yf5_4 := Y.c5
                  clear Yf0_4 Yf1_4 Yf2_4 Yf3_4 Yf4_4 Yf5_4
                  have z0 := hZ.box.c0
                  have z1 := hZ.box.c1
                  have z2 := hZ.box.c2
                  have z3 := hZ.box.c3
                  have z4 := hZ.box.c4
                  have z5 := hZ.box.c5
                  have y0 := hZ.fr 0
                  have y1 := hZ.fr 1
                  have y2 := hZ.fr 2
                  have y3 := hZ.fr 3
                  have y4 := hZ.fr 4
                  have y5 := hZ.fr 5
                  have hE := ((((((hZ.set0 (0)).set1 (0)).set2 (0)).set3 (.slice none 0 0)).set4 (⟨#[]⟩)).set5 (⟨#[]⟩))
                  have kZ : ∀ (W : World) (i : Nat) (u : Value), Keep (fun k => k = w.heap.size) W (W.setCell ⟨w.heap.size, i, none⟩ u) := fun W i u => Keep.setCell W _ u rfl
                  have kAll := (((((kZ kw3 0 (.int .i64 0)).trans (kZ _ 1 (.int .i64 0)) fun _ _ x => x).trans (kZ _ 2 (.int .i64 0)) fun _ _ x => x).trans (kZ _ 3 (.slice none 0 0)) fun _ _ x => x).trans (kZ _ 4 (.string ⟨#[]⟩)) fun _ _ x => x).trans (kZ _ 5 (.string ⟨#[]⟩)) fun _ _ x => x
                  replace hE := hide hE
                  have BF := kB3.trans (kAll.below (B := w.heap.size) kB3.size (fun k hk x => by omega))
                  clear kAll kZ hZ kB3 Y hS hOw
                  go_wp2
                  have e0 := hE.out.box.c0
                  have e1 := hE.out.box.c1
                  have e2 := hE.out.box.c2
                  have e3 := hE.out.box.c3
                  have e4 := hE.out.box.c4
                  have e5 := hE.out.box.c5
                  refine bodyPost_ret (v := .tuple #[.agg #[.int .i64 0, .int .i64 0, .int .i64 0, .slice none 0 0, .string ⟨#[]⟩, .string ⟨#[]⟩], .int .i64 0, .int .i64 0, .string ⟨#[]⟩, .int .i64 12]) (by simp [results, Tryd.results19, go_sem, e0, e1, e2, e3, e4, e5]) rfl ⟨_, by rw [HG.out]; rfl, by rw [HG.out]; exact Own.nil _, From.nil _ _ _, BF⟩
            · have he1 : (F.toList == H2.toList) = false := bne_lists he
              have he2 : (F.toList != H2.toList) = true := by rw [bne, he1]; rfl
              have HG : Hid (rH s = (no, 0, 0, 13)) := rH_bad (by rw [hN1, if_neg (by rw [ho2, if_neg he]; decide)]; exact ho2.trans (if_neg he)) (by decide)
              clear hN1 ho2 hM htl
              go_wp2
              refine wp_region_later (by kernel_rfl) (by kernel_rfl) ?_
              (repeat (first | go_big_quiet_skip | (go_big_quiet_want; go_big_quiet_op; go_big_quiet_on)))
              (go_big_quiet_want; go_big_quiet_op; apply Exists.intro; refine ⟨fun p => ?_, ?_⟩; (· exact later_of (hMo p.val)); go_big_quiet_on)
              (repeat (first | go_big_quiet_skip | (go_big_quiet_want; go_big_quiet_op; go_big_quiet_on)))
              (go_big_quiet_want; go_big_quiet_op; apply Exists.intro; refine ⟨fun p => ?_, ?_⟩; (· exact later_of (hFo p.val)); go_big_quiet_on)
              (repeat (first | go_big_quiet_skip | (go_big_quiet_want; go_big_quiet_op; go_big_quiet_on)))
              refine wpQuiet_nil ?_
              rintro _ ⟨p, rfl⟩
              have hZ3 := hZ1.later p.below
              have BB3 := BB1.trans (p.below.mono BB1.size)
              generalize p.val = w3 at *
              clear hne hZ1 BB1 p
              clear hMo hFo
              have z0 := hZ3.box.c0
              have z1 := hZ3.box.c1
              have z2 := hZ3.box.c2
              have z3 := hZ3.box.c3
              have z4 := hZ3.box.c4
              have z5 := hZ3.box.c5
              have y0 := hZ3.fr 0
              have y1 := hZ3.fr 1
              have y2 := hZ3.fr 2
              have y3 := hZ3.fr 3
              have y4 := hZ3.fr 4
              have y5 := hZ3.fr 5
              have hE := ((((((hZ3.set0 (0)).set1 (0)).set2 (0)).set3 (.slice none 0 0)).set4 (⟨#[]⟩)).set5 (⟨#[]⟩))
              have kZ : ∀ (W : World) (i : Nat) (u : Value), Keep (fun k => k = w.heap.size) W (W.setCell ⟨w.heap.size, i, none⟩ u) := fun W i u => Keep.setCell W _ u rfl
              have kAll := (((((kZ w3 0 (.int .i64 0)).trans (kZ _ 1 (.int .i64 0)) fun _ _ x => x).trans (kZ _ 2 (.int .i64 0)) fun _ _ x => x).trans (kZ _ 3 (.slice none 0 0)) fun _ _ x => x).trans (kZ _ 4 (.string ⟨#[]⟩)) fun _ _ x => x).trans (kZ _ 5 (.string ⟨#[]⟩)) fun _ _ x => x
              replace hE := hide hE
              have BF := BB3.trans (kAll.below (B := w.heap.size) BB3.size (fun k hk x => by omega))
              clear kAll kZ hZ3 BB3 
              go_wp2
              have e0 := hE.out.box.c0
              have e1 := hE.out.box.c1
              have e2 := hE.out.box.c2
              have e3 := hE.out.box.c3
              have e4 := hE.out.box.c4
              have e5 := hE.out.box.c5
              refine bodyPost_ret (v := .tuple #[.agg #[.int .i64 0, .int .i64 0, .int .i64 0, .slice none 0 0, .string ⟨#[]⟩, .string ⟨#[]⟩], .int .i64 0, .int .i64 0, .string ⟨#[]⟩, .int .i64 13]) (by simp [results, Tryd.results19, go_sem, e0, e1, e2, e3, e4, e5]) rfl ⟨_, by rw [HG.out]; rfl, by rw [HG.out]; exact Own.nil _, From.nil _ _ _, BF⟩
    · have hb : ¬ X.toList = [76, 82] := fun h => by
        have h2 := bne_lists hx
        rw [h, show (⟨#[76, 82]⟩ : ByteArray).toList = [76, 82] by decide +kernel] at h2
        simp at h2
      have HG : Hid (rH s = (no, 0, 0, 12)) := hfm (.inl (fun h => hx (bs_inj (by rw [hXb, h]; rfl))))
      clear hfm hk0
      have z0 := hZ1.box.c0
      have z1 := hZ1.box.c1
      have z2 := hZ1.box.c2
      have z3 := hZ1.box.c3
      have z4 := hZ1.box.c4
      have z5 := hZ1.box.c5
      have y0 := hZ1.fr 0
      have y1 := hZ1.fr 1
      have y2 := hZ1.fr 2
      have y3 := hZ1.fr 3
      have y4 := hZ1.fr 4
      have y5 := hZ1.fr 5
      have hE := ((((((hZ1.set0 (0)).set1 (0)).set2 (0)).set3 (.slice none 0 0)).set4 (⟨#[]⟩)).set5 (⟨#[]⟩))
      have kZ : ∀ (W : World) (i : Nat) (u : Value), Keep (fun k => k = w.heap.size) W (W.setCell ⟨w.heap.size, i, none⟩ u) := fun W i u => Keep.setCell W _ u rfl
      have kAll := (((((kZ w2 0 (.int .i64 0)).trans (kZ _ 1 (.int .i64 0)) fun _ _ x => x).trans (kZ _ 2 (.int .i64 0)) fun _ _ x => x).trans (kZ _ 3 (.slice none 0 0)) fun _ _ x => x).trans (kZ _ 4 (.string ⟨#[]⟩)) fun _ _ x => x).trans (kZ _ 5 (.string ⟨#[]⟩)) fun _ _ x => x
      replace hE := hide hE
      have BF := BB1.trans (kAll.below (B := w.heap.size) BB1.size (fun k hk x => by omega))
      clear kAll kZ hZ1 BB1 
      go_wp2
      have e0 := hE.out.box.c0
      have e1 := hE.out.box.c1
      have e2 := hE.out.box.c2
      have e3 := hE.out.box.c3
      have e4 := hE.out.box.c4
      have e5 := hE.out.box.c5
      refine bodyPost_ret (v := .tuple #[.agg #[.int .i64 0, .int .i64 0, .int .i64 0, .slice none 0 0, .string ⟨#[]⟩, .string ⟨#[]⟩], .int .i64 0, .int .i64 0, .string ⟨#[]⟩, .int .i64 12]) (by simp [results, Tryd.results19, go_sem, e0, e1, e2, e3, e4, e5]) rfl ⟨_, by rw [HG.out]; rfl, by rw [HG.out]; exact Own.nil _, From.nil _ _ _, BF⟩
end Re
end Go.Proofs.YtnpbgjafahhadaaDoor
