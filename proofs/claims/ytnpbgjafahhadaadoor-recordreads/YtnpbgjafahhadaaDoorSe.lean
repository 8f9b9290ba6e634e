/- The head with which sectors begin, and how many sectors its data have. -/
import Derived.Test.YtnpbgjafahhadaaDoorRw
import Derived.Test.YtnpbgjafahhadaaDoorSd
import Derived.Test.YtnpbgjafahhadaaDoorSx
namespace Go.Proofs.YtnpbgjafahhadaaDoor
open Go.RowKit
namespace Re
open Cr
set_option maxHeartbeats 8000000 in
set_option maxRecDepth 20000 in
theorem head_rec_any (s : ByteArray) (hs : s.size ≤ 1000000) (w : World) (T : Tab w) :
    Calls Tryd.prog 18 #[.string s] w fun e w' => ∃ v', e = .returned (.tuple #[.agg #[.int .i64 ((rH s).1.ep), .int .i64 ((rH s).1.nu), .int .i64 ((rH s).1.ki), v', .string ⟨#[]⟩, .string (rH s).1.tx], .int .i64 ((rH s).2.2.1 : Nat), .int .i64 (need (rH s).1), .int .i64 (rH s).2.2.2]) ∧ Own w' v' (rH s).1.sp ∧ From w.heap.size v' ∧ Below w.heap.size w w' := by
  have hcl := fun w T => readHead_any s hs w T
  have hE := rH_err s
  have hok := @rH_ok s
  generalize rH s = q at *
  obtain ⟨⟨ep, nu, ki, sp, da, tx⟩, sum, n, er⟩ := q
  simp only at *
  have hZ0 := rNew w 24
  have hA1 := below_alloc w (.cells #[.int .i64 0, .int .i64 0, .int .i64 0, .slice none 0 0, .string { data := #[] }, .string { data := #[] }] 24)
  generalize hW1 : w.alloc (.cells #[.int .i64 0, .int .i64 0, .int .i64 0, .slice none 0 0, .string { data := #[] }, .string { data := #[] }] 24) = W1 at *
  have hc := hcl W1 (T.later hA1)
  clear hcl
  go_enter Tryd.func18, Tryd.ntmps18
  go_wp2_with fail
  refine hc.mono ?_
  rintro x w2 ⟨v', rfl, hO2, hF2, b2⟩
  have hz1 : Hid (w.heap.size < W1.heap.size) := hZ0.lt
  have hZ2 := hZ0.later b2
  have BB2 := hA1.trans (b2.mono hA1.size)
  clear hc hZ0 b2 hW1
  by_cases he0 : er = 0
  · skip
    subst he0
    obtain ⟨hI, -, -, -, -⟩ := hok rfl
    have hIo := hI.ok
    have hId := hI.da
    simp only at hId
    subst hId
    obtain ⟨f1, f2, f3, f4, h5⟩ := hB_ok hIo
    simp only at f1 f2 f3 f4 h5
    clear hI hIo hE hok
    rcases h5 with h5 | h5 | h5
    · skip
      obtain ⟨rfl, t0, n1, n2, al, t2⟩ := h5
      obtain ⟨a, cap, rfl, hS2⟩ := hO2.sl (fun x hx => Fit.of_may (List.all_eq_true.1 al x hx))
      have bA := below_alloc w2 (.cells #[.int .i64 ep, .int .i64 nu, .int .i64 1, .slice a sp.length cap, .string { data := #[] }, .string tx, .int .u32 (sum : Nat)] 61)
      have hX3 := boxH w2 ep nu 1 (.slice a sp.length cap) ⟨#[]⟩ tx sum
      have hZ3 := hZ2.later bA
      have hO3 := hO2.later bA
      have BB3 := BB2.trans (bA.mono BB2.size)
      have hS3 := hS2.later bA
      generalize hW3 : w2.alloc (.cells #[.int .i64 ep, .int .i64 nu, .int .i64 1, .slice a sp.length cap, .string { data := #[] }, .string tx, .int .u32 (sum : Nat)] 61) = W3 at *
      clear hZ2 hO2 BB2 bA hS2
      have hK : Hid (need ⟨ep, nu, 1, sp, ⟨#[]⟩, tx⟩ = total sp) := if_pos rfl
      have hfi := fun w => fld1 (.func (.func 48) #[] #[]) (.func (.func 49) #[] #[]) (.func (.func 50) #[] #[]) (.func (.func 51) #[] #[]) w
      have q0 : ∀ p : Later W3, p.val.cell? ⟨w2.heap.size, 0, none⟩ = some (.int .i64 ep) := fun p => (hX3.later (p.below.mono hX3.r.lt)).r.c0
      have q1 : ∀ p : Later W3, p.val.cell? ⟨w2.heap.size, 1, none⟩ = some (.int .i64 nu) := fun p => (hX3.later (p.below.mono hX3.r.lt)).r.c1
      have q2 : ∀ p : Later W3, p.val.cell? ⟨w2.heap.size, 2, none⟩ = some (.int .i64 1) := fun p => (hX3.later (p.below.mono hX3.r.lt)).r.c2
      have q3 : ∀ p : Later W3, p.val.cell? ⟨w2.heap.size, 3, none⟩ = some (.slice a sp.length cap) := fun p => (hX3.later (p.below.mono hX3.r.lt)).r.c3
      have q4 : ∀ p : Later W3, p.val.cell? ⟨w2.heap.size, 4, none⟩ = some (.string ⟨#[]⟩) := fun p => (hX3.later (p.below.mono hX3.r.lt)).r.c4
      have q5 : ∀ p : Later W3, p.val.cell? ⟨w2.heap.size, 5, none⟩ = some (.string tx) := fun p => (hX3.later (p.below.mono hX3.r.lt)).r.c5
      have hne := later_ne W3
      have hz3 := hZ3.lt
      clear hX3
      go_wp2
      refine wp_region_any (by kernel_rfl) ?_
      change wpAny _ _ _ _ _ _ _ (World.drew _)
      refine takeX (i := 2) (some 21) (.int .i64 (n : Nat)) rfl (by kernel_rfl) (by kernel_rfl) (by kernel_rfl) rfl rfl (by intro w; first | rfl | go_simp) (fun _ _ _ h => h) ?_
      simp only [Act.put, List.setIfInBounds_toArray, List.set_cons_zero, List.set_cons_succ]
      refine wpAny_skipF (C := fun w' => ∃ p : Later W3, w' = p.val) 11 [2] [0, 1, 3, 4, 5, 6, 7, 8, 9, 10] [11, 12, 13, 14] (by kernel_rfl) rfl (by kernel_rfl) (by kernel_rfl) ⟨⟨World.drew W3, (Below.refl _ _).drew⟩, rfl⟩ ?_
      simp only [List.filterMap_cons, List.filterMap_nil, List.getElem?_toArray, List.getElem?_cons_succ, List.getElem?_cons_zero]
      change wpQuiet _ _ _ _ [_, _, _, _, _, _, _, _, _, _] _
      (repeat (first | go_big_quiet_skip | (go_big_quiet_want; go_big_quiet_op; go_big_quiet_on)))
      (go_big_quiet_want; go_big_quiet_op; apply Exists.intro; refine ⟨fun p => ?_, ?_⟩; (· exact later_of (needs1 p.val)); go_big_quiet_on)
      (repeat (first | go_big_quiet_skip | (go_big_quiet_want; go_big_quiet_op; go_big_quiet_on)))
      (go_big_quiet_want; go_big_quiet_op; apply Exists.intro; refine ⟨fun p => ?_, ?_⟩; (· exact later_of (total_any ep nu 1 a sp.length cap sp ⟨#[]⟩ tx p.val (hS3.later p.below) al (by omega))); go_big_quiet_on)
      (repeat (first | go_big_quiet_skip | (go_big_quiet_want; go_big_quiet_op; go_big_quiet_on)))
      refine wpQuiet_nil ?_
      rintro _ ⟨p, rfl⟩
      have hZ4 := hZ3.later p.below
      have hO4 := hO3.later p.below
      have BB4 := BB3.trans (p.below.mono BB3.size)
      have hvz : (Value.slice a sp.length cap).ownBlock ≠ some w.heap.size := fun h => by have := hF2 _ h; have := hz1.out; omega
      have hFv : From w.heap.size (.slice a sp.length cap) := fun k hk => by have := hF2 k hk; have := hz1.out; omega
      generalize p.val = W4 at *
      clear q0 q1 q2 q3 q4 q5 hne hZ3 hO3 BB3 hfi p
      have z0 := hZ4.box.c0
      have z1 := hZ4.box.c1
      have z2 := hZ4.box.c2
      have z3 := hZ4.box.c3
      have z4 := hZ4.box.c4
      have z5 := hZ4.box.c5
      have y0 := hZ4.fr 0
      have y1 := hZ4.fr 1
      have y2 := hZ4.fr 2
      have y3 := hZ4.fr 3
      have y4 := hZ4.fr 4
      have y5 := hZ4.fr 5
      have hE := ((((((hZ4.set0 (ep)).set1 (nu)).set2 (1)).set3 (.slice a sp.length cap)).set4 (⟨#[]⟩)).set5 (tx))
      have kZ : ∀ (W : World) (i : Nat) (u : Value), Keep (fun k => k = w.heap.size) W (W.setCell ⟨w.heap.size, i, none⟩ u) := fun W i u => Keep.setCell W _ u rfl
      have kAll := (((((kZ W4 0 (.int .i64 ep)).trans (kZ _ 1 (.int .i64 nu)) fun _ _ x => x).trans (kZ _ 2 (.int .i64 1)) fun _ _ x => x).trans (kZ _ 3 (.slice a sp.length cap)) fun _ _ x => x).trans (kZ _ 4 (.string ⟨#[]⟩)) fun _ _ x => x).trans (kZ _ 5 (.string tx)) fun _ _ x => x
      replace hE := hide hE
      have BF := BB4.trans (kAll.below (B := w.heap.size) BB4.size (fun k hk x => by omega))
      have hOF := (own_keep (own_keep (own_keep (own_keep (own_keep (own_keep hO4 (kZ _ 0 (.int .i64 ep)) (fun i hi x => hvz (x ▸ hi))) (kZ _ 1 (.int .i64 nu)) (fun i hi x => hvz (x ▸ hi))) (kZ _ 2 (.int .i64 1)) (fun i hi x => hvz (x ▸ hi))) (kZ _ 3 (.slice a sp.length cap)) (fun i hi x => hvz (x ▸ hi))) (kZ _ 4 (.string ⟨#[]⟩)) (fun i hi x => hvz (x ▸ hi))) (kZ _ 5 (.string tx)) (fun i hi x => hvz (x ▸ hi)))
      clear kAll kZ hZ4 BB4
      go_wp2
      have e0 := hE.out.box.c0
      have e1 := hE.out.box.c1
      have e2 := hE.out.box.c2
      have e3 := hE.out.box.c3
      have e4 := hE.out.box.c4
      have e5 := hE.out.box.c5
      refine bodyPost_ret (v := .tuple #[.agg #[.int .i64 (ep), .int .i64 (nu), .int .i64 (1), .slice a sp.length cap, .string ⟨#[]⟩, .string tx], .int .i64 (n : Nat), .int .i64 (total sp), .int .i64 0]) (by simp [results, Tryd.results18, go_sem, e0, e1, e2, e3, e4, e5]) rfl ⟨_, by rw [hK.out], hOF, hFv, BF⟩
    · skip
      obtain ⟨rfl, t0, n1, n2, al⟩ := h5
      obtain ⟨a, cap, rfl, hS2⟩ := hO2.sl (fun x hx => Fit.of_may (List.all_eq_true.1 al x hx))
      have bA := below_alloc w2 (.cells #[.int .i64 ep, .int .i64 nu, .int .i64 2, .slice a sp.length cap, .string { data := #[] }, .string tx, .int .u32 (sum : Nat)] 61)
      have hX3 := boxH w2 ep nu 2 (.slice a sp.length cap) ⟨#[]⟩ tx sum
      have hZ3 := hZ2.later bA
      have hO3 := hO2.later bA
      have BB3 := BB2.trans (bA.mono BB2.size)
      have hS3 := hS2.later bA
      generalize hW3 : w2.alloc (.cells #[.int .i64 ep, .int .i64 nu, .int .i64 2, .slice a sp.length cap, .string { data := #[] }, .string tx, .int .u32 (sum : Nat)] 61) = W3 at *
      clear hZ2 hO2 BB2 bA hS2
      have hK : Hid (need ⟨ep, nu, 2, sp, ⟨#[]⟩, tx⟩ = 0) := if_neg (by show ¬ (2 : Int) = 1; decide)
      have hfi := fun w => fld1 (.func (.func 52) #[] #[]) (.func (.func 53) #[] #[]) (.func (.func 54) #[] #[]) (.func (.func 55) #[] #[]) w
      have q0 : ∀ p : Later W3, p.val.cell? ⟨w2.heap.size, 0, none⟩ = some (.int .i64 ep) := fun p => (hX3.later (p.below.mono hX3.r.lt)).r.c0
      have q1 : ∀ p : Later W3, p.val.cell? ⟨w2.heap.size, 1, none⟩ = some (.int .i64 nu) := fun p => (hX3.later (p.below.mono hX3.r.lt)).r.c1
      have q2 : ∀ p : Later W3, p.val.cell? ⟨w2.heap.size, 2, none⟩ = some (.int .i64 2) := fun p => (hX3.later (p.below.mono hX3.r.lt)).r.c2
      have q3 : ∀ p : Later W3, p.val.cell? ⟨w2.heap.size, 3, none⟩ = some (.slice a sp.length cap) := fun p => (hX3.later (p.below.mono hX3.r.lt)).r.c3
      have q4 : ∀ p : Later W3, p.val.cell? ⟨w2.heap.size, 4, none⟩ = some (.string ⟨#[]⟩) := fun p => (hX3.later (p.below.mono hX3.r.lt)).r.c4
      have q5 : ∀ p : Later W3, p.val.cell? ⟨w2.heap.size, 5, none⟩ = some (.string tx) := fun p => (hX3.later (p.below.mono hX3.r.lt)).r.c5
      have hne := later_ne W3
      have hz3 := hZ3.lt
      clear hX3
      go_wp2
      refine wp_region_any (by kernel_rfl) ?_
      change wpAny _ _ _ _ _ _ _ (World.drew _)
      refine takeX (i := 2) (some 21) (.int .i64 (n : Nat)) rfl (by kernel_rfl) (by kernel_rfl) (by kernel_rfl) rfl rfl (by intro w; first | rfl | go_simp) (fun _ _ _ h => h) ?_
      simp only [Act.put, List.setIfInBounds_toArray, List.set_cons_zero, List.set_cons_succ]
      refine wpAny_skipF (C := fun w' => ∃ p : Later W3, w' = p.val) 11 [2] [0, 1, 3, 4, 5, 6, 7, 8, 9, 10] [11, 12, 13, 14] (by kernel_rfl) rfl (by kernel_rfl) (by kernel_rfl) ⟨⟨World.drew W3, (Below.refl _ _).drew⟩, rfl⟩ ?_
      simp only [List.filterMap_cons, List.filterMap_nil, List.getElem?_toArray, List.getElem?_cons_succ, List.getElem?_cons_zero]
      change wpQuiet _ _ _ _ [_, _, _, _, _, _, _, _, _, _] _
      (repeat (first | go_big_quiet_skip | (go_big_quiet_want; go_big_quiet_op; go_big_quiet_on)))
      (go_big_quiet_want; go_big_quiet_op; apply Exists.intro; refine ⟨fun p => ?_, ?_⟩; (· exact later_of (needs2 p.val)); go_big_quiet_on)
      (repeat (first | go_big_quiet_skip | (go_big_quiet_want; go_big_quiet_op; go_big_quiet_on)))
      (go_big_quiet_want; go_big_quiet_op; apply Exists.intro; refine ⟨fun p => ?_, ?_⟩; (· exact later_of (noData_any ep nu 2 (.slice a sp.length cap) ⟨#[]⟩ tx p.val)); go_big_quiet_on)
      (repeat (first | go_big_quiet_skip | (go_big_quiet_want; go_big_quiet_op; go_big_quiet_on)))
      refine wpQuiet_nil ?_
      rintro _ ⟨p, rfl⟩
      have hZ4 := hZ3.later p.below
      have hO4 := hO3.later p.below
      have BB4 := BB3.trans (p.below.mono BB3.size)
      have hvz : (Value.slice a sp.length cap).ownBlock ≠ some w.heap.size := fun h => by have := hF2 _ h; have := hz1.out; omega
      have hFv : From w.heap.size (.slice a sp.length cap) := fun k hk => by have := hF2 k hk; have := hz1.out; omega
      generalize p.val = W4 at *
      clear q0 q1 q2 q3 q4 q5 hne hZ3 hO3 BB3 hfi p
      have z0 := hZ4.box.c0
      have z1 := hZ4.box.c1
      have z2 := hZ4.box.c2
      have z3 := hZ4.box.c3
      have z4 := hZ4.box.c4
      have z5 := hZ4.box.c5
      have y0 := hZ4.fr 0
      have y1 := hZ4.fr 1
      have y2 := hZ4.fr 2
      have y3 := hZ4.fr 3
      have y4 := hZ4.fr 4
      have y5 := hZ4.fr 5
      have hE := ((((((hZ4.set0 (ep)).set1 (nu)).set2 (2)).set3 (.slice a sp.length cap)).set4 (⟨#[]⟩)).set5 (tx))
      have kZ : ∀ (W : World) (i : Nat) (u : Value), Keep (fun k => k = w.heap.size) W (W.setCell ⟨w.heap.size, i, none⟩ u) := fun W i u => Keep.setCell W _ u rfl
      have kAll := (((((kZ W4 0 (.int .i64 ep)).trans (kZ _ 1 (.int .i64 nu)) fun _ _ x => x).trans (kZ _ 2 (.int .i64 2)) fun _ _ x => x).trans (kZ _ 3 (.slice a sp.length cap)) fun _ _ x => x).trans (kZ _ 4 (.string ⟨#[]⟩)) fun _ _ x => x).trans (kZ _ 5 (.string tx)) fun _ _ x => x
      replace hE := hide hE
      have BF := BB4.trans (kAll.below (B := w.heap.size) BB4.size (fun k hk x => by omega))
      have hOF := (own_keep (own_keep (own_keep (own_keep (own_keep (own_keep hO4 (kZ _ 0 (.int .i64 ep)) (fun i hi x => hvz (x ▸ hi))) (kZ _ 1 (.int .i64 nu)) (fun i hi x => hvz (x ▸ hi))) (kZ _ 2 (.int .i64 2)) (fun i hi x => hvz (x ▸ hi))) (kZ _ 3 (.slice a sp.length cap)) (fun i hi x => hvz (x ▸ hi))) (kZ _ 4 (.string ⟨#[]⟩)) (fun i hi x => hvz (x ▸ hi))) (kZ _ 5 (.string tx)) (fun i hi x => hvz (x ▸ hi)))
      clear kAll kZ hZ4 BB4
      go_wp2
      have e0 := hE.out.box.c0
      have e1 := hE.out.box.c1
      have e2 := hE.out.box.c2
      have e3 := hE.out.box.c3
      have e4 := hE.out.box.c4
      have e5 := hE.out.box.c5
      refine bodyPost_ret (v := .tuple #[.agg #[.int .i64 (ep), .int .i64 (nu), .int .i64 (2), .slice a sp.length cap, .string ⟨#[]⟩, .string tx], .int .i64 (n : Nat), .int .i64 (0), .int .i64 0]) (by simp [results, Tryd.results18, go_sem, e0, e1, e2, e3, e4, e5]) rfl ⟨_, by rw [hK.out], hOF, hFv, BF⟩
    · skip
      obtain ⟨rfl, n0, t0⟩ := h5
      replace n0 := hide n0
      obtain ⟨a, cap, rfl, hS2⟩ := hO2.sl (fun x hx => by rw [List.length_eq_zero_iff.1 n0.out] at hx; simp at hx)
      have bA := below_alloc w2 (.cells #[.int .i64 ep, .int .i64 nu, .int .i64 3, .slice a sp.length cap, .string { data := #[] }, .string tx, .int .u32 (sum : Nat)] 61)
      have hX3 := boxH w2 ep nu 3 (.slice a sp.length cap) ⟨#[]⟩ tx sum
      have hZ3 := hZ2.later bA
      have hO3 := hO2.later bA
      have BB3 := BB2.trans (bA.mono BB2.size)
      have hS3 := hS2.later bA
      generalize hW3 : w2.alloc (.cells #[.int .i64 ep, .int .i64 nu, .int .i64 3, .slice a sp.length cap, .string { data := #[] }, .string tx, .int .u32 (sum : Nat)] 61) = W3 at *
      clear hZ2 hO2 BB2 bA hS2
      have hK : Hid (need ⟨ep, nu, 3, sp, ⟨#[]⟩, tx⟩ = 0) := if_neg (by show ¬ (3 : Int) = 1; decide)
      have hfi := fun w => fld1 (.func (.func 56) #[] #[]) (.func (.func 53) #[] #[]) (.func (.func 57) #[] #[]) (.func (.func 58) #[] #[]) w
      have q0 : ∀ p : Later W3, p.val.cell? ⟨w2.heap.size, 0, none⟩ = some (.int .i64 ep) := fun p => (hX3.later (p.below.mono hX3.r.lt)).r.c0
      have q1 : ∀ p : Later W3, p.val.cell? ⟨w2.heap.size, 1, none⟩ = some (.int .i64 nu) := fun p => (hX3.later (p.below.mono hX3.r.lt)).r.c1
      have q2 : ∀ p : Later W3, p.val.cell? ⟨w2.heap.size, 2, none⟩ = some (.int .i64 3) := fun p => (hX3.later (p.below.mono hX3.r.lt)).r.c2
      have q3 : ∀ p : Later W3, p.val.cell? ⟨w2.heap.size, 3, none⟩ = some (.slice a sp.length cap) := fun p => (hX3.later (p.below.mono hX3.r.lt)).r.c3
      have q4 : ∀ p : Later W3, p.val.cell? ⟨w2.heap.size, 4, none⟩ = some (.string ⟨#[]⟩) := fun p => (hX3.later (p.below.mono hX3.r.lt)).r.c4
      have q5 : ∀ p : Later W3, p.val.cell? ⟨w2.heap.size, 5, none⟩ = some (.string tx) := fun p => (hX3.later (p.below.mono hX3.r.lt)).r.c5
      have hne := later_ne W3
      have hz3 := hZ3.lt
      clear hX3
      go_wp2
      refine wp_region_any (by kernel_rfl) ?_
      change wpAny _ _ _ _ _ _ _ (World.drew _)
      refine takeX (i := 2) (some 21) (.int .i64 (n : Nat)) rfl (by kernel_rfl) (by kernel_rfl) (by kernel_rfl) rfl rfl (by intro w; first | rfl | go_simp) (fun _ _ _ h => h) ?_
      simp only [Act.put, List.setIfInBounds_toArray, List.set_cons_zero, List.set_cons_succ]
      refine wpAny_skipF (C := fun w' => ∃ p : Later W3, w' = p.val) 11 [2] [0, 1, 3, 4, 5, 6, 7, 8, 9, 10] [11, 12, 13, 14] (by kernel_rfl) rfl (by kernel_rfl) (by kernel_rfl) ⟨⟨World.drew W3, (Below.refl _ _).drew⟩, rfl⟩ ?_
      simp only [List.filterMap_cons, List.filterMap_nil, List.getElem?_toArray, List.getElem?_cons_succ, List.getElem?_cons_zero]
      change wpQuiet _ _ _ _ [_, _, _, _, _, _, _, _, _, _] _
      (repeat (first | go_big_quiet_skip | (go_big_quiet_want; go_big_quiet_op; go_big_quiet_on)))
      (go_big_quiet_want; go_big_quiet_op; apply Exists.intro; refine ⟨fun p => ?_, ?_⟩; (· exact later_of (needs3 p.val)); go_big_quiet_on)
      (repeat (first | go_big_quiet_skip | (go_big_quiet_want; go_big_quiet_op; go_big_quiet_on)))
      (go_big_quiet_want; go_big_quiet_op; apply Exists.intro; refine ⟨fun p => ?_, ?_⟩; (· exact later_of (noData_any ep nu 3 (.slice a sp.length cap) ⟨#[]⟩ tx p.val)); go_big_quiet_on)
      (repeat (first | go_big_quiet_skip | (go_big_quiet_want; go_big_quiet_op; go_big_quiet_on)))
      refine wpQuiet_nil ?_
      rintro _ ⟨p, rfl⟩
      have hZ4 := hZ3.later p.below
      have hO4 := hO3.later p.below
      have BB4 := BB3.trans (p.below.mono BB3.size)
      have hvz : (Value.slice a sp.length cap).ownBlock ≠ some w.heap.size := fun h => by have := hF2 _ h; have := hz1.out; omega
      have hFv : From w.heap.size (.slice a sp.length cap) := fun k hk => by have := hF2 k hk; have := hz1.out; omega
      generalize p.val = W4 at *
      clear q0 q1 q2 q3 q4 q5 hne hZ3 hO3 BB3 hfi p
      have z0 := hZ4.box.c0
      have z1 := hZ4.box.c1
      have z2 := hZ4.box.c2
      have z3 := hZ4.box.c3
      have z4 := hZ4.box.c4
      have z5 := hZ4.box.c5
      have y0 := hZ4.fr 0
      have y1 := hZ4.fr 1
      have y2 := hZ4.fr 2
      have y3 := hZ4.fr 3
      have y4 := hZ4.fr 4
      have y5 := hZ4.fr 5
      have hE := ((((((hZ4.set0 (ep)).set1 (nu)).set2 (3)).set3 (.slice a sp.length cap)).set4 (⟨#[]⟩)).set5 (tx))
      have kZ : ∀ (W : World) (i : Nat) (u : Value), Keep (fun k => k = w.heap.size) W (W.setCell ⟨w.heap.size, i, none⟩ u) := fun W i u => Keep.setCell W _ u rfl
      have kAll := (((((kZ W4 0 (.int .i64 ep)).trans (kZ _ 1 (.int .i64 nu)) fun _ _ x => x).trans (kZ _ 2 (.int .i64 3)) fun _ _ x => x).trans (kZ _ 3 (.slice a sp.length cap)) fun _ _ x => x).trans (kZ _ 4 (.string ⟨#[]⟩)) fun _ _ x => x).trans (kZ _ 5 (.string tx)) fun _ _ x => x
      replace hE := hide hE
      have BF := BB4.trans (kAll.below (B := w.heap.size) BB4.size (fun k hk x => by omega))
      have hOF := (own_keep (own_keep (own_keep (own_keep (own_keep (own_keep hO4 (kZ _ 0 (.int .i64 ep)) (fun i hi x => hvz (x ▸ hi))) (kZ _ 1 (.int .i64 nu)) (fun i hi x => hvz (x ▸ hi))) (kZ _ 2 (.int .i64 3)) (fun i hi x => hvz (x ▸ hi))) (kZ _ 3 (.slice a sp.length cap)) (fun i hi x => hvz (x ▸ hi))) (kZ _ 4 (.string ⟨#[]⟩)) (fun i hi x => hvz (x ▸ hi))) (kZ _ 5 (.string tx)) (fun i hi x => hvz (x ▸ hi)))
      clear kAll kZ hZ4 BB4
      go_wp2
      have e0 := hE.out.box.c0
      have e1 := hE.out.box.c1
      have e2 := hE.out.box.c2
      have e3 := hE.out.box.c3
      have e4 := hE.out.box.c4
      have e5 := hE.out.box.c5
      refine bodyPost_ret (v := .tuple #[.agg #[.int .i64 (ep), .int .i64 (nu), .int .i64 (3), .slice a sp.length cap, .string ⟨#[]⟩, .string tx], .int .i64 (n : Nat), .int .i64 (0), .int .i64 0]) (by simp [results, Tryd.results18, go_sem, e0, e1, e2, e3, e4, e5]) rfl ⟨_, by rw [hK.out], hOF, hFv, BF⟩
  · skip
    have he1 : (er == 0) = false := by simpa using he0
    have e1 : Hid (ep = 0 ∧ nu = 0 ∧ ki = 0 ∧ sp = [] ∧ tx = ⟨#[]⟩ ∧ n = 0) := by
      rcases hE with h | h | h | h
      · exact absurd h he0
      all_goals
        simp only [no, Prod.mk.injEq, Rc.mk.injEq] at h
        exact ⟨h.1.1, h.1.2.1, h.1.2.2.1, h.1.2.2.2.1, h.1.2.2.2.2.2, h.2.2.1⟩
    obtain ⟨rfl, rfl, rfl, rfl, rfl, rfl⟩ := e1.out
    clear e1 hE hok
    obtain ⟨a, m, cap, rfl⟩ := own_form hO2
    have bA := below_alloc w2 (.cells #[.int .i64 0, .int .i64 0, .int .i64 0, .slice a m cap, .string { data := #[] }, .string { data := #[] }, .int .u32 (sum : Nat)] 61)
    have hX3 := boxH w2 0 0 0 (.slice a m cap) ⟨#[]⟩ ⟨#[]⟩ sum
    have hZ3 := hZ2.later bA
    have BB3 := BB2.trans (bA.mono BB2.size)
    generalize hW3 : w2.alloc (.cells #[.int .i64 0, .int .i64 0, .int .i64 0, .slice a m cap, .string { data := #[] }, .string { data := #[] }, .int .u32 (sum : Nat)] 61) = W3 at *
    clear hZ2 BB2 bA hO2 hF2
    have z0 := hZ3.box.c0
    have z1 := hZ3.box.c1
    have z2 := hZ3.box.c2
    have z3 := hZ3.box.c3
    have z4 := hZ3.box.c4
    have z5 := hZ3.box.c5
    have y0 := hZ3.fr 0
    have y1 := hZ3.fr 1
    have y2 := hZ3.fr 2
    have y3 := hZ3.fr 3
    have y4 := hZ3.fr 4
    have y5 := hZ3.fr 5
    have hE := ((((((hZ3.set0 (0)).set1 (0)).set2 (0)).set3 (.slice none 0 0)).set4 (⟨#[]⟩)).set5 (⟨#[]⟩))
    have kZ : ∀ (W : World) (i : Nat) (u : Value), Keep (fun k => k = w.heap.size) W (W.setCell ⟨w.heap.size, i, none⟩ u) := fun W i u => Keep.setCell W _ u rfl
    have kAll := (((((kZ W3 0 (.int .i64 0)).trans (kZ _ 1 (.int .i64 0)) fun _ _ x => x).trans (kZ _ 2 (.int .i64 0)) fun _ _ x => x).trans (kZ _ 3 (.slice none 0 0)) fun _ _ x => x).trans (kZ _ 4 (.string ⟨#[]⟩)) fun _ _ x => x).trans (kZ _ 5 (.string ⟨#[]⟩)) fun _ _ x => x
    replace hE := hide hE
    have BF := BB3.trans (kAll.below (B := w.heap.size) BB3.size (fun k hk x => by omega))
    clear kAll kZ hZ3 BB3 hX3
    go_wp2
    have e0 := hE.out.box.c0
    have e1 := hE.out.box.c1
    have e2 := hE.out.box.c2
    have e3 := hE.out.box.c3
    have e4 := hE.out.box.c4
    have e5 := hE.out.box.c5
    refine bodyPost_ret (v := .tuple #[.agg #[.int .i64 (0), .int .i64 (0), .int .i64 (0), .slice none 0 0, .string ⟨#[]⟩, .string ⟨#[]⟩], .int .i64 0, .int .i64 0, .int .i64 er]) (by simp [results, Tryd.results18, go_sem, e0, e1, e2, e3, e4, e5]) rfl ⟨_, by rfl, Own.nil _, From.nil _ _ _, BF⟩
end Re
end Go.Proofs.YtnpbgjafahhadaaDoor
