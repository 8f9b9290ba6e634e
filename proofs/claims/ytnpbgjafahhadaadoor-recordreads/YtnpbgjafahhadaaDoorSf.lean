/- The record with which sectors begin. -/
import Derived.Test.YtnpbgjafahhadaaDoorRw
import Derived.Test.YtnpbgjafahhadaaDoorSd
import Derived.Test.YtnpbgjafahhadaaDoorSb
import Derived.Test.YtnpbgjafahhadaaDoorRp
namespace Go.Proofs.YtnpbgjafahhadaaDoor
open Go.RowKit
namespace Re
open Cr
open Su
theorem hdBox (w : World) (ep nu ki : Int) (sl : Value) (da tx : ByteArray) (sum : Nat) : HdAt (w.alloc (.cells #[.int .i64 ep, .int .i64 nu, .int .i64 ki, sl, .string da, .string tx, .int .u32 (sum : Nat)] 61)) w.heap.size ep nu ki sl da tx sum :=
  ⟨boxH w ep nu ki sl da tx sum, fun i => by simp⟩
set_option maxHeartbeats 16000000 in
set_option maxRecDepth 20000 in
theorem decode_rec_any (s : ByteArray) (hs : s.size ≤ 1000000) (w : World) (T : Tab w) :
    Calls Tryd.prog 20 #[.string s] w fun e w' => ∃ v', e = .returned (.tuple #[.agg #[.int .i64 ((dR s).1.ep), .int .i64 ((dR s).1.nu), .int .i64 ((dR s).1.ki), v', .string (dR s).1.da, .string (dR s).1.tx], .int .i64 ((dR s).2.1 : Nat), .int .i64 (dR s).2.2]) ∧ Own w' v' (dR s).1.sp ∧ From w.heap.size v' ∧ Below w.heap.size w w' := by
  have hcl := fun w T => readHead_any s hs w T
  have hE := rH_err s
  have hok := @rH_ok s
  obtain ⟨q, hq⟩ : ∃ q, Hid (rH s = q) := ⟨_, rfl⟩
  rw [hq.out] at hcl hE hok
  obtain ⟨⟨ep, nu, ki, sp, da, tx⟩, sum, n, er⟩ := q
  simp only at hcl hE hok
  have hZ0 := rNew w 24
  have hA1 := below_alloc w (.cells #[.int .i64 0, .int .i64 0, .int .i64 0, .slice none 0 0, .string { data := #[] }, .string { data := #[] }] 24)
  generalize hW1 : w.alloc (.cells #[.int .i64 0, .int .i64 0, .int .i64 0, .slice none 0 0, .string { data := #[] }, .string { data := #[] }] 24) = W1 at *
  have hc := hcl W1 (T.later hA1)
  clear hcl
  go_enter Tryd.func20, Tryd.ntmps20
  go_wp2_with fail
  refine hc.mono ?_
  rintro x w2 ⟨v', rfl, hO2, hF2, b2⟩
  have hz1 : Hid (w.heap.size < W1.heap.size) := hZ0.lt
  have hz2 : Hid (w.heap.size < w2.heap.size) := Nat.lt_of_lt_of_le hZ0.lt b2.size
  have hZ2 := hZ0.later b2
  have BB2 := hA1.trans (b2.mono hA1.size)
  clear hc hZ0 b2 hW1
  by_cases he0 : er = 0
  · skip
    subst he0
    obtain ⟨hI, hcn, hle, -, -⟩ := hok rfl
    have hIo := hI.ok
    have hId := hI.da
    simp only at hId
    subst hId
    have hn40 : n ≤ 20000 := by omega
    obtain ⟨f1, f2, f3, f4, h5⟩ := hB_ok hIo
    simp only at f1 f2 f3 f4 h5
    clear hI hE hok hcn
    rcases h5 with h5 | h5 | h5
    · skip
      obtain ⟨rfl, t0, n1, n2, al, t2⟩ := h5
      obtain ⟨a, cap, rfl, hS2⟩ := hO2.sl (fun x hx => Fit.of_may (List.all_eq_true.1 al x hx))
      have bA := below_alloc w2 (.cells #[.int .i64 ep, .int .i64 nu, .int .i64 1, .slice a sp.length cap, .string { data := #[] }, .string tx, .int .u32 (sum : Nat)] 61)
      have hX3 := hdBox w2 ep nu 1 (.slice a sp.length cap) ⟨#[]⟩ tx sum
      have hZ3 := hZ2.later bA
      have hO3 := hO2.later bA
      have BB3 := BB2.trans (bA.mono BB2.size)
      have hvb3 : Hid ((Value.slice a sp.length cap).ownBlock ≠ some w2.heap.size) := hO2.lt _ (Nat.le_refl _)
      have hS3 := hS2.later bA
      generalize hW3 : w2.alloc (.cells #[.int .i64 ep, .int .i64 nu, .int .i64 1, .slice a sp.length cap, .string { data := #[] }, .string tx, .int .u32 (sum : Nat)] 61) = W3 at *
      clear hZ2 hO2 BB2 bA hS2
      have hK : Hid (((nd ⟨ep, nu, 1, sp, ⟨#[]⟩, tx⟩ : Nat) : Int) = total sp) := (nd_need hIo).1.trans (if_pos rfl)
      have hdl := (nd_need hIo).2
      have hD := dR_of hq.out
      generalize nd ⟨ep, nu, 1, sp, ⟨#[]⟩, tx⟩ = d at *
      replace hD := hide hD
      clear hIo
      have hnt := fun p : Later W3 => total_any ep nu 1 a sp.length cap sp ⟨#[]⟩ tx p.val (hS3.later p.below) al (by omega)
      rw [← hK.out] at hnt
      have hfi := fun w => fld1 (.func (.func 48) #[] #[]) (.func (.func 49) #[] #[]) (.func (.func 50) #[] #[]) (.func (.func 51) #[] #[]) w
      have q0 : ∀ p : Later W3, p.val.cell? ⟨w2.heap.size, 0, none⟩ = some (.int .i64 ep) := fun p => (hX3.keep (Keep.of_below (X := fun _ => False) p.below) (fun x => x)).box.r.c0
      have q1 : ∀ p : Later W3, p.val.cell? ⟨w2.heap.size, 1, none⟩ = some (.int .i64 nu) := fun p => (hX3.keep (Keep.of_below (X := fun _ => False) p.below) (fun x => x)).box.r.c1
      have q2 : ∀ p : Later W3, p.val.cell? ⟨w2.heap.size, 2, none⟩ = some (.int .i64 1) := fun p => (hX3.keep (Keep.of_below (X := fun _ => False) p.below) (fun x => x)).box.r.c2
      have q3 : ∀ p : Later W3, p.val.cell? ⟨w2.heap.size, 3, none⟩ = some (.slice a sp.length cap) := fun p => (hX3.keep (Keep.of_below (X := fun _ => False) p.below) (fun x => x)).box.r.c3
      have q4 : ∀ p : Later W3, p.val.cell? ⟨w2.heap.size, 4, none⟩ = some (.string ⟨#[]⟩) := fun p => (hX3.keep (Keep.of_below (X := fun _ => False) p.below) (fun x => x)).box.r.c4
      have q5 : ∀ p : Later W3, p.val.cell? ⟨w2.heap.size, 5, none⟩ = some (.string tx) := fun p => (hX3.keep (Keep.of_below (X := fun _ => False) p.below) (fun x => x)).box.r.c5
      have hne := later_ne W3
      go_wp2
      refine wp_region_later (by kernel_rfl) (by kernel_rfl) ?_
      (repeat (first | go_big_quiet_skip | (go_big_quiet_want; go_big_quiet_op; go_big_quiet_on)))
      (go_big_quiet_want; go_big_quiet_op; apply Exists.intro; refine ⟨fun p => ?_, ?_⟩; (· exact later_of (needs1 p.val)); go_big_quiet_on)
      (repeat (first | go_big_quiet_skip | (go_big_quiet_want; go_big_quiet_op; go_big_quiet_on)))
      (go_big_quiet_want; go_big_quiet_op; apply Exists.intro; refine ⟨fun p => ?_, ?_⟩; (· exact later_of (hnt p)); go_big_quiet_on)
      (repeat (first | go_big_quiet_skip | (go_big_quiet_want; go_big_quiet_op; go_big_quiet_on)))
      refine wpQuiet_nil ?_
      rintro _ ⟨p, rfl⟩
      have hZ4 := hZ3.later p.below
      have hO4 := hO3.later p.below
      have hX4 := hX3.later p.below
      have BB4 := BB3.trans (p.below.mono BB3.size)
      have hvz : (Value.slice a sp.length cap).ownBlock ≠ some w.heap.size := fun h => by have := hF2 _ h; have := hz1.out; omega
      have hvb : (Value.slice a sp.length cap).ownBlock ≠ some w2.heap.size := hvb3.out
      have hFv : From w.heap.size (.slice a sp.length cap) := fun k hk => by have := hF2 k hk; have := hz1.out; omega
      have hzb : w.heap.size ≠ w2.heap.size := by have := hz2.out; omega
      generalize p.val = W4 at *
      clear q0 q1 q2 q3 q4 q5 hne hZ3 hO3 BB3 hfi p hX3 hW3 hS3 hnt
      by_cases hlt : s.size < 64 * (n + d)
      · have hl2 : (s.size : Int) < ((n : Int) + (d : Int)) * 64 := by omega
        have hl3 : (s.size : Int) < (n : Int) * 64 ∨ d ≠ 0 := by omega
        have hG : Hid (dR s = (no, 0, 10)) := hD.out.trans (if_pos hlt)
        clear hD hlt
        have z0 := hZ4.box.c0
        have z1 := hZ4.box.c1
        have z2 := hZ4.box.c2
        have z3 := hZ4.box.c3
        have z4 := hZ4.box.c4
        have z5 := hZ4.box.c5
        have y0 := hZ4.fr 0
        have y1 := hZ4.fr 1
        have y2 := hZ4.fr 2
        have y3 := hZ4.fr 3
        have y4 := hZ4.fr 4
        have y5 := hZ4.fr 5
        have hE := ((((((hZ4.set0 (0)).set1 (0)).set2 (0)).set3 (.slice none 0 0)).set4 (⟨#[]⟩)).set5 (⟨#[]⟩))
        have kZ : ∀ (W : World) (i : Nat) (u : Value), Keep (fun k => k = w.heap.size) W (W.setCell ⟨w.heap.size, i, none⟩ u) := fun W i u => Keep.setCell W _ u rfl
        have kAll := (((((kZ W4 0 (.int .i64 0)).trans (kZ _ 1 (.int .i64 0)) fun _ _ x => x).trans (kZ _ 2 (.int .i64 0)) fun _ _ x => x).trans (kZ _ 3 (.slice none 0 0)) fun _ _ x => x).trans (kZ _ 4 (.string ⟨#[]⟩)) fun _ _ x => x).trans (kZ _ 5 (.string ⟨#[]⟩)) fun _ _ x => x
        replace hE := hide hE
        have BF := BB4.trans (kAll.below (B := w.heap.size) BB4.size (fun k hk x => by omega))
        clear kAll kZ hZ4 BB4
        go_wp2
        have e0 := hE.out.box.c0
        have e1 := hE.out.box.c1
        have e2 := hE.out.box.c2
        have e3 := hE.out.box.c3
        have e4 := hE.out.box.c4
        have e5 := hE.out.box.c5
        refine bodyPost_ret (v := .tuple #[.agg #[.int .i64 (0), .int .i64 (0), .int .i64 (0), .slice none 0 0, .string ⟨#[]⟩, .string ⟨#[]⟩], .int .i64 0, .int .i64 10]) (by simp [results, Tryd.results20, go_sem, e0, e1, e2, e3, e4, e5]) rfl ⟨_, by rw [hG.out]; rfl, by rw [hG.out]; exact Own.nil _, From.nil _ _ _, BF⟩
      · have hl2 : ¬ (s.size : Int) < ((n : Int) + (d : Int)) * 64 := by omega
        have hl3 : n * 64 ≤ s.size ∧ (n + d) * 64 ≤ s.size := by omega
        obtain ⟨hl4, hl5⟩ := hl3
        have hD2 := hD.out.trans (if_neg hlt)
        rw [Nat.mul_comm 64 n, Nat.mul_comm 64 (n + d)] at hD2
        have hXs : (s.extract (n * 64) ((n + d) * 64)).size ≤ 1000000 := by rw [ByteArray.size_extract]; omega
        clear hD hlt
        generalize hXX : s.extract (n * 64) ((n + d) * 64) = X at *
        replace hD2 := hide hD2
        have hM := more_lt' (bs X)
        have hsum0 := fun g (w : World) (T : Tab w) (hc : Ss w (some ⟨g, 0, none⟩) 1 [X]) => sum_any (some ⟨g, 0, none⟩) 1 1 [X] w T hc
        rw [show jn [X] = bs X by simp [jn]] at hsum0
        obtain ⟨M, hMM⟩ : ∃ M, Hid (more 0 (bs X) = M) := ⟨_, rfl⟩
        rw [hMM.out] at hsum0 hM
        have c4 := hX4.box.r.c4
        have f4 := hX4.fr 4
        have kS := Keep.setCell (X := fun k => k = w2.heap.size) W4 ⟨w2.heap.size, 4, none⟩ (.string X) rfl
        have hX5 := hX4.set4 X
        have hZ5 := hZ4.keep kS (fun x => hzb x)
        have hO5 := own_keep hO4 kS (fun i hi x => hvb (x ▸ hi))
        have BB5 := BB4.trans (kS.below (B := w.heap.size) BB4.size (fun k hk x => by have := hz2.out; omega))
        generalize hW5 : W4.setCell ⟨w2.heap.size, 4, none⟩ (.string X) = W5 at *
        have T5 := T.later BB5
        have hsum : ∀ (w2 : World) {g : Nat}, Below W5.heap.size W5 w2 → Ss w2 (some ⟨g, 0, none⟩) 1 [X] → Calls Tryd.prog 27 #[.slice (some ⟨g, 0, none⟩) 1 1] w2 fun e w' => e = .returned (.int .u32 (M : Nat)) ∧ Below w2.heap.size w2 w' := fun w2 g hb hc => same_b (hsum0 g w2 (T5.later hb) hc)
        clear kS hX4 hZ4 hO4 BB4 T5 hsum0
        go_wp2
        clear hW5 hXX c4 f4
        by_cases hms : M = sum
        · skip
          have hMs : ((M : Int) != (sum : Int)) = false := by simp; omega
          refine wp_region_specs [.val (.pointer (some ⟨w2.heap.size, 0, none⟩)), .val (.pointer (some ⟨w2.heap.size, 4, none⟩)), .val (.string X), sOne X, .val (.int .u32 (M : Nat)), .val (.pointer (some ⟨w2.heap.size, 6, none⟩)), .val (.int .u32 (sum : Nat)), .val (.bool false)] (by kernel_rfl) (by kernel_rfl) ?_ ?_
          · skip
            refine ⟨?_, ?_⟩
            · intro A w1 hb ho hd
              have e5 : A.tmps[5]?.getD undef = .pointer (some ⟨w2.heap.size, 0, none⟩) := olds_get ho 5 (by kernel_rfl)
              refine ⟨rfl, goes_value (v := .pointer (some ⟨w2.heap.size, 0, none⟩)) ?_ rfl⟩
              simp [go_sem, e5]
            refine ⟨?_, ?_⟩
            · intro A w1 hb ho hd
              have e43 : A.tmps[43]?.getD undef = .pointer (some ⟨w2.heap.size, 0, none⟩) := getq (hd _ (Array.mem_of_getElem? (i := 0) rfl) rfl _ _ rfl rfl)
              refine ⟨rfl, goes_value (v := .pointer (some ⟨w2.heap.size, 4, none⟩)) ?_ rfl⟩
              simp [go_sem, e43]
            refine ⟨?_, ?_⟩
            · intro A w1 hb ho hd
              have e44 : A.tmps[44]?.getD undef = .pointer (some ⟨w2.heap.size, 4, none⟩) := getq (hd _ (Array.mem_of_getElem? (i := 0) rfl) rfl _ _ rfl rfl)
              have c4 := (hX5.later hb).box.r.c4
              refine ⟨rfl, goes_value (v := .string X) ?_ rfl⟩
              simp [go_sem, e44, c4]
            refine ⟨?_, ?_⟩
            · intro A w1 hb ho hd
              have e45 : A.tmps[45]?.getD undef = .string X := getq (hd _ (Array.mem_of_getElem? (i := 0) rfl) rfl _ _ rfl rfl)
              refine ⟨rfl, goes_alloc (v := .slice (some ⟨w1.heap.size, 0, none⟩) 1 1) (o := .cells #[.string X] 9) ?_ ⟨_, rfl, by simp, Ss.one w1 X (by omega) 9⟩⟩
              simp [go_sem, e45]
            refine ⟨?_, ?_⟩
            · intro A w1 hb ho hd
              obtain ⟨g, hg, hgl, hcg⟩ := hd _ (Array.mem_of_getElem? (i := 0) rfl) rfl _ _ rfl rfl
              have e46 := getq hg
              refine ⟨rfl, goes_call (f := 27) (args := #[.slice (some ⟨g, 0, none⟩) 1 1]) ?_ (hsum w1 hb hcg)⟩
              simp [go_sem, e46]
            refine ⟨?_, ?_⟩
            · intro A w1 hb ho hd
              have e5 : A.tmps[5]?.getD undef = .pointer (some ⟨w2.heap.size, 0, none⟩) := olds_get ho 5 (by kernel_rfl)
              refine ⟨rfl, goes_value (v := .pointer (some ⟨w2.heap.size, 6, none⟩)) ?_ rfl⟩
              simp [go_sem, e5]
            refine ⟨?_, ?_⟩
            · intro A w1 hb ho hd
              have e48 : A.tmps[48]?.getD undef = .pointer (some ⟨w2.heap.size, 6, none⟩) := getq (hd _ (Array.mem_of_getElem? (i := 0) rfl) rfl _ _ rfl rfl)
              have c6 := (hX5.later hb).box.c6
              refine ⟨rfl, goes_value (v := .int .u32 (sum : Nat)) ?_ rfl⟩
              simp [go_sem, e48, c6]
            refine ⟨?_, ?_⟩
            · intro A w1 hb ho hd
              have e47 : A.tmps[47]?.getD undef = .int .u32 (M : Nat) := getq (hd _ (Array.mem_of_getElem? (i := 0) rfl) rfl _ _ rfl rfl)
              have e49 : A.tmps[49]?.getD undef = .int .u32 (sum : Nat) := getq (hd _ (Array.mem_of_getElem? (i := 1) rfl) rfl _ _ rfl rfl)
              refine ⟨rfl, goes_value (v := .bool false) ?_ rfl⟩
              simp [go_sem, e47, e49, hMs]
            trivial
          intro A w9 hb9 hdf hsz9 hol hft
          have m43 : A.tmps.getD 43 undef = .pointer (some ⟨w2.heap.size, 0, none⟩) := hft 0 _ 43 rfl rfl
          have m44 : A.tmps.getD 44 undef = .pointer (some ⟨w2.heap.size, 4, none⟩) := hft 1 _ 44 rfl rfl
          have m45 : A.tmps.getD 45 undef = .string X := hft 2 _ 45 rfl rfl
          have m47 : A.tmps.getD 47 undef = .int .u32 (M : Nat) := hft 4 _ 47 rfl rfl
          have m48 : A.tmps.getD 48 undef = .pointer (some ⟨w2.heap.size, 6, none⟩) := hft 5 _ 48 rfl rfl
          have m49 : A.tmps.getD 49 undef = .int .u32 (sum : Nat) := hft 6 _ 49 rfl rfl
          have m50 : A.tmps.getD 50 undef = .bool false := hft 7 _ 50 rfl rfl
          rename_i KK hKK
          refine hKK _ _ ?_
          show Code.wp _ _ _ A w9
          rw [frame_puts hdf hsz9 hol]
          simp only [List.foldl_cons, List.foldl_nil, Act.put, Option.getD_some, m43, m44, m45, m47, m48, m49, m50, List.setIfInBounds_toArray, List.set_cons_succ, List.set_cons_zero]
          generalize A.tmps.getD 46 undef = v46 at *
          clear m43 m44 m45 m47 m48 m49 m50 hft hol hsz9 hdf hKK
          have hZ9 := hZ5.later hb9
          have hO9 := hO5.later hb9
          have hX9 := hX5.later hb9
          have BB9 := BB5.trans (hb9.mono BB5.size)
          clear hsum hZ5 hO5 hX5 BB5 hb9
          have hG := hide (hD2.out.trans (if_pos (hMM.out.trans hms)))
          clear hD2 hms
          have x0 := hX9.box.r.c0
          have x1 := hX9.box.r.c1
          have x2 := hX9.box.r.c2
          have x3 := hX9.box.r.c3
          have x4 := hX9.box.r.c4
          have x5 := hX9.box.r.c5
          have z0 := hZ9.box.c0
          have z1 := hZ9.box.c1
          have z2 := hZ9.box.c2
          have z3 := hZ9.box.c3
          have z4 := hZ9.box.c4
          have z5 := hZ9.box.c5
          have y0 := hZ9.fr 0
          have y1 := hZ9.fr 1
          have y2 := hZ9.fr 2
          have y3 := hZ9.fr 3
          have y4 := hZ9.fr 4
          have y5 := hZ9.fr 5
          have hE := ((((((hZ9.set0 (ep)).set1 (nu)).set2 (1)).set3 (.slice a sp.length cap)).set4 (X)).set5 (tx))
          have kZ : ∀ (W : World) (i : Nat) (u : Value), Keep (fun k => k = w.heap.size) W (W.setCell ⟨w.heap.size, i, none⟩ u) := fun W i u => Keep.setCell W _ u rfl
          have kAll := (((((kZ w9 0 (.int .i64 ep)).trans (kZ _ 1 (.int .i64 nu)) fun _ _ x => x).trans (kZ _ 2 (.int .i64 1)) fun _ _ x => x).trans (kZ _ 3 (.slice a sp.length cap)) fun _ _ x => x).trans (kZ _ 4 (.string X)) fun _ _ x => x).trans (kZ _ 5 (.string tx)) fun _ _ x => x
          replace hE := hide hE
          have BF := BB9.trans (kAll.below (B := w.heap.size) BB9.size (fun k hk x => by omega))
          have hOF := (own_keep (own_keep (own_keep (own_keep (own_keep (own_keep hO9 (kZ _ 0 (.int .i64 ep)) (fun i hi x => hvz (x ▸ hi))) (kZ _ 1 (.int .i64 nu)) (fun i hi x => hvz (x ▸ hi))) (kZ _ 2 (.int .i64 1)) (fun i hi x => hvz (x ▸ hi))) (kZ _ 3 (.slice a sp.length cap)) (fun i hi x => hvz (x ▸ hi))) (kZ _ 4 (.string X)) (fun i hi x => hvz (x ▸ hi))) (kZ _ 5 (.string tx)) (fun i hi x => hvz (x ▸ hi)))
          clear kAll kZ hZ9 BB9 hX9 hMs
          go_wp2
          have e0 := hE.out.box.c0
          have e1 := hE.out.box.c1
          have e2 := hE.out.box.c2
          have e3 := hE.out.box.c3
          have e4 := hE.out.box.c4
          have e5 := hE.out.box.c5
          refine bodyPost_ret (v := .tuple #[.agg #[.int .i64 (ep), .int .i64 (nu), .int .i64 (1), .slice a sp.length cap, .string X, .string tx], .int .i64 ((n : Int) + (d : Int)), .int .i64 0]) (by simp [results, Tryd.results20, go_sem, e0, e1, e2, e3, e4, e5]) rfl ⟨_, by rw [hG.out]; rfl, by rw [hG.out]; exact hOF, hFv, BF⟩
        · skip
          have hMs : ((M : Int) != (sum : Int)) = true := by simp; omega
          refine wp_region_specs [.val (.pointer (some ⟨w2.heap.size, 0, none⟩)), .val (.pointer (some ⟨w2.heap.size, 4, none⟩)), .val (.string X), sOne X, .val (.int .u32 (M : Nat)), .val (.pointer (some ⟨w2.heap.size, 6, none⟩)), .val (.int .u32 (sum : Nat)), .val (.bool true)] (by kernel_rfl) (by kernel_rfl) ?_ ?_
          · skip
            refine ⟨?_, ?_⟩
            · intro A w1 hb ho hd
              have e5 : A.tmps[5]?.getD undef = .pointer (some ⟨w2.heap.size, 0, none⟩) := olds_get ho 5 (by kernel_rfl)
              refine ⟨rfl, goes_value (v := .pointer (some ⟨w2.heap.size, 0, none⟩)) ?_ rfl⟩
              simp [go_sem, e5]
            refine ⟨?_, ?_⟩
            · intro A w1 hb ho hd
              have e43 : A.tmps[43]?.getD undef = .pointer (some ⟨w2.heap.size, 0, none⟩) := getq (hd _ (Array.mem_of_getElem? (i := 0) rfl) rfl _ _ rfl rfl)
              refine ⟨rfl, goes_value (v := .pointer (some ⟨w2.heap.size, 4, none⟩)) ?_ rfl⟩
              simp [go_sem, e43]
            refine ⟨?_, ?_⟩
            · intro A w1 hb ho hd
              have e44 : A.tmps[44]?.getD undef = .pointer (some ⟨w2.heap.size, 4, none⟩) := getq (hd _ (Array.mem_of_getElem? (i := 0) rfl) rfl _ _ rfl rfl)
              have c4 := (hX5.later hb).box.r.c4
              refine ⟨rfl, goes_value (v := .string X) ?_ rfl⟩
              simp [go_sem, e44, c4]
            refine ⟨?_, ?_⟩
            · intro A w1 hb ho hd
              have e45 : A.tmps[45]?.getD undef = .string X := getq (hd _ (Array.mem_of_getElem? (i := 0) rfl) rfl _ _ rfl rfl)
              refine ⟨rfl, goes_alloc (v := .slice (some ⟨w1.heap.size, 0, none⟩) 1 1) (o := .cells #[.string X] 9) ?_ ⟨_, rfl, by simp, Ss.one w1 X (by omega) 9⟩⟩
              simp [go_sem, e45]
            refine ⟨?_, ?_⟩
            · intro A w1 hb ho hd
              obtain ⟨g, hg, hgl, hcg⟩ := hd _ (Array.mem_of_getElem? (i := 0) rfl) rfl _ _ rfl rfl
              have e46 := getq hg
              refine ⟨rfl, goes_call (f := 27) (args := #[.slice (some ⟨g, 0, none⟩) 1 1]) ?_ (hsum w1 hb hcg)⟩
              simp [go_sem, e46]
            refine ⟨?_, ?_⟩
            · intro A w1 hb ho hd
              have e5 : A.tmps[5]?.getD undef = .pointer (some ⟨w2.heap.size, 0, none⟩) := olds_get ho 5 (by kernel_rfl)
              refine ⟨rfl, goes_value (v := .pointer (some ⟨w2.heap.size, 6, none⟩)) ?_ rfl⟩
              simp [go_sem, e5]
            refine ⟨?_, ?_⟩
            · intro A w1 hb ho hd
              have e48 : A.tmps[48]?.getD undef = .pointer (some ⟨w2.heap.size, 6, none⟩) := getq (hd _ (Array.mem_of_getElem? (i := 0) rfl) rfl _ _ rfl rfl)
              have c6 := (hX5.later hb).box.c6
              refine ⟨rfl, goes_value (v := .int .u32 (sum : Nat)) ?_ rfl⟩
              simp [go_sem, e48, c6]
            refine ⟨?_, ?_⟩
            · intro A w1 hb ho hd
              have e47 : A.tmps[47]?.getD undef = .int .u32 (M : Nat) := getq (hd _ (Array.mem_of_getElem? (i := 0) rfl) rfl _ _ rfl rfl)
              have e49 : A.tmps[49]?.getD undef = .int .u32 (sum : Nat) := getq (hd _ (Array.mem_of_getElem? (i := 1) rfl) rfl _ _ rfl rfl)
              refine ⟨rfl, goes_value (v := .bool true) ?_ rfl⟩
              simp [go_sem, e47, e49, hMs]
            trivial
          intro A w9 hb9 hdf hsz9 hol hft
          have m43 : A.tmps.getD 43 undef = .pointer (some ⟨w2.heap.size, 0, none⟩) := hft 0 _ 43 rfl rfl
          have m44 : A.tmps.getD 44 undef = .pointer (some ⟨w2.heap.size, 4, none⟩) := hft 1 _ 44 rfl rfl
          have m45 : A.tmps.getD 45 undef = .string X := hft 2 _ 45 rfl rfl
          have m47 : A.tmps.getD 47 undef = .int .u32 (M : Nat) := hft 4 _ 47 rfl rfl
          have m48 : A.tmps.getD 48 undef = .pointer (some ⟨w2.heap.size, 6, none⟩) := hft 5 _ 48 rfl rfl
          have m49 : A.tmps.getD 49 undef = .int .u32 (sum : Nat) := hft 6 _ 49 rfl rfl
          have m50 : A.tmps.getD 50 undef = .bool true := hft 7 _ 50 rfl rfl
          rename_i KK hKK
          refine hKK _ _ ?_
          show Code.wp _ _ _ A w9
          rw [frame_puts hdf hsz9 hol]
          simp only [List.foldl_cons, List.foldl_nil, Act.put, Option.getD_some, m43, m44, m45, m47, m48, m49, m50, List.setIfInBounds_toArray, List.set_cons_succ, List.set_cons_zero]
          generalize A.tmps.getD 46 undef = v46 at *
          clear m43 m44 m45 m47 m48 m49 m50 hft hol hsz9 hdf hKK
          have hZ9 := hZ5.later hb9
          have hO9 := hO5.later hb9
          have hX9 := hX5.later hb9
          have BB9 := BB5.trans (hb9.mono BB5.size)
          clear hsum hZ5 hO5 hX5 BB5 hb9
          have hG := hide (hD2.out.trans (if_neg (fun x => hms (hMM.out.symm.trans x))))
          clear hD2 hms hMs hX9
          have z0 := hZ9.box.c0
          have z1 := hZ9.box.c1
          have z2 := hZ9.box.c2
          have z3 := hZ9.box.c3
          have z4 := hZ9.box.c4
          have z5 := hZ9.box.c5
          have y0 := hZ9.fr 0
          have y1 := hZ9.fr 1
          have y2 := hZ9.fr 2
          have y3 := hZ9.fr 3
          have y4 := hZ9.fr 4
          have y5 := hZ9.fr 5
          have hE := ((((((hZ9.set0 (0)).set1 (0)).set2 (0)).set3 (.slice none 0 0)).set4 (⟨#[]⟩)).set5 (⟨#[]⟩))
          have kZ : ∀ (W : World) (i : Nat) (u : Value), Keep (fun k => k = w.heap.size) W (W.setCell ⟨w.heap.size, i, none⟩ u) := fun W i u => Keep.setCell W _ u rfl
          have kAll := (((((kZ w9 0 (.int .i64 0)).trans (kZ _ 1 (.int .i64 0)) fun _ _ x => x).trans (kZ _ 2 (.int .i64 0)) fun _ _ x => x).trans (kZ _ 3 (.slice none 0 0)) fun _ _ x => x).trans (kZ _ 4 (.string ⟨#[]⟩)) fun _ _ x => x).trans (kZ _ 5 (.string ⟨#[]⟩)) fun _ _ x => x
          replace hE := hide hE
          have BF := BB9.trans (kAll.below (B := w.heap.size) BB9.size (fun k hk x => by omega))
          clear kAll kZ hZ9 BB9
          go_wp2
          have e0 := hE.out.box.c0
          have e1 := hE.out.box.c1
          have e2 := hE.out.box.c2
          have e3 := hE.out.box.c3
          have e4 := hE.out.box.c4
          have e5 := hE.out.box.c5
          refine bodyPost_ret (v := .tuple #[.agg #[.int .i64 (0), .int .i64 (0), .int .i64 (0), .slice none 0 0, .string ⟨#[]⟩, .string ⟨#[]⟩], .int .i64 0, .int .i64 13]) (by simp [results, Tryd.results20, go_sem, e0, e1, e2, e3, e4, e5]) rfl ⟨_, by rw [hG.out]; rfl, by rw [hG.out]; exact Own.nil _, From.nil _ _ _, BF⟩
    · skip
      obtain ⟨rfl, t0, n1, n2, al⟩ := h5
      obtain ⟨a, cap, rfl, hS2⟩ := hO2.sl (fun x hx => Fit.of_may (List.all_eq_true.1 al x hx))
      have bA := below_alloc w2 (.cells #[.int .i64 ep, .int .i64 nu, .int .i64 2, .slice a sp.length cap, .string { data := #[] }, .string tx, .int .u32 (sum : Nat)] 61)
      have hX3 := hdBox w2 ep nu 2 (.slice a sp.length cap) ⟨#[]⟩ tx sum
      have hZ3 := hZ2.later bA
      have hO3 := hO2.later bA
      have BB3 := BB2.trans (bA.mono BB2.size)
      have hvb3 : Hid ((Value.slice a sp.length cap).ownBlock ≠ some w2.heap.size) := hO2.lt _ (Nat.le_refl _)
      have hS3 := hS2.later bA
      generalize hW3 : w2.alloc (.cells #[.int .i64 ep, .int .i64 nu, .int .i64 2, .slice a sp.length cap, .string { data := #[] }, .string tx, .int .u32 (sum : Nat)] 61) = W3 at *
      clear hZ2 hO2 BB2 bA hS2
      have hK : Hid (((nd ⟨ep, nu, 2, sp, ⟨#[]⟩, tx⟩ : Nat) : Int) = 0) := (nd_need hIo).1.trans (if_neg (by show ¬ (2 : Int) = 1; decide))
      have hdl := (nd_need hIo).2
      have hD := dR_of hq.out
      generalize nd ⟨ep, nu, 2, sp, ⟨#[]⟩, tx⟩ = d at *
      replace hD := hide hD
      clear hIo
      obtain rfl : d = 0 := by have := hK.out; omega
      have hfi := fun w => fld1 (.func (.func 52) #[] #[]) (.func (.func 53) #[] #[]) (.func (.func 54) #[] #[]) (.func (.func 55) #[] #[]) w
      have q0 : ∀ p : Later W3, p.val.cell? ⟨w2.heap.size, 0, none⟩ = some (.int .i64 ep) := fun p => (hX3.keep (Keep.of_below (X := fun _ => False) p.below) (fun x => x)).box.r.c0
      have q1 : ∀ p : Later W3, p.val.cell? ⟨w2.heap.size, 1, none⟩ = some (.int .i64 nu) := fun p => (hX3.keep (Keep.of_below (X := fun _ => False) p.below) (fun x => x)).box.r.c1
      have q2 : ∀ p : Later W3, p.val.cell? ⟨w2.heap.size, 2, none⟩ = some (.int .i64 2) := fun p => (hX3.keep (Keep.of_below (X := fun _ => False) p.below) (fun x => x)).box.r.c2
      have q3 : ∀ p : Later W3, p.val.cell? ⟨w2.heap.size, 3, none⟩ = some (.slice a sp.length cap) := fun p => (hX3.keep (Keep.of_below (X := fun _ => False) p.below) (fun x => x)).box.r.c3
      have q4 : ∀ p : Later W3, p.val.cell? ⟨w2.heap.size, 4, none⟩ = some (.string ⟨#[]⟩) := fun p => (hX3.keep (Keep.of_below (X := fun _ => False) p.below) (fun x => x)).box.r.c4
      have q5 : ∀ p : Later W3, p.val.cell? ⟨w2.heap.size, 5, none⟩ = some (.string tx) := fun p => (hX3.keep (Keep.of_below (X := fun _ => False) p.below) (fun x => x)).box.r.c5
      have hne := later_ne W3
      go_wp2
      refine wp_region_later (by kernel_rfl) (by kernel_rfl) ?_
      (repeat (first | go_big_quiet_skip | (go_big_quiet_want; go_big_quiet_op; go_big_quiet_on)))
      (go_big_quiet_want; go_big_quiet_op; apply Exists.intro; refine ⟨fun p => ?_, ?_⟩; (· exact later_of (needs2 p.val)); go_big_quiet_on)
      (repeat (first | go_big_quiet_skip | (go_big_quiet_want; go_big_quiet_op; go_big_quiet_on)))
      (go_big_quiet_want; go_big_quiet_op; apply Exists.intro; refine ⟨fun p => ?_, ?_⟩; (· exact later_of (noData_any ep nu 2 (.slice a sp.length cap) ⟨#[]⟩ tx p.val)); go_big_quiet_on)
      (repeat (first | go_big_quiet_skip | (go_big_quiet_want; go_big_quiet_op; go_big_quiet_on)))
      refine wpQuiet_nil ?_
      rintro _ ⟨p, rfl⟩
      have hZ4 := hZ3.later p.below
      have hO4 := hO3.later p.below
      have hX4 := hX3.later p.below
      have BB4 := BB3.trans (p.below.mono BB3.size)
      have hvz : (Value.slice a sp.length cap).ownBlock ≠ some w.heap.size := fun h => by have := hF2 _ h; have := hz1.out; omega
      have hvb : (Value.slice a sp.length cap).ownBlock ≠ some w2.heap.size := hvb3.out
      have hFv : From w.heap.size (.slice a sp.length cap) := fun k hk => by have := hF2 k hk; have := hz1.out; omega
      have hzb : w.heap.size ≠ w2.heap.size := by have := hz2.out; omega
      generalize p.val = W4 at *
      clear q0 q1 q2 q3 q4 q5 hne hZ3 hO3 BB3 hfi p hX3 hW3 hS3 
      by_cases hlt : s.size < 64 * n
      · exact absurd hlt (by omega)
      · have hl2 : ¬ (s.size : Int) < (n : Int) * 64 := by omega
        have hl3 : n * 64 ≤ s.size ∧ n * 64 ≤ s.size := by omega
        obtain ⟨hl4, hl5⟩ := hl3
        have hD2 := hD.out.trans (if_neg (by omega))
        rw [Nat.add_zero, Nat.mul_comm 64 n] at hD2
        have hXs : (s.extract (n * 64) (n * 64)).size ≤ 1000000 := by rw [ByteArray.size_extract]; omega
        clear hD hlt
        have hXe : s.extract (n * 64) (n * 64) = ByteArray.empty := by simp
        rw [hXe] at hD2 hXs
        clear hXe
        generalize hXX : ByteArray.empty = X at *
        replace hD2 := hide hD2
        have hM := more_lt' (bs X)
        have hsum0 := fun g (w : World) (T : Tab w) (hc : Ss w (some ⟨g, 0, none⟩) 1 [X]) => sum_any (some ⟨g, 0, none⟩) 1 1 [X] w T hc
        rw [show jn [X] = bs X by simp [jn]] at hsum0
        obtain ⟨M, hMM⟩ : ∃ M, Hid (more 0 (bs X) = M) := ⟨_, rfl⟩
        rw [hMM.out] at hsum0 hM
        have c4 := hX4.box.r.c4
        have f4 := hX4.fr 4
        have kS := Keep.setCell (X := fun k => k = w2.heap.size) W4 ⟨w2.heap.size, 4, none⟩ (.string X) rfl
        have hX5 := hX4.set4 X
        have hZ5 := hZ4.keep kS (fun x => hzb x)
        have hO5 := own_keep hO4 kS (fun i hi x => hvb (x ▸ hi))
        have BB5 := BB4.trans (kS.below (B := w.heap.size) BB4.size (fun k hk x => by have := hz2.out; omega))
        generalize hW5 : W4.setCell ⟨w2.heap.size, 4, none⟩ (.string X) = W5 at *
        have T5 := T.later BB5
        have hsum : ∀ (w2 : World) {g : Nat}, Below W5.heap.size W5 w2 → Ss w2 (some ⟨g, 0, none⟩) 1 [X] → Calls Tryd.prog 27 #[.slice (some ⟨g, 0, none⟩) 1 1] w2 fun e w' => e = .returned (.int .u32 (M : Nat)) ∧ Below w2.heap.size w2 w' := fun w2 g hb hc => same_b (hsum0 g w2 (T5.later hb) hc)
        clear kS hX4 hZ4 hO4 BB4 T5 hsum0
        go_wp2
        clear hW5 hXX c4 f4
        by_cases hms : M = sum
        · skip
          have hMs : ((M : Int) != (sum : Int)) = false := by simp; omega
          refine wp_region_specs [.val (.pointer (some ⟨w2.heap.size, 0, none⟩)), .val (.pointer (some ⟨w2.heap.size, 4, none⟩)), .val (.string X), sOne X, .val (.int .u32 (M : Nat)), .val (.pointer (some ⟨w2.heap.size, 6, none⟩)), .val (.int .u32 (sum : Nat)), .val (.bool false)] (by kernel_rfl) (by kernel_rfl) ?_ ?_
          · skip
            refine ⟨?_, ?_⟩
            · intro A w1 hb ho hd
              have e5 : A.tmps[5]?.getD undef = .pointer (some ⟨w2.heap.size, 0, none⟩) := olds_get ho 5 (by kernel_rfl)
              refine ⟨rfl, goes_value (v := .pointer (some ⟨w2.heap.size, 0, none⟩)) ?_ rfl⟩
              simp [go_sem, e5]
            refine ⟨?_, ?_⟩
            · intro A w1 hb ho hd
              have e43 : A.tmps[43]?.getD undef = .pointer (some ⟨w2.heap.size, 0, none⟩) := getq (hd _ (Array.mem_of_getElem? (i := 0) rfl) rfl _ _ rfl rfl)
              refine ⟨rfl, goes_value (v := .pointer (some ⟨w2.heap.size, 4, none⟩)) ?_ rfl⟩
              simp [go_sem, e43]
            refine ⟨?_, ?_⟩
            · intro A w1 hb ho hd
              have e44 : A.tmps[44]?.getD undef = .pointer (some ⟨w2.heap.size, 4, none⟩) := getq (hd _ (Array.mem_of_getElem? (i := 0) rfl) rfl _ _ rfl rfl)
              have c4 := (hX5.later hb).box.r.c4
              refine ⟨rfl, goes_value (v := .string X) ?_ rfl⟩
              simp [go_sem, e44, c4]
            refine ⟨?_, ?_⟩
            · intro A w1 hb ho hd
              have e45 : A.tmps[45]?.getD undef = .string X := getq (hd _ (Array.mem_of_getElem? (i := 0) rfl) rfl _ _ rfl rfl)
              refine ⟨rfl, goes_alloc (v := .slice (some ⟨w1.heap.size, 0, none⟩) 1 1) (o := .cells #[.string X] 9) ?_ ⟨_, rfl, by simp, Ss.one w1 X (by omega) 9⟩⟩
              simp [go_sem, e45]
            refine ⟨?_, ?_⟩
            · intro A w1 hb ho hd
              obtain ⟨g, hg, hgl, hcg⟩ := hd _ (Array.mem_of_getElem? (i := 0) rfl) rfl _ _ rfl rfl
              have e46 := getq hg
              refine ⟨rfl, goes_call (f := 27) (args := #[.slice (some ⟨g, 0, none⟩) 1 1]) ?_ (hsum w1 hb hcg)⟩
              simp [go_sem, e46]
            refine ⟨?_, ?_⟩
            · intro A w1 hb ho hd
              have e5 : A.tmps[5]?.getD undef = .pointer (some ⟨w2.heap.size, 0, none⟩) := olds_get ho 5 (by kernel_rfl)
              refine ⟨rfl, goes_value (v := .pointer (some ⟨w2.heap.size, 6, none⟩)) ?_ rfl⟩
              simp [go_sem, e5]
            refine ⟨?_, ?_⟩
            · intro A w1 hb ho hd
              have e48 : A.tmps[48]?.getD undef = .pointer (some ⟨w2.heap.size, 6, none⟩) := getq (hd _ (Array.mem_of_getElem? (i := 0) rfl) rfl _ _ rfl rfl)
              have c6 := (hX5.later hb).box.c6
              refine ⟨rfl, goes_value (v := .int .u32 (sum : Nat)) ?_ rfl⟩
              simp [go_sem, e48, c6]
            refine ⟨?_, ?_⟩
            · intro A w1 hb ho hd
              have e47 : A.tmps[47]?.getD undef = .int .u32 (M : Nat) := getq (hd _ (Array.mem_of_getElem? (i := 0) rfl) rfl _ _ rfl rfl)
              have e49 : A.tmps[49]?.getD undef = .int .u32 (sum : Nat) := getq (hd _ (Array.mem_of_getElem? (i := 1) rfl) rfl _ _ rfl rfl)
              refine ⟨rfl, goes_value (v := .bool false) ?_ rfl⟩
              simp [go_sem, e47, e49, hMs]
            trivial
          intro A w9 hb9 hdf hsz9 hol hft
          have m43 : A.tmps.getD 43 undef = .pointer (some ⟨w2.heap.size, 0, none⟩) := hft 0 _ 43 rfl rfl
          have m44 : A.tmps.getD 44 undef = .pointer (some ⟨w2.heap.size, 4, none⟩) := hft 1 _ 44 rfl rfl
          have m45 : A.tmps.getD 45 undef = .string X := hft 2 _ 45 rfl rfl
          have m47 : A.tmps.getD 47 undef = .int .u32 (M : Nat) := hft 4 _ 47 rfl rfl
          have m48 : A.tmps.getD 48 undef = .pointer (some ⟨w2.heap.size, 6, none⟩) := hft 5 _ 48 rfl rfl
          have m49 : A.tmps.getD 49 undef = .int .u32 (sum : Nat) := hft 6 _ 49 rfl rfl
          have m50 : A.tmps.getD 50 undef = .bool false := hft 7 _ 50 rfl rfl
          rename_i KK hKK
          refine hKK _ _ ?_
          show Code.wp _ _ _ A w9
          rw [frame_puts hdf hsz9 hol]
          simp only [List.foldl_cons, List.foldl_nil, Act.put, Option.getD_some, m43, m44, m45, m47, m48, m49, m50, List.setIfInBounds_toArray, List.set_cons_succ, List.set_cons_zero]
          generalize A.tmps.getD 46 undef = v46 at *
          clear m43 m44 m45 m47 m48 m49 m50 hft hol hsz9 hdf hKK
          have hZ9 := hZ5.later hb9
          have hO9 := hO5.later hb9
          have hX9 := hX5.later hb9
          have BB9 := BB5.trans (hb9.mono BB5.size)
          clear hsum hZ5 hO5 hX5 BB5 hb9
          have hG := hide (hD2.out.trans (if_pos (hMM.out.trans hms)))
          clear hD2 hms
          have x0 := hX9.box.r.c0
          have x1 := hX9.box.r.c1
          have x2 := hX9.box.r.c2
          have x3 := hX9.box.r.c3
          have x4 := hX9.box.r.c4
          have x5 := hX9.box.r.c5
          have z0 := hZ9.box.c0
          have z1 := hZ9.box.c1
          have z2 := hZ9.box.c2
          have z3 := hZ9.box.c3
          have z4 := hZ9.box.c4
          have z5 := hZ9.box.c5
          have y0 := hZ9.fr 0
          have y1 := hZ9.fr 1
          have y2 := hZ9.fr 2
          have y3 := hZ9.fr 3
          have y4 := hZ9.fr 4
          have y5 := hZ9.fr 5
          have hE := ((((((hZ9.set0 (ep)).set1 (nu)).set2 (2)).set3 (.slice a sp.length cap)).set4 (X)).set5 (tx))
          have kZ : ∀ (W : World) (i : Nat) (u : Value), Keep (fun k => k = w.heap.size) W (W.setCell ⟨w.heap.size, i, none⟩ u) := fun W i u => Keep.setCell W _ u rfl
          have kAll := (((((kZ w9 0 (.int .i64 ep)).trans (kZ _ 1 (.int .i64 nu)) fun _ _ x => x).trans (kZ _ 2 (.int .i64 2)) fun _ _ x => x).trans (kZ _ 3 (.slice a sp.length cap)) fun _ _ x => x).trans (kZ _ 4 (.string X)) fun _ _ x => x).trans (kZ _ 5 (.string tx)) fun _ _ x => x
          replace hE := hide hE
          have BF := BB9.trans (kAll.below (B := w.heap.size) BB9.size (fun k hk x => by omega))
          have hOF := (own_keep (own_keep (own_keep (own_keep (own_keep (own_keep hO9 (kZ _ 0 (.int .i64 ep)) (fun i hi x => hvz (x ▸ hi))) (kZ _ 1 (.int .i64 nu)) (fun i hi x => hvz (x ▸ hi))) (kZ _ 2 (.int .i64 2)) (fun i hi x => hvz (x ▸ hi))) (kZ _ 3 (.slice a sp.length cap)) (fun i hi x => hvz (x ▸ hi))) (kZ _ 4 (.string X)) (fun i hi x => hvz (x ▸ hi))) (kZ _ 5 (.string tx)) (fun i hi x => hvz (x ▸ hi)))
          clear kAll kZ hZ9 BB9 hX9 hMs
          go_wp2
          have e0 := hE.out.box.c0
          have e1 := hE.out.box.c1
          have e2 := hE.out.box.c2
          have e3 := hE.out.box.c3
          have e4 := hE.out.box.c4
          have e5 := hE.out.box.c5
          refine bodyPost_ret (v := .tuple #[.agg #[.int .i64 (ep), .int .i64 (nu), .int .i64 (2), .slice a sp.length cap, .string X, .string tx], .int .i64 (n : Nat), .int .i64 0]) (by simp [results, Tryd.results20, go_sem, e0, e1, e2, e3, e4, e5]) rfl ⟨_, by rw [hG.out]; rfl, by rw [hG.out]; exact hOF, hFv, BF⟩
        · skip
          have hMs : ((M : Int) != (sum : Int)) = true := by simp; omega
          refine wp_region_specs [.val (.pointer (some ⟨w2.heap.size, 0, none⟩)), .val (.pointer (some ⟨w2.heap.size, 4, none⟩)), .val (.string X), sOne X, .val (.int .u32 (M : Nat)), .val (.pointer (some ⟨w2.heap.size, 6, none⟩)), .val (.int .u32 (sum : Nat)), .val (.bool true)] (by kernel_rfl) (by kernel_rfl) ?_ ?_
          · skip
            refine ⟨?_, ?_⟩
            · intro A w1 hb ho hd
              have e5 : A.tmps[5]?.getD undef = .pointer (some ⟨w2.heap.size, 0, none⟩) := olds_get ho 5 (by kernel_rfl)
              refine ⟨rfl, goes_value (v := .pointer (some ⟨w2.heap.size, 0, none⟩)) ?_ rfl⟩
              simp [go_sem, e5]
            refine ⟨?_, ?_⟩
            · intro A w1 hb ho hd
              have e43 : A.tmps[43]?.getD undef = .pointer (some ⟨w2.heap.size, 0, none⟩) := getq (hd _ (Array.mem_of_getElem? (i := 0) rfl) rfl _ _ rfl rfl)
              refine ⟨rfl, goes_value (v := .pointer (some ⟨w2.heap.size, 4, none⟩)) ?_ rfl⟩
              simp [go_sem, e43]
            refine ⟨?_, ?_⟩
            · intro A w1 hb ho hd
              have e44 : A.tmps[44]?.getD undef = .pointer (some ⟨w2.heap.size, 4, none⟩) := getq (hd _ (Array.mem_of_getElem? (i := 0) rfl) rfl _ _ rfl rfl)
              have c4 := (hX5.later hb).box.r.c4
              refine ⟨rfl, goes_value (v := .string X) ?_ rfl⟩
              simp [go_sem, e44, c4]
            refine ⟨?_, ?_⟩
            · intro A w1 hb ho hd
              have e45 : A.tmps[45]?.getD undef = .string X := getq (hd _ (Array.mem_of_getElem? (i := 0) rfl) rfl _ _ rfl rfl)
              refine ⟨rfl, goes_alloc (v := .slice (some ⟨w1.heap.size, 0, none⟩) 1 1) (o := .cells #[.string X] 9) ?_ ⟨_, rfl, by simp, Ss.one w1 X (by omega) 9⟩⟩
              simp [go_sem, e45]
            refine ⟨?_, ?_⟩
            · intro A w1 hb ho hd
              obtain ⟨g, hg, hgl, hcg⟩ := hd _ (Array.mem_of_getElem? (i := 0) rfl) rfl _ _ rfl rfl
              have e46 := getq hg
              refine ⟨rfl, goes_call (f := 27) (args := #[.slice (some ⟨g, 0, none⟩) 1 1]) ?_ (hsum w1 hb hcg)⟩
              simp [go_sem, e46]
            refine ⟨?_, ?_⟩
            · intro A w1 hb ho hd
              have e5 : A.tmps[5]?.getD undef = .pointer (some ⟨w2.heap.size, 0, none⟩) := olds_get ho 5 (by kernel_rfl)
              refine ⟨rfl, goes_value (v := .pointer (some ⟨w2.heap.size, 6, none⟩)) ?_ rfl⟩
              simp [go_sem, e5]
            refine ⟨?_, ?_⟩
            · intro A w1 hb ho hd
              have e48 : A.tmps[48]?.getD undef = .pointer (some ⟨w2.heap.size, 6, none⟩) := getq (hd _ (Array.mem_of_getElem? (i := 0) rfl) rfl _ _ rfl rfl)
              have c6 := (hX5.later hb).box.c6
              refine ⟨rfl, goes_value (v := .int .u32 (sum : Nat)) ?_ rfl⟩
              simp [go_sem, e48, c6]
            refine ⟨?_, ?_⟩
            · intro A w1 hb ho hd
              have e47 : A.tmps[47]?.getD undef = .int .u32 (M : Nat) := getq (hd _ (Array.mem_of_getElem? (i := 0) rfl) rfl _ _ rfl rfl)
              have e49 : A.tmps[49]?.getD undef = .int .u32 (sum : Nat) := getq (hd _ (Array.mem_of_getElem? (i := 1) rfl) rfl _ _ rfl rfl)
              refine ⟨rfl, goes_value (v := .bool true) ?_ rfl⟩
              simp [go_sem, e47, e49, hMs]
            trivial
          intro A w9 hb9 hdf hsz9 hol hft
          have m43 : A.tmps.getD 43 undef = .pointer (some ⟨w2.heap.size, 0, none⟩) := hft 0 _ 43 rfl rfl
          have m44 : A.tmps.getD 44 undef = .pointer (some ⟨w2.heap.size, 4, none⟩) := hft 1 _ 44 rfl rfl
          have m45 : A.tmps.getD 45 undef = .string X := hft 2 _ 45 rfl rfl
          have m47 : A.tmps.getD 47 undef = .int .u32 (M : Nat) := hft 4 _ 47 rfl rfl
          have m48 : A.tmps.getD 48 undef = .pointer (some ⟨w2.heap.size, 6, none⟩) := hft 5 _ 48 rfl rfl
          have m49 : A.tmps.getD 49 undef = .int .u32 (sum : Nat) := hft 6 _ 49 rfl rfl
          have m50 : A.tmps.getD 50 undef = .bool true := hft 7 _ 50 rfl rfl
          rename_i KK hKK
          refine hKK _ _ ?_
          show Code.wp _ _ _ A w9
          rw [frame_puts hdf hsz9 hol]
          simp only [List.foldl_cons, List.foldl_nil, Act.put, Option.getD_some, m43, m44, m45, m47, m48, m49, m50, List.setIfInBounds_toArray, List.set_cons_succ, List.set_cons_zero]
          generalize A.tmps.getD 46 undef = v46 at *
          clear m43 m44 m45 m47 m48 m49 m50 hft hol hsz9 hdf hKK
          have hZ9 := hZ5.later hb9
          have hO9 := hO5.later hb9
          have hX9 := hX5.later hb9
          have BB9 := BB5.trans (hb9.mono BB5.size)
          clear hsum hZ5 hO5 hX5 BB5 hb9
          have hG := hide (hD2.out.trans (if_neg (fun x => hms (hMM.out.symm.trans x))))
          clear hD2 hms hMs hX9
          have z0 := hZ9.box.c0
          have z1 := hZ9.box.c1
          have z2 := hZ9.box.c2
          have z3 := hZ9.box.c3
          have z4 := hZ9.box.c4
          have z5 := hZ9.box.c5
          have y0 := hZ9.fr 0
          have y1 := hZ9.fr 1
          have y2 := hZ9.fr 2
          have y3 := hZ9.fr 3
          have y4 := hZ9.fr 4
          have y5 := hZ9.fr 5
          have hE := ((((((hZ9.set0 (0)).set1 (0)).set2 (0)).set3 (.slice none 0 0)).set4 (⟨#[]⟩)).set5 (⟨#[]⟩))
          have kZ : ∀ (W : World) (i : Nat) (u : Value), Keep (fun k => k = w.heap.size) W (W.setCell ⟨w.heap.size, i, none⟩ u) := fun W i u => Keep.setCell W _ u rfl
          have kAll := (((((kZ w9 0 (.int .i64 0)).trans (kZ _ 1 (.int .i64 0)) fun _ _ x => x).trans (kZ _ 2 (.int .i64 0)) fun _ _ x => x).trans (kZ _ 3 (.slice none 0 0)) fun _ _ x => x).trans (kZ _ 4 (.string ⟨#[]⟩)) fun _ _ x => x).trans (kZ _ 5 (.string ⟨#[]⟩)) fun _ _ x => x
          replace hE := hide hE
          have BF := BB9.trans (kAll.below (B := w.heap.size) BB9.size (fun k hk x => by omega))
          clear kAll kZ hZ9 BB9
          go_wp2
          have e0 := hE.out.box.c0
          have e1 := hE.out.box.c1
          have e2 := hE.out.box.c2
          have e3 := hE.out.box.c3
          have e4 := hE.out.box.c4
          have e5 := hE.out.box.c5
          refine bodyPost_ret (v := .tuple #[.agg #[.int .i64 (0), .int .i64 (0), .int .i64 (0), .slice none 0 0, .string ⟨#[]⟩, .string ⟨#[]⟩], .int .i64 0, .int .i64 13]) (by simp [results, Tryd.results20, go_sem, e0, e1, e2, e3, e4, e5]) rfl ⟨_, by rw [hG.out]; rfl, by rw [hG.out]; exact Own.nil _, From.nil _ _ _, BF⟩
    · skip
      obtain ⟨rfl, n0, t0⟩ := h5
      replace n0 := hide n0
      obtain ⟨a, cap, rfl, hS2⟩ := hO2.sl (fun x hx => by rw [List.length_eq_zero_iff.1 n0.out] at hx; simp at hx)
      have bA := below_alloc w2 (.cells #[.int .i64 ep, .int .i64 nu, .int .i64 3, .slice a sp.length cap, .string { data := #[] }, .string tx, .int .u32 (sum : Nat)] 61)
      have hX3 := hdBox w2 ep nu 3 (.slice a sp.length cap) ⟨#[]⟩ tx sum
      have hZ3 := hZ2.later bA
      have hO3 := hO2.later bA
      have BB3 := BB2.trans (bA.mono BB2.size)
      have hvb3 : Hid ((Value.slice a sp.length cap).ownBlock ≠ some w2.heap.size) := hO2.lt _ (Nat.le_refl _)
      have hS3 := hS2.later bA
      generalize hW3 : w2.alloc (.cells #[.int .i64 ep, .int .i64 nu, .int .i64 3, .slice a sp.length cap, .string { data := #[] }, .string tx, .int .u32 (sum : Nat)] 61) = W3 at *
      clear hZ2 hO2 BB2 bA hS2
      have hK : Hid (((nd ⟨ep, nu, 3, sp, ⟨#[]⟩, tx⟩ : Nat) : Int) = 0) := (nd_need hIo).1.trans (if_neg (by show ¬ (3 : Int) = 1; decide))
      have hdl := (nd_need hIo).2
      have hD := dR_of hq.out
      generalize nd ⟨ep, nu, 3, sp, ⟨#[]⟩, tx⟩ = d at *
      replace hD := hide hD
      clear hIo
      obtain rfl : d = 0 := by have := hK.out; omega
      have hfi := fun w => fld1 (.func (.func 56) #[] #[]) (.func (.func 53) #[] #[]) (.func (.func 57) #[] #[]) (.func (.func 58) #[] #[]) w
      have q0 : ∀ p : Later W3, p.val.cell? ⟨w2.heap.size, 0, none⟩ = some (.int .i64 ep) := fun p => (hX3.keep (Keep.of_below (X := fun _ => False) p.below) (fun x => x)).box.r.c0
      have q1 : ∀ p : Later W3, p.val.cell? ⟨w2.heap.size, 1, none⟩ = some (.int .i64 nu) := fun p => (hX3.keep (Keep.of_below (X := fun _ => False) p.below) (fun x => x)).box.r.c1
      have q2 : ∀ p : Later W3, p.val.cell? ⟨w2.heap.size, 2, none⟩ = some (.int .i64 3) := fun p => (hX3.keep (Keep.of_below (X := fun _ => False) p.below) (fun x => x)).box.r.c2
      have q3 : ∀ p : Later W3, p.val.cell? ⟨w2.heap.size, 3, none⟩ = some (.slice a sp.length cap) := fun p => (hX3.keep (Keep.of_below (X := fun _ => False) p.below) (fun x => x)).box.r.c3
      have q4 : ∀ p : Later W3, p.val.cell? ⟨w2.heap.size, 4, none⟩ = some (.string ⟨#[]⟩) := fun p => (hX3.keep (Keep.of_below (X := fun _ => False) p.below) (fun x => x)).box.r.c4
      have q5 : ∀ p : Later W3, p.val.cell? ⟨w2.heap.size, 5, none⟩ = some (.string tx) := fun p => (hX3.keep (Keep.of_below (X := fun _ => False) p.below) (fun x => x)).box.r.c5
      have hne := later_ne W3
      go_wp2
      refine wp_region_later (by kernel_rfl) (by kernel_rfl) ?_
      (repeat (first | go_big_quiet_skip | (go_big_quiet_want; go_big_quiet_op; go_big_quiet_on)))
      (go_big_quiet_want; go_big_quiet_op; apply Exists.intro; refine ⟨fun p => ?_, ?_⟩; (· exact later_of (needs3 p.val)); go_big_quiet_on)
      (repeat (first | go_big_quiet_skip | (go_big_quiet_want; go_big_quiet_op; go_big_quiet_on)))
      (go_big_quiet_want; go_big_quiet_op; apply Exists.intro; refine ⟨fun p => ?_, ?_⟩; (· exact later_of (noData_any ep nu 3 (.slice a sp.length cap) ⟨#[]⟩ tx p.val)); go_big_quiet_on)
      (repeat (first | go_big_quiet_skip | (go_big_quiet_want; go_big_quiet_op; go_big_quiet_on)))
      refine wpQuiet_nil ?_
      rintro _ ⟨p, rfl⟩
      have hZ4 := hZ3.later p.below
      have hO4 := hO3.later p.below
      have hX4 := hX3.later p.below
      have BB4 := BB3.trans (p.below.mono BB3.size)
      have hvz : (Value.slice a sp.length cap).ownBlock ≠ some w.heap.size := fun h => by have := hF2 _ h; have := hz1.out; omega
      have hvb : (Value.slice a sp.length cap).ownBlock ≠ some w2.heap.size := hvb3.out
      have hFv : From w.heap.size (.slice a sp.length cap) := fun k hk => by have := hF2 k hk; have := hz1.out; omega
      have hzb : w.heap.size ≠ w2.heap.size := by have := hz2.out; omega
      generalize p.val = W4 at *
      clear q0 q1 q2 q3 q4 q5 hne hZ3 hO3 BB3 hfi p hX3 hW3 hS3 
      by_cases hlt : s.size < 64 * n
      · exact absurd hlt (by omega)
      · have hl2 : ¬ (s.size : Int) < (n : Int) * 64 := by omega
        have hl3 : n * 64 ≤ s.size ∧ n * 64 ≤ s.size := by omega
        obtain ⟨hl4, hl5⟩ := hl3
        have hD2 := hD.out.trans (if_neg (by omega))
        rw [Nat.add_zero, Nat.mul_comm 64 n] at hD2
        have hXs : (s.extract (n * 64) (n * 64)).size ≤ 1000000 := by rw [ByteArray.size_extract]; omega
        clear hD hlt
        have hXe : s.extract (n * 64) (n * 64) = ByteArray.empty := by simp
        rw [hXe] at hD2 hXs
        clear hXe
        generalize hXX : ByteArray.empty = X at *
        replace hD2 := hide hD2
        have hM := more_lt' (bs X)
        have hsum0 := fun g (w : World) (T : Tab w) (hc : Ss w (some ⟨g, 0, none⟩) 1 [X]) => sum_any (some ⟨g, 0, none⟩) 1 1 [X] w T hc
        rw [show jn [X] = bs X by simp [jn]] at hsum0
        obtain ⟨M, hMM⟩ : ∃ M, Hid (more 0 (bs X) = M) := ⟨_, rfl⟩
        rw [hMM.out] at hsum0 hM
        have c4 := hX4.box.r.c4
        have f4 := hX4.fr 4
        have kS := Keep.setCell (X := fun k => k = w2.heap.size) W4 ⟨w2.heap.size, 4, none⟩ (.string X) rfl
        have hX5 := hX4.set4 X
        have hZ5 := hZ4.keep kS (fun x => hzb x)
        have hO5 := own_keep hO4 kS (fun i hi x => hvb (x ▸ hi))
        have BB5 := BB4.trans (kS.below (B := w.heap.size) BB4.size (fun k hk x => by have := hz2.out; omega))
        generalize hW5 : W4.setCell ⟨w2.heap.size, 4, none⟩ (.string X) = W5 at *
        have T5 := T.later BB5
        have hsum : ∀ (w2 : World) {g : Nat}, Below W5.heap.size W5 w2 → Ss w2 (some ⟨g, 0, none⟩) 1 [X] → Calls Tryd.prog 27 #[.slice (some ⟨g, 0, none⟩) 1 1] w2 fun e w' => e = .returned (.int .u32 (M : Nat)) ∧ Below w2.heap.size w2 w' := fun w2 g hb hc => same_b (hsum0 g w2 (T5.later hb) hc)
        clear kS hX4 hZ4 hO4 BB4 T5 hsum0
        go_wp2
        clear hW5 hXX c4 f4
        by_cases hms : M = sum
        · skip
          have hMs : ((M : Int) != (sum : Int)) = false := by simp; omega
          refine wp_region_specs [.val (.pointer (some ⟨w2.heap.size, 0, none⟩)), .val (.pointer (some ⟨w2.heap.size, 4, none⟩)), .val (.string X), sOne X, .val (.int .u32 (M : Nat)), .val (.pointer (some ⟨w2.heap.size, 6, none⟩)), .val (.int .u32 (sum : Nat)), .val (.bool false)] (by kernel_rfl) (by kernel_rfl) ?_ ?_
          · skip
            refine ⟨?_, ?_⟩
            · intro A w1 hb ho hd
              have e5 : A.tmps[5]?.getD undef = .pointer (some ⟨w2.heap.size, 0, none⟩) := olds_get ho 5 (by kernel_rfl)
              refine ⟨rfl, goes_value (v := .pointer (some ⟨w2.heap.size, 0, none⟩)) ?_ rfl⟩
              simp [go_sem, e5]
            refine ⟨?_, ?_⟩
            · intro A w1 hb ho hd
              have e43 : A.tmps[43]?.getD undef = .pointer (some ⟨w2.heap.size, 0, none⟩) := getq (hd _ (Array.mem_of_getElem? (i := 0) rfl) rfl _ _ rfl rfl)
              refine ⟨rfl, goes_value (v := .pointer (some ⟨w2.heap.size, 4, none⟩)) ?_ rfl⟩
              simp [go_sem, e43]
            refine ⟨?_, ?_⟩
            · intro A w1 hb ho hd
              have e44 : A.tmps[44]?.getD undef = .pointer (some ⟨w2.heap.size, 4, none⟩) := getq (hd _ (Array.mem_of_getElem? (i := 0) rfl) rfl _ _ rfl rfl)
              have c4 := (hX5.later hb).box.r.c4
              refine ⟨rfl, goes_value (v := .string X) ?_ rfl⟩
              simp [go_sem, e44, c4]
            refine ⟨?_, ?_⟩
            · intro A w1 hb ho hd
              have e45 : A.tmps[45]?.getD undef = .string X := getq (hd _ (Array.mem_of_getElem? (i := 0) rfl) rfl _ _ rfl rfl)
              refine ⟨rfl, goes_alloc (v := .slice (some ⟨w1.heap.size, 0, none⟩) 1 1) (o := .cells #[.string X] 9) ?_ ⟨_, rfl, by simp, Ss.one w1 X (by omega) 9⟩⟩
              simp [go_sem, e45]
            refine ⟨?_, ?_⟩
            · intro A w1 hb ho hd
              obtain ⟨g, hg, hgl, hcg⟩ := hd _ (Array.mem_of_getElem? (i := 0) rfl) rfl _ _ rfl rfl
              have e46 := getq hg
              refine ⟨rfl, goes_call (f := 27) (args := #[.slice (some ⟨g, 0, none⟩) 1 1]) ?_ (hsum w1 hb hcg)⟩
              simp [go_sem, e46]
            refine ⟨?_, ?_⟩
            · intro A w1 hb ho hd
              have e5 : A.tmps[5]?.getD undef = .pointer (some ⟨w2.heap.size, 0, none⟩) := olds_get ho 5 (by kernel_rfl)
              refine ⟨rfl, goes_value (v := .pointer (some ⟨w2.heap.size, 6, none⟩)) ?_ rfl⟩
              simp [go_sem, e5]
            refine ⟨?_, ?_⟩
            · intro A w1 hb ho hd
              have e48 : A.tmps[48]?.getD undef = .pointer (some ⟨w2.heap.size, 6, none⟩) := getq (hd _ (Array.mem_of_getElem? (i := 0) rfl) rfl _ _ rfl rfl)
              have c6 := (hX5.later hb).box.c6
              refine ⟨rfl, goes_value (v := .int .u32 (sum : Nat)) ?_ rfl⟩
              simp [go_sem, e48, c6]
            refine ⟨?_, ?_⟩
            · intro A w1 hb ho hd
              have e47 : A.tmps[47]?.getD undef = .int .u32 (M : Nat) := getq (hd _ (Array.mem_of_getElem? (i := 0) rfl) rfl _ _ rfl rfl)
              have e49 : A.tmps[49]?.getD undef = .int .u32 (sum : Nat) := getq (hd _ (Array.mem_of_getElem? (i := 1) rfl) rfl _ _ rfl rfl)
              refine ⟨rfl, goes_value (v := .bool false) ?_ rfl⟩
              simp [go_sem, e47, e49, hMs]
            trivial
          intro A w9 hb9 hdf hsz9 hol hft
          have m43 : A.tmps.getD 43 undef = .pointer (some ⟨w2.heap.size, 0, none⟩) := hft 0 _ 43 rfl rfl
          have m44 : A.tmps.getD 44 undef = .pointer (some ⟨w2.heap.size, 4, none⟩) := hft 1 _ 44 rfl rfl
          have m45 : A.tmps.getD 45 undef = .string X := hft 2 _ 45 rfl rfl
          have m47 : A.tmps.getD 47 undef = .int .u32 (M : Nat) := hft 4 _ 47 rfl rfl
          have m48 : A.tmps.getD 48 undef = .pointer (some ⟨w2.heap.size, 6, none⟩) := hft 5 _ 48 rfl rfl
          have m49 : A.tmps.getD 49 undef = .int .u32 (sum : Nat) := hft 6 _ 49 rfl rfl
          have m50 : A.tmps.getD 50 undef = .bool false := hft 7 _ 50 rfl rfl
          rename_i KK hKK
          refine hKK _ _ ?_
          show Code.wp _ _ _ A w9
          rw [frame_puts hdf hsz9 hol]
          simp only [List.foldl_cons, List.foldl_nil, Act.put, Option.getD_some, m43, m44, m45, m47, m48, m49, m50, List.setIfInBounds_toArray, List.set_cons_succ, List.set_cons_zero]
          generalize A.tmps.getD 46 undef = v46 at *
          clear m43 m44 m45 m47 m48 m49 m50 hft hol hsz9 hdf hKK
          have hZ9 := hZ5.later hb9
          have hO9 := hO5.later hb9
          have hX9 := hX5.later hb9
          have BB9 := BB5.trans (hb9.mono BB5.size)
          clear hsum hZ5 hO5 hX5 BB5 hb9
          have hG := hide (hD2.out.trans (if_pos (hMM.out.trans hms)))
          clear hD2 hms
          have x0 := hX9.box.r.c0
          have x1 := hX9.box.r.c1
          have x2 := hX9.box.r.c2
          have x3 := hX9.box.r.c3
          have x4 := hX9.box.r.c4
          have x5 := hX9.box.r.c5
          have z0 := hZ9.box.c0
          have z1 := hZ9.box.c1
          have z2 := hZ9.box.c2
          have z3 := hZ9.box.c3
          have z4 := hZ9.box.c4
          have z5 := hZ9.box.c5
          have y0 := hZ9.fr 0
          have y1 := hZ9.fr 1
          have y2 := hZ9.fr 2
          have y3 := hZ9.fr 3
          have y4 := hZ9.fr 4
          have y5 := hZ9.fr 5
          have hE := ((((((hZ9.set0 (ep)).set1 (nu)).set2 (3)).set3 (.slice a sp.length cap)).set4 (X)).set5 (tx))
          have kZ : ∀ (W : World) (i : Nat) (u : Value), Keep (fun k => k = w.heap.size) W (W.setCell ⟨w.heap.size, i, none⟩ u) := fun W i u => Keep.setCell W _ u rfl
          have kAll := (((((kZ w9 0 (.int .i64 ep)).trans (kZ _ 1 (.int .i64 nu)) fun _ _ x => x).trans (kZ _ 2 (.int .i64 3)) fun _ _ x => x).trans (kZ _ 3 (.slice a sp.length cap)) fun _ _ x => x).trans (kZ _ 4 (.string X)) fun _ _ x => x).trans (kZ _ 5 (.string tx)) fun _ _ x => x
          replace hE := hide hE
          have BF := BB9.trans (kAll.below (B := w.heap.size) BB9.size (fun k hk x => by omega))
          have hOF := (own_keep (own_keep (own_keep (own_keep (own_keep (own_keep hO9 (kZ _ 0 (.int .i64 ep)) (fun i hi x => hvz (x ▸ hi))) (kZ _ 1 (.int .i64 nu)) (fun i hi x => hvz (x ▸ hi))) (kZ _ 2 (.int .i64 3)) (fun i hi x => hvz (x ▸ hi))) (kZ _ 3 (.slice a sp.length cap)) (fun i hi x => hvz (x ▸ hi))) (kZ _ 4 (.string X)) (fun i hi x => hvz (x ▸ hi))) (kZ _ 5 (.string tx)) (fun i hi x => hvz (x ▸ hi)))
          clear kAll kZ hZ9 BB9 hX9 hMs
          go_wp2
          have e0 := hE.out.box.c0
          have e1 := hE.out.box.c1
          have e2 := hE.out.box.c2
          have e3 := hE.out.box.c3
          have e4 := hE.out.box.c4
          have e5 := hE.out.box.c5
          refine bodyPost_ret (v := .tuple #[.agg #[.int .i64 (ep), .int .i64 (nu), .int .i64 (3), .slice a sp.length cap, .string X, .string tx], .int .i64 (n : Nat), .int .i64 0]) (by simp [results, Tryd.results20, go_sem, e0, e1, e2, e3, e4, e5]) rfl ⟨_, by rw [hG.out]; rfl, by rw [hG.out]; exact hOF, hFv, BF⟩
        · skip
          have hMs : ((M : Int) != (sum : Int)) = true := by simp; omega
          refine wp_region_specs [.val (.pointer (some ⟨w2.heap.size, 0, none⟩)), .val (.pointer (some ⟨w2.heap.size, 4, none⟩)), .val (.string X), sOne X, .val (.int .u32 (M : Nat)), .val (.pointer (some ⟨w2.heap.size, 6, none⟩)), .val (.int .u32 (sum : Nat)), .val (.bool true)] (by kernel_rfl) (by kernel_rfl) ?_ ?_
          · skip
            refine ⟨?_, ?_⟩
            · intro A w1 hb ho hd
              have e5 : A.tmps[5]?.getD undef = .pointer (some ⟨w2.heap.size, 0, none⟩) := olds_get ho 5 (by kernel_rfl)
              refine ⟨rfl, goes_value (v := .pointer (some ⟨w2.heap.size, 0, none⟩)) ?_ rfl⟩
              simp [go_sem, e5]
            refine ⟨?_, ?_⟩
            · intro A w1 hb ho hd
              have e43 : A.tmps[43]?.getD undef = .pointer (some ⟨w2.heap.size, 0, none⟩) := getq (hd _ (Array.mem_of_getElem? (i := 0) rfl) rfl _ _ rfl rfl)
              refine ⟨rfl, goes_value (v := .pointer (some ⟨w2.heap.size, 4, none⟩)) ?_ rfl⟩
              simp [go_sem, e43]
            refine ⟨?_, ?_⟩
            · intro A w1 hb ho hd
              have e44 : A.tmps[44]?.getD undef = .pointer (some ⟨w2.heap.size, 4, none⟩) := getq (hd _ (Array.mem_of_getElem? (i := 0) rfl) rfl _ _ rfl rfl)
              have c4 := (hX5.later hb).box.r.c4
              refine ⟨rfl, goes_value (v := .string X) ?_ rfl⟩
              simp [go_sem, e44, c4]
            refine ⟨?_, ?_⟩
            · intro A w1 hb ho hd
              have e45 : A.tmps[45]?.getD undef = .string X := getq (hd _ (Array.mem_of_getElem? (i := 0) rfl) rfl _ _ rfl rfl)
              refine ⟨rfl, goes_alloc (v := .slice (some ⟨w1.heap.size, 0, none⟩) 1 1) (o := .cells #[.string X] 9) ?_ ⟨_, rfl, by simp, Ss.one w1 X (by omega) 9⟩⟩
              simp [go_sem, e45]
            refine ⟨?_, ?_⟩
            · intro A w1 hb ho hd
              obtain ⟨g, hg, hgl, hcg⟩ := hd _ (Array.mem_of_getElem? (i := 0) rfl) rfl _ _ rfl rfl
              have e46 := getq hg
              refine ⟨rfl, goes_call (f := 27) (args := #[.slice (some ⟨g, 0, none⟩) 1 1]) ?_ (hsum w1 hb hcg)⟩
              simp [go_sem, e46]
            refine ⟨?_, ?_⟩
            · intro A w1 hb ho hd
              have e5 : A.tmps[5]?.getD undef = .pointer (some ⟨w2.heap.size, 0, none⟩) := olds_get ho 5 (by kernel_rfl)
              refine ⟨rfl, goes_value (v := .pointer (some ⟨w2.heap.size, 6, none⟩)) ?_ rfl⟩
              simp [go_sem, e5]
            refine ⟨?_, ?_⟩
            · intro A w1 hb ho hd
              have e48 : A.tmps[48]?.getD undef = .pointer (some ⟨w2.heap.size, 6, none⟩) := getq (hd _ (Array.mem_of_getElem? (i := 0) rfl) rfl _ _ rfl rfl)
              have c6 := (hX5.later hb).box.c6
              refine ⟨rfl, goes_value (v := .int .u32 (sum : Nat)) ?_ rfl⟩
              simp [go_sem, e48, c6]
            refine ⟨?_, ?_⟩
            · intro A w1 hb ho hd
              have e47 : A.tmps[47]?.getD undef = .int .u32 (M : Nat) := getq (hd _ (Array.mem_of_getElem? (i := 0) rfl) rfl _ _ rfl rfl)
              have e49 : A.tmps[49]?.getD undef = .int .u32 (sum : Nat) := getq (hd _ (Array.mem_of_getElem? (i := 1) rfl) rfl _ _ rfl rfl)
              refine ⟨rfl, goes_value (v := .bool true) ?_ rfl⟩
              simp [go_sem, e47, e49, hMs]
            trivial
          intro A w9 hb9 hdf hsz9 hol hft
          have m43 : A.tmps.getD 43 undef = .pointer (some ⟨w2.heap.size, 0, none⟩) := hft 0 _ 43 rfl rfl
          have m44 : A.tmps.getD 44 undef = .pointer (some ⟨w2.heap.size, 4, none⟩) := hft 1 _ 44 rfl rfl
          have m45 : A.tmps.getD 45 undef = .string X := hft 2 _ 45 rfl rfl
          have m47 : A.tmps.getD 47 undef = .int .u32 (M : Nat) := hft 4 _ 47 rfl rfl
          have m48 : A.tmps.getD 48 undef = .pointer (some ⟨w2.heap.size, 6, none⟩) := hft 5 _ 48 rfl rfl
          have m49 : A.tmps.getD 49 undef = .int .u32 (sum : Nat) := hft 6 _ 49 rfl rfl
          have m50 : A.tmps.getD 50 undef = .bool true := hft 7 _ 50 rfl rfl
          rename_i KK hKK
          refine hKK _ _ ?_
          show Code.wp _ _ _ A w9
          rw [frame_puts hdf hsz9 hol]
          simp only [List.foldl_cons, List.foldl_nil, Act.put, Option.getD_some, m43, m44, m45, m47, m48, m49, m50, List.setIfInBounds_toArray, List.set_cons_succ, List.set_cons_zero]
          generalize A.tmps.getD 46 undef = v46 at *
          clear m43 m44 m45 m47 m48 m49 m50 hft hol hsz9 hdf hKK
          have hZ9 := hZ5.later hb9
          have hO9 := hO5.later hb9
          have hX9 := hX5.later hb9
          have BB9 := BB5.trans (hb9.mono BB5.size)
          clear hsum hZ5 hO5 hX5 BB5 hb9
          have hG := hide (hD2.out.trans (if_neg (fun x => hms (hMM.out.symm.trans x))))
          clear hD2 hms hMs hX9
          have z0 := hZ9.box.c0
          have z1 := hZ9.box.c1
          have z2 := hZ9.box.c2
          have z3 := hZ9.box.c3
          have z4 := hZ9.box.c4
          have z5 := hZ9.box.c5
          have y0 := hZ9.fr 0
          have y1 := hZ9.fr 1
          have y2 := hZ9.fr 2
          have y3 := hZ9.fr 3
          have y4 := hZ9.fr 4
          have y5 := hZ9.fr 5
          have hE := ((((((hZ9.set0 (0)).set1 (0)).set2 (0)).set3 (.slice none 0 0)).set4 (⟨#[]⟩)).set5 (⟨#[]⟩))
          have kZ : ∀ (W : World) (i : Nat) (u : Value), Keep (fun k => k = w.heap.size) W (W.setCell ⟨w.heap.size, i, none⟩ u) := fun W i u => Keep.setCell W _ u rfl
          have kAll := (((((kZ w9 0 (.int .i64 0)).trans (kZ _ 1 (.int .i64 0)) fun _ _ x => x).trans (kZ _ 2 (.int .i64 0)) fun _ _ x => x).trans (kZ _ 3 (.slice none 0 0)) fun _ _ x => x).trans (kZ _ 4 (.string ⟨#[]⟩)) fun _ _ x => x).trans (kZ _ 5 (.string ⟨#[]⟩)) fun _ _ x => x
          replace hE := hide hE
          have BF := BB9.trans (kAll.below (B := w.heap.size) BB9.size (fun k hk x => by omega))
          clear kAll kZ hZ9 BB9
          go_wp2
          have e0 := hE.out.box.c0
          have e1 := hE.out.box.c1
          have e2 := hE.out.box.c2
          have e3 := hE.out.box.c3
          have e4 := hE.out.box.c4
          have e5 := hE.out.box.c5
          refine bodyPost_ret (v := .tuple #[.agg #[.int .i64 (0), .int .i64 (0), .int .i64 (0), .slice none 0 0, .string ⟨#[]⟩, .string ⟨#[]⟩], .int .i64 0, .int .i64 13]) (by simp [results, Tryd.results20, go_sem, e0, e1, e2, e3, e4, e5]) rfl ⟨_, by rw [hG.out]; rfl, by rw [hG.out]; exact Own.nil _, From.nil _ _ _, BF⟩
  · skip
    have he1 : (er == 0) = false := by simpa using he0
    have hG : Hid (dR s = (no, 0, er)) := by
      show dR s = _
      unfold dR
      rw [hq.out, if_neg he0]
    clear hE hok hq
    obtain ⟨a, m, cap, rfl⟩ := own_form hO2
    have bA := below_alloc w2 (.cells #[.int .i64 ep, .int .i64 nu, .int .i64 ki, .slice a m cap, .string { data := #[] }, .string tx, .int .u32 (sum : Nat)] 61)
    have hZ3 := hZ2.later bA
    have BB3 := BB2.trans (bA.mono BB2.size)
    generalize hW3 : w2.alloc (.cells #[.int .i64 ep, .int .i64 nu, .int .i64 ki, .slice a m cap, .string { data := #[] }, .string tx, .int .u32 (sum : Nat)] 61) = W3 at *
    clear hZ2 BB2 bA hO2 hF2
    have z0 := hZ3.box.c0
    have z1 := hZ3.box.c1
    have z2 := hZ3.box.c2
    have z3 := hZ3.box.c3
    have z4 := hZ3.box.c4
    have z5 := hZ3.box.c5
    have y0 := hZ3.fr 0
    have y1 := hZ3.fr 1
    have y2 := hZ3.fr 2
    have y3 := hZ3.fr 3
    have y4 := hZ3.fr 4
    have y5 := hZ3.fr 5
    have hE := ((((((hZ3.set0 (0)).set1 (0)).set2 (0)).set3 (.slice none 0 0)).set4 (⟨#[]⟩)).set5 (⟨#[]⟩))
    have kZ : ∀ (W : World) (i : Nat) (u : Value), Keep (fun k => k = w.heap.size) W (W.setCell ⟨w.heap.size, i, none⟩ u) := fun W i u => Keep.setCell W _ u rfl
    have kAll := (((((kZ W3 0 (.int .i64 0)).trans (kZ _ 1 (.int .i64 0)) fun _ _ x => x).trans (kZ _ 2 (.int .i64 0)) fun _ _ x => x).trans (kZ _ 3 (.slice none 0 0)) fun _ _ x => x).trans (kZ _ 4 (.string ⟨#[]⟩)) fun _ _ x => x).trans (kZ _ 5 (.string ⟨#[]⟩)) fun _ _ x => x
    replace hE := hide hE
    have BF := BB3.trans (kAll.below (B := w.heap.size) BB3.size (fun k hk x => by omega))
    clear kAll kZ hZ3 BB3
    go_wp2
    have e0 := hE.out.box.c0
    have e1 := hE.out.box.c1
    have e2 := hE.out.box.c2
    have e3 := hE.out.box.c3
    have e4 := hE.out.box.c4
    have e5 := hE.out.box.c5
    refine bodyPost_ret (v := .tuple #[.agg #[.int .i64 (0), .int .i64 (0), .int .i64 (0), .slice none 0 0, .string ⟨#[]⟩, .string ⟨#[]⟩], .int .i64 0, .int .i64 er]) (by simp [results, Tryd.results20, go_sem, e0, e1, e2, e3, e4, e5]) rfl ⟨_, by rw [hG.out]; rfl, by rw [hG.out]; exact Own.nil _, From.nil _ _ _, BF⟩
end Re
end Go.Proofs.YtnpbgjafahhadaaDoor
