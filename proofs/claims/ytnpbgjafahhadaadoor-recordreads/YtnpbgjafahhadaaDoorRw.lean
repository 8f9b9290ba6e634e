/- The head with which sectors begin. -/
import Derived.Test.YtnpbgjafahhadaaDoorRv
import Derived.Test.YtnpbgjafahhadaaDoorSa
namespace Go.Proofs.YtnpbgjafahhadaaDoor
open Go.RowKit
namespace Re
open Cr
set_option maxHeartbeats 8000000 in
set_option maxRecDepth 20000 in
theorem readHead_any (s : ByteArray) (hs : s.size ≤ 1000000) (w : World) (T : Tab w) :
    Calls Tryd.prog 35 #[.string s] w fun e w' => ∃ v', e = .returned (.tuple #[.agg #[.int .i64 (rH s).1.ep, .int .i64 (rH s).1.nu, .int .i64 (rH s).1.ki, v', .string ⟨#[]⟩, .string (rH s).1.tx, .int .u32 ((rH s).2.1 : Nat)], .int .i64 ((rH s).2.2.1 : Nat), .int .i64 (rH s).2.2.2]) ∧ Own w' v' (rH s).1.sp ∧ From w.heap.size v' ∧ Below w.heap.size w w' := by
  obtain ⟨RH, hR⟩ : ∃ RH, Hid (rH s = RH) := ⟨_, rfl⟩
  rw [hR.out]
  obtain ⟨⟨rep, rnu, rki, rsp, rda, rtx⟩, rsum, rn, rer⟩ := RH
  simp only
  have hr := hR.out
  clear hR
  have hZ0 := hdNew w
  have hA1 := below_alloc w (.cells #[.int .i64 0, .int .i64 0, .int .i64 0, .slice none 0 0, .string { data := #[] }, .string { data := #[] }, .int .u32 0] 61)
  have hz1 : Hid ((w.alloc (.cells #[.int .i64 0, .int .i64 0, .int .i64 0, .slice none 0 0, .string { data := #[] }, .string { data := #[] }, .int .u32 0] 61)).heap.size = w.heap.size + 1) := by simp [Hid]
  have T1 := T.later hA1
  generalize hW1 : w.alloc (.cells #[.int .i64 0, .int .i64 0, .int .i64 0, .slice none 0 0, .string { data := #[] }, .string { data := #[] }, .int .u32 0] 61) = W1 at *
  have hc1 := headSectors_any s hs W1 T1
  obtain ⟨q, hq⟩ : ∃ q, hN s = q := ⟨_, rfl⟩
  rw [hq] at hc1
  obtain ⟨k, er⟩ := q
  simp only at hc1
  replace hq := hide hq
  replace hr := hide hr
  go_enter Tryd.func35, Tryd.ntmps35
  go_wp2_with fail
  refine hc1.mono ?_
  rintro x w2 ⟨rfl, b2⟩
  have hZ2 := hZ0.later b2
  have hZ2l : Hid (w.heap.size < w2.heap.size) := hZ2.lt
  have BB2 := hA1.trans (b2.mono hA1.size)
  clear hc1 hZ0 hA1 b2 hW1 hz1 T1
  by_cases he0 : er = 0
  · subst he0
    simp only [Hid] at hr
    have hok := hN_ok (s := s) (by rw [hq.out])
    have hk : cnt s = k := by
      have := hok.2.2.2.2.2.2
      rw [hq.out] at this
      exact this.symm
    have hk1 : 1 ≤ k := by omega
    have hk4 : k * 64 ≤ s.size := by omega
    have hk5 : (k : Int) * 64 ≤ (s.size : Int) := by omega
    have hsz : (s.extract 0 (k * 64)).size = k * 64 := by rw [ByteArray.size_extract]; omega
    unfold rH mid at hr
    rw [hq.out] at hr
    simp only [if_pos] at hr
    rw [hk, Nat.mul_comm 64 k, show k * 64 - 4 = (s.extract 0 (k * 64)).size - 4 by rw [hsz]] at hr
    have hs8 : 8 ≤ (s.extract 0 (k * 64)).size := by omega
    have hsl : (s.extract 0 (k * 64)).size ≤ 1000000 := by omega
    clear hok hk hsz hq
    generalize hS : s.extract 0 (k * 64) = S at *
    have hrd := read_any (S.extract 4 (S.size - 4)) w2
    have hm1 : (S.extract 4 (S.size - 4)).size ≤ 1000000 := by rw [ByteArray.size_extract]; omega
    generalize hM : S.extract 4 (S.size - 4) = M at *
    have hf := rdB_facts (bs_lt M)
    have hbl := bs_length M
    have hrb := fun (b : Nat) (w : World) (h : InAt w b M 0 0) => readBody_any h hm1
    generalize rdB (bs M) = q at *
    obtain ⟨⟨ep, nu, ki, sp, da, tx⟩, sum, E⟩ := q
    simp only at hf hr hrb
    obtain ⟨f1, f2, rfl, f3, f4, f5⟩ := hf
    replace hr := hide hr
    clear f2
    go_wp2_with fail
    refine hrd.mono ?_
    rintro x w3 ⟨rfl, hI3, b3⟩
    have hZ3 := hZ2.later b3
    have BB3 := BB2.trans (b3.mono BB2.size)
    have hsz3 := b3.size
    have hb := hrb _ _ hI3
    have hne : w.heap.size ≠ w2.heap.size := by have := BB2.size; have := hZ2.lt; omega
    have hIl := hI3.lt
    clear hrd hrb hI3 b3 hZ2 
    go_wp2_with fail
    refine hb.mono ?_
    rintro x w4 ⟨v', rfl, hO4, hF4, ⟨p', hI4⟩, hK4⟩
    have hZ4 := hZ3.keep hK4 (fun x => hne x)
    have BB4 := BB3.trans (hK4.below (B := w.heap.size) BB3.size (fun k hk x => by have := BB2.size; omega))
    obtain ⟨a, cap, rfl, hS4⟩ := hO4.sl f4
    have hs4 := hK4.size
    have hvz : (Value.slice a sp.length cap).ownBlock ≠ some w.heap.size := fun h => by have := hF4 _ h; have := hZ2l.out; omega
    have hFv : From w.heap.size (.slice a sp.length cap) := fun k hk => by have := hF4 k hk; have := BB3.size; omega
    have bA := below_alloc w4 (.cells #[.int .i64 ep, .int .i64 nu, .int .i64 ki, .slice a sp.length cap, .string { data := #[] }, .string tx, .int .u32 (sum : Nat)] 61)
    have hsA : Hid ((w4.alloc (.cells #[.int .i64 ep, .int .i64 nu, .int .i64 ki, .slice a sp.length cap, .string { data := #[] }, .string tx, .int .u32 (sum : Nat)] 61)).heap.size = w4.heap.size + 1) := by simp [Hid]
    have hX5 := boxH w4 ep nu ki (.slice a sp.length cap) ⟨#[]⟩ tx sum
    have hZ5 := hZ4.later bA
    have hO5 := hO4.later bA
    have hS5 := hS4.later bA
    have hI5 := hI4.later bA
    have BB5 := BB4.trans (bA.mono BB4.size)
    have T5 := T.later BB5
    clear hb hK4 hZ3 hZ4 hO4 hS4 hI4 bA BB4 hF4
    generalize hW5 : w4.alloc (.cells #[.int .i64 ep, .int .i64 nu, .int .i64 ki, .slice a sp.length cap, .string { data := #[] }, .string tx, .int .u32 (sum : Nat)] 61) = W5 at *
    have her := err_any hI5
    have hch := checkHead_any ep nu ki a sp.length cap sp ⟨#[]⟩ tx W5 hS5 (by omega)
    have c0 := hX5.r.c0
    have c1 := hX5.r.c1
    have c2 := hX5.r.c2
    have c3 := hX5.r.c3
    have c4 := hX5.r.c4
    have c5 := hX5.r.c5
    by_cases hE0 : E = 0
    · subst hE0
      by_cases hB0 : hB ⟨ep, nu, ki, sp, ⟨#[]⟩, tx⟩ = 0
      · rw [hB0] at hch
        have htl := fun (w : World) (T : Tab w) (h : Sl w a sp.length sp) => tellHead_any ep nu ki a sp.length cap sp ⟨#[]⟩ tx sum w T h hB0 f1
        have hB0' := hide hB0
        clear hB0
        generalize hH : str (hdB (body ⟨ep, nu, ki, sp, ⟨#[]⟩, tx⟩ sum)) = H at *
        replace hH := hide hH
        by_cases hHS : H = S
        · have hbe := beq_lists hHS
          have hr9 := hide hHS
          clear hHS
          go_wp2_with fail
          refine her.mono ?_
          rintro x w6 ⟨rfl, rfl⟩
          go_wp2_with fail
          refine hch.mono ?_
          rintro x w6 ⟨rfl, b6⟩
          have hX6 := hX5.later (b6.mono hX5.r.lt)
          have hZ6 := hZ5.later b6
          have hO6 := hO5.later b6
          have hS6 := hS5.later b6
          have T6 := T5.later b6
          have BB6 := BB5.trans (b6.mono BB5.size)
          have htl6 := htl w6 T6 hS6
          have hx6 : w4.heap.size < w6.heap.size := hX6.r.lt
          clear her hch c0 c1 c2 c3 c4 c5 hX5 hO5 hS5 hI5 T5 hZ5 BB5 hW5 hS6 T6 htl hM b6
          have c0 := hX6.r.c0
          have c1 := hX6.r.c1
          have c2 := hX6.r.c2
          have c3 := hX6.r.c3
          have c4 := hX6.r.c4
          have c5 := hX6.r.c5
          have c6 := hX6.c6
          go_wp2_with fail
          refine htl6.mono ?_
          rintro x w7 ⟨rfl, b7⟩
          have hX7 := hX6.later (b7.mono hX6.r.lt)
          have hZ7 := hZ6.later b7
          have hO7 := hO6.later b7
          have BB7 := BB6.trans (b7.mono BB6.size)
          clear htl6 c0 c1 c2 c3 c4 c5 c6 hX6 hZ6 hO6 BB6 b7 hS
          have e1 : Hid (ep = rep ∧ nu = rnu ∧ ki = rki ∧ sp = rsp ∧ tx = rtx ∧ sum = rsum ∧ k = rn ∧ rer = 0) := by
            have := hr.out
            rw [if_pos ⟨trivial, hB0'.out, hr9.out⟩] at this
            simp only [Prod.mk.injEq, Rc.mk.injEq] at this
            obtain ⟨⟨a, b, c, d, _, f⟩, g, h, i⟩ := this
            exact ⟨a, b, c, d, f, g, h, i.symm⟩
          obtain ⟨rfl, rfl, rfl, rfl, rfl, rfl, rfl, rfl⟩ := e1.out
          clear e1 hr
          have x0 := hX7.r.c0
          have x1 := hX7.r.c1
          have x2 := hX7.r.c2
          have x3 := hX7.r.c3
          have x4 := hX7.r.c4
          have x5 := hX7.r.c5
          have x6 := hX7.c6
          have hnz : w4.heap.size ≠ w.heap.size := by have := BB2.size; omega
          have z0 := hZ7.box.r.c0
          have z1 := hZ7.box.r.c1
          have z2 := hZ7.box.r.c2
          have z3 := hZ7.box.r.c3
          have z4 := hZ7.box.r.c4
          have z5 := hZ7.box.r.c5
          have z6 := hZ7.box.c6
          have y0 := hZ7.fr 0
          have y1 := hZ7.fr 1
          have y2 := hZ7.fr 2
          have y3 := hZ7.fr 3
          have y4 := hZ7.fr 4
          have y5 := hZ7.fr 5
          have y6 := hZ7.fr 6
          have hE := ((((((hZ7.set0 (ep)).set1 (nu)).set2 (ki)).set3 (.slice a sp.length cap)).set4 ⟨#[]⟩).set5 tx).set6 (sum)
          have kZ : ∀ (W : World) (i : Nat) (u : Value), Keep (fun k => k = w.heap.size) W (W.setCell ⟨w.heap.size, i, none⟩ u) := fun W i u => Keep.setCell W _ u rfl
          have kAll := ((((((kZ w7 0 (.int .i64 (ep))).trans (kZ _ 1 (.int .i64 (nu))) fun _ _ x => x).trans (kZ _ 2 (.int .i64 (ki))) fun _ _ x => x).trans (kZ _ 3 (.slice a sp.length cap)) fun _ _ x => x).trans (kZ _ 4 (.string ⟨#[]⟩)) fun _ _ x => x).trans (kZ _ 5 (.string tx)) fun _ _ x => x).trans (kZ _ 6 (.int .u32 (sum : Nat))) fun _ _ x => x
          have BF := BB7.trans (kAll.below (B := w.heap.size) BB7.size (fun k hk x => by omega))
          have hOF := (own_keep (own_keep (own_keep (own_keep (own_keep (own_keep (own_keep hO7 (kZ _ 0 (.int .i64 ep)) (fun i hi x => hvz (x ▸ hi))) (kZ _ 1 (.int .i64 nu)) (fun i hi x => hvz (x ▸ hi))) (kZ _ 2 (.int .i64 ki)) (fun i hi x => hvz (x ▸ hi))) (kZ _ 3 (.slice a sp.length cap)) (fun i hi x => hvz (x ▸ hi))) (kZ _ 4 (.string ⟨#[]⟩)) (fun i hi x => hvz (x ▸ hi))) (kZ _ 5 (.string tx)) (fun i hi x => hvz (x ▸ hi))) (kZ _ 6 (.int .u32 (sum : Nat))) (fun i hi x => hvz (x ▸ hi)))
          replace hE := hide hE
          clear kAll kZ hZ7 BB7
          go_wp2
          have e0 := hE.out.box.r.c0
          have e1 := hE.out.box.r.c1
          have e2 := hE.out.box.r.c2
          have e3 := hE.out.box.r.c3
          have e4 := hE.out.box.r.c4
          have e5 := hE.out.box.r.c5
          have e6 := hE.out.box.c6
          refine bodyPost_ret (v := .tuple #[.agg #[.int .i64 ep, .int .i64 nu, .int .i64 ki, .slice a sp.length cap, .string ⟨#[]⟩, .string tx, .int .u32 (sum : Nat)], .int .i64 (k : Nat), .int .i64 0]) (by simp [results, Tryd.results35, go_sem, e0, e1, e2, e3, e4, e5, e6]) rfl ⟨_, rfl, hOF, hFv, BF⟩
        · have hbe := bne_lists hHS
          have hr9 := hide hHS
          clear hHS
          go_wp2_with fail
          refine her.mono ?_
          rintro x w6 ⟨rfl, rfl⟩
          go_wp2_with fail
          refine hch.mono ?_
          rintro x w6 ⟨rfl, b6⟩
          have hX6 := hX5.later (b6.mono hX5.r.lt)
          have hZ6 := hZ5.later b6
          have hO6 := hO5.later b6
          have hS6 := hS5.later b6
          have T6 := T5.later b6
          have BB6 := BB5.trans (b6.mono BB5.size)
          have htl6 := htl w6 T6 hS6
          have hx6 : w4.heap.size < w6.heap.size := hX6.r.lt
          clear her hch c0 c1 c2 c3 c4 c5 hX5 hO5 hS5 hI5 T5 hZ5 BB5 hW5 hS6 T6 htl hM b6
          have c0 := hX6.r.c0
          have c1 := hX6.r.c1
          have c2 := hX6.r.c2
          have c3 := hX6.r.c3
          have c4 := hX6.r.c4
          have c5 := hX6.r.c5
          have c6 := hX6.c6
          go_wp2_with fail
          refine htl6.mono ?_
          rintro x w7 ⟨rfl, b7⟩
          have hX7 := hX6.later (b7.mono hX6.r.lt)
          have hZ7 := hZ6.later b7
          have hO7 := hO6.later b7
          have BB7 := BB6.trans (b7.mono BB6.size)
          clear htl6 c0 c1 c2 c3 c4 c5 c6 hX6 hZ6 hO6 BB6 b7 hS
          have e1 : Hid (rep = 0 ∧ rnu = 0 ∧ rki = 0 ∧ rsp = [] ∧ rtx = ⟨#[]⟩ ∧ rsum = 0 ∧ rn = 0 ∧ rer = 12) := by
            have := hr.out
            rw [if_neg (fun x => hr9.out x.2.2)] at this
            simp only [no, Prod.mk.injEq, Rc.mk.injEq] at this
            obtain ⟨⟨a, b, c, d, _, f⟩, g, h, i⟩ := this
            exact ⟨a.symm, b.symm, c.symm, d.symm, f.symm, g.symm, h.symm, i.symm⟩
          obtain ⟨rfl, rfl, rfl, rfl, rfl, rfl, rfl, rfl⟩ := e1.out
          clear e1 hr
          have z0 := hZ7.box.r.c0
          have z1 := hZ7.box.r.c1
          have z2 := hZ7.box.r.c2
          have z3 := hZ7.box.r.c3
          have z4 := hZ7.box.r.c4
          have z5 := hZ7.box.r.c5
          have z6 := hZ7.box.c6
          have y0 := hZ7.fr 0
          have y1 := hZ7.fr 1
          have y2 := hZ7.fr 2
          have y3 := hZ7.fr 3
          have y4 := hZ7.fr 4
          have y5 := hZ7.fr 5
          have y6 := hZ7.fr 6
          have hE := ((((((hZ7.set0 (0)).set1 (0)).set2 (0)).set3 (.slice none 0 0)).set4 ⟨#[]⟩).set5 ⟨#[]⟩).set6 (0)
          have kZ : ∀ (W : World) (i : Nat) (u : Value), Keep (fun k => k = w.heap.size) W (W.setCell ⟨w.heap.size, i, none⟩ u) := fun W i u => Keep.setCell W _ u rfl
          have kAll := ((((((kZ w7 0 (.int .i64 (0))).trans (kZ _ 1 (.int .i64 (0))) fun _ _ x => x).trans (kZ _ 2 (.int .i64 (0))) fun _ _ x => x).trans (kZ _ 3 (.slice none 0 0)) fun _ _ x => x).trans (kZ _ 4 (.string ⟨#[]⟩)) fun _ _ x => x).trans (kZ _ 5 (.string ⟨#[]⟩)) fun _ _ x => x).trans (kZ _ 6 (.int .u32 (0 : Nat))) fun _ _ x => x
          rw [show (((0 : Nat)) : Int) = 0 from rfl] at hE kAll
          have BF := BB7.trans (kAll.below (B := w.heap.size) BB7.size (fun k hk x => by omega))
          replace hE := hide hE
          clear kAll kZ hZ7 BB7
          go_wp2
          have e0 := hE.out.box.r.c0
          have e1 := hE.out.box.r.c1
          have e2 := hE.out.box.r.c2
          have e3 := hE.out.box.r.c3
          have e4 := hE.out.box.r.c4
          have e5 := hE.out.box.r.c5
          have e6 := hE.out.box.c6
          refine bodyPost_ret (v := .tuple #[.agg #[.int .i64 0, .int .i64 0, .int .i64 0, .slice none 0 0, .string ⟨#[]⟩, .string ⟨#[]⟩, .int .u32 (0 : Nat)], .int .i64 0, .int .i64 12]) (by simp [results, Tryd.results35, go_sem, e0, e1, e2, e3, e4, e5, e6]) rfl ⟨_, rfl, Own.nil _, From.nil _ _ _, BF⟩
      · have hr9 := hide hB0
        generalize hB ⟨ep, nu, ki, sp, ⟨#[]⟩, tx⟩ = X at *
        have hX0 : (X == 0) = false := by simpa using hB0
        clear hB0
        go_wp2_with fail
        refine her.mono ?_
        rintro x w6 ⟨rfl, rfl⟩
        go_wp2_with fail
        refine hch.mono ?_
        rintro x w6 ⟨rfl, b6⟩
        have hZ6 := hZ5.later b6
        have BB6 := BB5.trans (b6.mono BB5.size)
        clear her hch c0 c1 c2 c3 c4 c5 hX5 hO5 hS5 hI5 T5 hZ5 BB5 hW5 hS hM
        have e1 : Hid (rep = 0 ∧ rnu = 0 ∧ rki = 0 ∧ rsp = [] ∧ rtx = ⟨#[]⟩ ∧ rsum = 0 ∧ rn = 0 ∧ rer = 12) := by
          have := hr.out
          rw [if_neg (fun x => hr9.out x.2.1)] at this
          simp only [no, Prod.mk.injEq, Rc.mk.injEq] at this
          obtain ⟨⟨a, b, c, d, _, f⟩, g, h, i⟩ := this
          exact ⟨a.symm, b.symm, c.symm, d.symm, f.symm, g.symm, h.symm, i.symm⟩
        obtain ⟨rfl, rfl, rfl, rfl, rfl, rfl, rfl, rfl⟩ := e1.out
        clear e1 hr
        have z0 := hZ6.box.r.c0
        have z1 := hZ6.box.r.c1
        have z2 := hZ6.box.r.c2
        have z3 := hZ6.box.r.c3
        have z4 := hZ6.box.r.c4
        have z5 := hZ6.box.r.c5
        have z6 := hZ6.box.c6
        have y0 := hZ6.fr 0
        have y1 := hZ6.fr 1
        have y2 := hZ6.fr 2
        have y3 := hZ6.fr 3
        have y4 := hZ6.fr 4
        have y5 := hZ6.fr 5
        have y6 := hZ6.fr 6
        have hE := ((((((hZ6.set0 (0)).set1 (0)).set2 (0)).set3 (.slice none 0 0)).set4 ⟨#[]⟩).set5 ⟨#[]⟩).set6 (0)
        have kZ : ∀ (W : World) (i : Nat) (u : Value), Keep (fun k => k = w.heap.size) W (W.setCell ⟨w.heap.size, i, none⟩ u) := fun W i u => Keep.setCell W _ u rfl
        have kAll := ((((((kZ w6 0 (.int .i64 (0))).trans (kZ _ 1 (.int .i64 (0))) fun _ _ x => x).trans (kZ _ 2 (.int .i64 (0))) fun _ _ x => x).trans (kZ _ 3 (.slice none 0 0)) fun _ _ x => x).trans (kZ _ 4 (.string ⟨#[]⟩)) fun _ _ x => x).trans (kZ _ 5 (.string ⟨#[]⟩)) fun _ _ x => x).trans (kZ _ 6 (.int .u32 (0 : Nat))) fun _ _ x => x
        rw [show (((0 : Nat)) : Int) = 0 from rfl] at hE kAll
        have BF := BB6.trans (kAll.below (B := w.heap.size) BB6.size (fun k hk x => by omega))
        replace hE := hide hE
        clear kAll kZ hZ6 BB6
        go_wp2
        have e0 := hE.out.box.r.c0
        have e1 := hE.out.box.r.c1
        have e2 := hE.out.box.r.c2
        have e3 := hE.out.box.r.c3
        have e4 := hE.out.box.r.c4
        have e5 := hE.out.box.r.c5
        have e6 := hE.out.box.c6
        refine bodyPost_ret (v := .tuple #[.agg #[.int .i64 0, .int .i64 0, .int .i64 0, .slice none 0 0, .string ⟨#[]⟩, .string ⟨#[]⟩, .int .u32 (0 : Nat)], .int .i64 0, .int .i64 12]) (by simp [results, Tryd.results35, go_sem, e0, e1, e2, e3, e4, e5, e6]) rfl ⟨_, rfl, Own.nil _, From.nil _ _ _, BF⟩
    · have hE0' : (E == 0) = false := by simpa using hE0
      have hr9 := hide hE0
      clear hE0
      go_wp2_with fail
      refine her.mono ?_
      rintro x w6 ⟨rfl, rfl⟩
      clear her hch c0 c1 c2 c3 c4 c5 hX5 hO5 hS5 hI5 T5 hW5 hS hM
      have e1 : Hid (rep = 0 ∧ rnu = 0 ∧ rki = 0 ∧ rsp = [] ∧ rtx = ⟨#[]⟩ ∧ rsum = 0 ∧ rn = 0 ∧ rer = 12) := by
        have := hr.out
        rw [if_neg (fun x => hr9.out x.1)] at this
        simp only [no, Prod.mk.injEq, Rc.mk.injEq] at this
        obtain ⟨⟨a, b, c, d, _, f⟩, g, h, i⟩ := this
        exact ⟨a.symm, b.symm, c.symm, d.symm, f.symm, g.symm, h.symm, i.symm⟩
      obtain ⟨rfl, rfl, rfl, rfl, rfl, rfl, rfl, rfl⟩ := e1.out
      clear e1 hr
      have z0 := hZ5.box.r.c0
      have z1 := hZ5.box.r.c1
      have z2 := hZ5.box.r.c2
      have z3 := hZ5.box.r.c3
      have z4 := hZ5.box.r.c4
      have z5 := hZ5.box.r.c5
      have z6 := hZ5.box.c6
      have y0 := hZ5.fr 0
      have y1 := hZ5.fr 1
      have y2 := hZ5.fr 2
      have y3 := hZ5.fr 3
      have y4 := hZ5.fr 4
      have y5 := hZ5.fr 5
      have y6 := hZ5.fr 6
      have hE := ((((((hZ5.set0 (0)).set1 (0)).set2 (0)).set3 (.slice none 0 0)).set4 ⟨#[]⟩).set5 ⟨#[]⟩).set6 (0)
      have kZ : ∀ (W : World) (i : Nat) (u : Value), Keep (fun k => k = w.heap.size) W (W.setCell ⟨w.heap.size, i, none⟩ u) := fun W i u => Keep.setCell W _ u rfl
      have kAll := ((((((kZ w6 0 (.int .i64 (0))).trans (kZ _ 1 (.int .i64 (0))) fun _ _ x => x).trans (kZ _ 2 (.int .i64 (0))) fun _ _ x => x).trans (kZ _ 3 (.slice none 0 0)) fun _ _ x => x).trans (kZ _ 4 (.string ⟨#[]⟩)) fun _ _ x => x).trans (kZ _ 5 (.string ⟨#[]⟩)) fun _ _ x => x).trans (kZ _ 6 (.int .u32 (0 : Nat))) fun _ _ x => x
      rw [show (((0 : Nat)) : Int) = 0 from rfl] at hE kAll
      have BF := BB5.trans (kAll.below (B := w.heap.size) BB5.size (fun k hk x => by omega))
      replace hE := hide hE
      clear kAll kZ hZ5 BB5
      go_wp2
      have e0 := hE.out.box.r.c0
      have e1 := hE.out.box.r.c1
      have e2 := hE.out.box.r.c2
      have e3 := hE.out.box.r.c3
      have e4 := hE.out.box.r.c4
      have e5 := hE.out.box.r.c5
      have e6 := hE.out.box.c6
      refine bodyPost_ret (v := .tuple #[.agg #[.int .i64 0, .int .i64 0, .int .i64 0, .slice none 0 0, .string ⟨#[]⟩, .string ⟨#[]⟩, .int .u32 (0 : Nat)], .int .i64 0, .int .i64 12]) (by simp [results, Tryd.results35, go_sem, e0, e1, e2, e3, e4, e5, e6]) rfl ⟨_, rfl, Own.nil _, From.nil _ _ _, BF⟩

  · have he1 : (er == 0) = false := by simpa using he0
    have e1 : Hid (rep = 0 ∧ rnu = 0 ∧ rki = 0 ∧ rsp = [] ∧ rtx = ⟨#[]⟩ ∧ rsum = 0 ∧ rn = 0 ∧ rer = er) := by
      have := hr.out
      rw [rH, hq.out, if_neg he0] at this
      simp only [no, Prod.mk.injEq, Rc.mk.injEq] at this
      obtain ⟨⟨a, b, c, d, _, f⟩, g, h, i⟩ := this
      exact ⟨a.symm, b.symm, c.symm, d.symm, f.symm, g.symm, h.symm, i.symm⟩
    obtain ⟨rfl, rfl, rfl, rfl, rfl, rfl, rfl, rfl⟩ := e1.out
    clear e1 hr
    have z0 := hZ2.box.r.c0
    have z1 := hZ2.box.r.c1
    have z2 := hZ2.box.r.c2
    have z3 := hZ2.box.r.c3
    have z4 := hZ2.box.r.c4
    have z5 := hZ2.box.r.c5
    have z6 := hZ2.box.c6
    have y0 := hZ2.fr 0
    have y1 := hZ2.fr 1
    have y2 := hZ2.fr 2
    have y3 := hZ2.fr 3
    have y4 := hZ2.fr 4
    have y5 := hZ2.fr 5
    have y6 := hZ2.fr 6
    have hE := ((((((hZ2.set0 (0)).set1 (0)).set2 (0)).set3 (.slice none 0 0)).set4 ⟨#[]⟩).set5 ⟨#[]⟩).set6 (0)
    have kZ : ∀ (W : World) (i : Nat) (u : Value), Keep (fun k => k = w.heap.size) W (W.setCell ⟨w.heap.size, i, none⟩ u) := fun W i u => Keep.setCell W _ u rfl
    have kAll := ((((((kZ w2 0 (.int .i64 (0))).trans (kZ _ 1 (.int .i64 (0))) fun _ _ x => x).trans (kZ _ 2 (.int .i64 (0))) fun _ _ x => x).trans (kZ _ 3 (.slice none 0 0)) fun _ _ x => x).trans (kZ _ 4 (.string ⟨#[]⟩)) fun _ _ x => x).trans (kZ _ 5 (.string ⟨#[]⟩)) fun _ _ x => x).trans (kZ _ 6 (.int .u32 (0 : Nat))) fun _ _ x => x
    rw [show (((0 : Nat)) : Int) = 0 from rfl] at hE kAll
    have BF := BB2.trans (kAll.below (B := w.heap.size) BB2.size (fun k hk x => by omega))
    replace hE := hide hE
    clear kAll kZ hZ2 BB2
    go_wp2
    have e0 := hE.out.box.r.c0
    have e1 := hE.out.box.r.c1
    have e2 := hE.out.box.r.c2
    have e3 := hE.out.box.r.c3
    have e4 := hE.out.box.r.c4
    have e5 := hE.out.box.r.c5
    have e6 := hE.out.box.c6
    refine bodyPost_ret (v := .tuple #[.agg #[.int .i64 0, .int .i64 0, .int .i64 0, .slice none 0 0, .string ⟨#[]⟩, .string ⟨#[]⟩, .int .u32 (0 : Nat)], .int .i64 0, .int .i64 rer]) (by simp [results, Tryd.results35, go_sem, e0, e1, e2, e3, e4, e5, e6]) rfl ⟨_, rfl, Own.nil _, From.nil _ _ _, BF⟩
end Re
end Go.Proofs.YtnpbgjafahhadaaDoor
