/- What is read of a head, all of it. -/
import Derived.Test.YtnpbgjafahhadaaDoorRn
namespace Go.Proofs.YtnpbgjafahhadaaDoor
open Go.RowKit
namespace Re
open Cr
/-- What reading the rest of a head leaves. -/
def Rest (w : World) (b c : Nat) (s : ByteArray) (ep nu ki : Int) (da : ByteArray) (q : List (Int × Int) × ByteArray × Nat × Nat × Int) (w' : World) : Prop :=
  ∃ v', InAt w' b s q.2.2.2.1 q.2.2.2.2 ∧ HdAt w' c ep nu ki v' da q.2.1 q.2.2.1 ∧ Own w' v' q.1 ∧ Keep (bc b c) w w' ∧ From w.heap.size v'
theorem fixP_le {l : List Nat} {p : Nat} {e m : Int} (h : p ≤ l.length) : (fixP l p e m).2.1 ≤ l.length := by
  unfold fixP
  split
  · simp only
    by_cases h1 : 1 ≤ m ∧ m ≤ 8
    · by_cases h2 : ((l.drop p).length : Int) < m
      · rw [fixR_short h1 h2]
        exact h
      · rw [fixR_ok h1 h2]
        rw [List.length_drop] at h2
        simp only
        omega
    · rw [fixR_arg h1]
      exact h
  · exact h
set_option maxHeartbeats 2000000 in
theorem readWrite_any {b c p : Nat} {e : Int} {s : ByteArray} {w : World} {ep nu ki : Int} {da : ByteArray} (hI : InAt w b s p e) (hs : s.size ≤ 1000000) (hp : p ≤ s.size) (hH : HdAt w c ep nu ki (.slice none 0 0) da ⟨#[]⟩ 0) (hbc : b ≠ c) :
    Calls Tryd.prog 51 #[.pointer (some ⟨b, 0, none⟩), .pointer (some ⟨c, 0, none⟩)] w fun x w' => x = .returned (.tuple #[]) ∧ Rest w b c s ep nu ki da (rdX (bs s) 1 p e) w' := by
  have hr := readSpans_any hI hs hp hH hbc
  have hle := rdS_le (l := bs s) (p := p) (e := e) (by rw [bs_length]; exact hp)
  unfold Rest
  simp only [rdX, if_pos]
  rw [bs_length] at hle
  generalize rdS (bs s) p e = q at *
  obtain ⟨L, P, E⟩ := q
  simp only at hr hle ⊢
  have hbl := hI.lt
  have hcl := hH.lt
  generalize hq2 : fixP (bs s) P E 4 = q2 at *
  obtain ⟨X, P2, E2⟩ := q2
  simp only
  replace hq2 := hide hq2
  have hcast : Hid (((X % 4294967296 : Nat) : Int) = (X : Int) % 4294967296) := by show _ = _; omega
  clear hI hH
  go_enter Tryd.func51, Tryd.ntmps51
  go_wp2_with fail
  refine hr.mono ?_
  rintro x w1 ⟨rfl, v', hI1, hH1, hO1, hK1, hF1⟩
  have hr2 := rfix_both 4 hI1 (by omega) hle (by omega)
  rw [hq2.out] at hr2
  simp only at hr2
  have hvb : v'.ownBlock ≠ some b := fun h => by have := hF1 _ h; omega
  have hvc : v'.ownBlock ≠ some c := fun h => by have := hF1 _ h; omega
  clear hr
  go_wp2_with fail
  refine hr2.mono ?_
  rintro x w2 ⟨rfl, hd⟩
  have hI2 := hd.inn
  have hH2 := hH1.keep hd.keep (fun x => hbc x.symm)
  have hO2 := own_keep hO1 hd.keep (fun i hi x => hvb (x ▸ hi))
  have hK2 : Keep (bc b c) w w2 := hK1.trans hd.keep fun i _ x => .inl x
  have c6 := hH2.box.c6
  have f6 := hH2.fr 6
  have kS := Keep.setCell (X := fun k => k = c) w2 ⟨c, 6, none⟩ (.int .u32 ((X % 4294967296 : Nat) : Int)) rfl
  have hI5 := in_keep hI2 kS (fun x => hbc x)
  have hH5 := hH2.set6 (X % 4294967296)
  have hO5 := own_keep hO2 kS (fun i hi x => hvc (x ▸ hi))
  have hK5 : Keep (bc b c) w _ := hK2.trans kS fun i _ x => .inr x
  rw [hcast.out] at hI5 hH5 hO5 hK5
  have HG := hide (show ∃ v', InAt _ b s P2 E2 ∧ HdAt _ c ep nu ki v' da ⟨#[]⟩ (X % 4294967296) ∧ Own _ v' L ∧ Keep (bc b c) w _ ∧ From w.heap.size v' from ⟨v', hI5, hH5, hO5, hK5, hF1⟩)
  clear hI1 hH1 hO1 hK1 hd hI2 hH2 hO2 hK2 kS hI5 hH5 hO5 hK5 hr2 hvb hvc
  go_wp2
  go_end0
  exact ⟨rfl, HG.out⟩
set_option maxHeartbeats 2000000 in
theorem readText_any {b c p : Nat} {e : Int} {s : ByteArray} {w : World} {ep nu ki : Int} {da : ByteArray} (hI : InAt w b s p e) (hs : s.size ≤ 1000000) (hp : p ≤ s.size) (hH : HdAt w c ep nu ki (.slice none 0 0) da ⟨#[]⟩ 0) (hbc : b ≠ c) :
    Calls Tryd.prog 58 #[.pointer (some ⟨b, 0, none⟩), .pointer (some ⟨c, 0, none⟩)] w fun x w' => x = .returned (.tuple #[]) ∧ Rest w b c s ep nu ki da (rdX (bs s) 3 p e) w' := by
  have hr := rtxt_both 512 hI (by omega) hp (by omega)
  unfold Rest
  rw [rdX, if_neg (by omega), if_neg (by omega), if_pos rfl]
  generalize txtP (bs s) p e 512 = q at *
  obtain ⟨L, P, E⟩ := q
  simp only at hr ⊢
  have hbl := hI.lt
  have hcl := hH.lt
  clear hI
  generalize str L = S at *
  go_enter Tryd.func58, Tryd.ntmps58
  go_wp2_with fail
  refine hr.mono ?_
  rintro x w2 ⟨rfl, hd⟩
  have hI2 := hd.inn
  have hH2 := hH.keep hd.keep (fun x => hbc x.symm)
  have hK2 : Keep (bc b c) w w2 := (Keep.refl (bc b c) w).trans hd.keep fun i _ x => .inl x
  have c5 := hH2.box.r.c5
  have f5 := hH2.fr 5
  have kS := Keep.setCell (X := fun k => k = c) w2 ⟨c, 5, none⟩ (.string S) rfl
  have hI5 := in_keep hI2 kS (fun x => hbc x)
  have hH5 := hH2.set5 S
  have hK5 : Keep (bc b c) w _ := hK2.trans kS fun i _ x => .inr x
  have HG := hide (show ∃ v', InAt (w2.setCell ⟨c, 5, none⟩ (.string S)) b s P E ∧ HdAt (w2.setCell ⟨c, 5, none⟩ (.string S)) c ep nu ki v' da S 0 ∧ Own (w2.setCell ⟨c, 5, none⟩ (.string S)) v' [] ∧ Keep (bc b c) w (w2.setCell ⟨c, 5, none⟩ (.string S)) ∧ From w.heap.size v' from ⟨.slice none 0 0, hI5, hH5, Own.nil _, hK5, From.nil _ _ _⟩)
  clear hH hd hI2 hH2 hK2 kS hI5 hH5 hK5 hr
  go_wp2
  go_end0
  exact ⟨rfl, HG.out⟩
theorem readNothing_any {b c p : Nat} {e : Int} {s : ByteArray} {w : World} {ep nu ki : Int} {da : ByteArray} (hI : InAt w b s p e) (hH : HdAt w c ep nu ki (.slice none 0 0) da ⟨#[]⟩ 0) :
    Calls Tryd.prog 60 #[.pointer (some ⟨b, 0, none⟩), .pointer (some ⟨c, 0, none⟩)] w fun x w' => x = .returned (.tuple #[]) ∧ Rest w b c s ep nu ki da (rdX (bs s) 0 p e) w' := by
  have HG : Hid (Rest w b c s ep nu ki da (rdX (bs s) 0 p e) w) := by
    unfold Rest
    rw [rdX, if_neg (by omega), if_neg (by omega), if_neg (by omega)]
    exact ⟨_, hI, hH, Own.nil _, Keep.refl _ _, From.nil _ _ _⟩
  clear hI hH
  go_enter Tryd.func60, Tryd.ntmps60
  go_wp2
  go_end0
  exact ⟨rfl, HG.out⟩
theorem readSpansR {b c p : Nat} {e : Int} {s : ByteArray} {w : World} {ep nu ki : Int} {da : ByteArray} (hI : InAt w b s p e) (hs : s.size ≤ 1000000) (hp : p ≤ s.size) (hH : HdAt w c ep nu ki (.slice none 0 0) da ⟨#[]⟩ 0) (hbc : b ≠ c) :
    Calls Tryd.prog 55 #[.pointer (some ⟨b, 0, none⟩), .pointer (some ⟨c, 0, none⟩)] w fun x w' => x = .returned (.tuple #[]) ∧ Rest w b c s ep nu ki da (rdX (bs s) 2 p e) w' := by
  unfold Rest
  rw [rdX, if_neg (by omega), if_pos rfl]
  exact readSpans_any hI hs hp hH hbc
theorem hdNew (w : World) : HdAt (w.alloc (.cells #[.int .i64 0, .int .i64 0, .int .i64 0, .slice none 0 0, .string { data := #[] }, .string { data := #[] }, .int .u32 0] 61)) w.heap.size 0 0 0 (.slice none 0 0) ⟨#[]⟩ ⟨#[]⟩ 0 :=
  ⟨⟨⟨by simp, by simp, by simp, by simp, by simp, by simp, by simp⟩, by simp⟩, fun i => by simp⟩

set_option maxHeartbeats 4000000 in
set_option maxRecDepth 20000 in
theorem readBody1 {b : Nat} {s : ByteArray} {w : World} (hI : InAt w b s 0 0) (hs : s.size ≤ 1000000) (hk : (rd3 (bs s)).1.2.2 = 1) :
    Calls Tryd.prog 65 #[.pointer (some ⟨b, 0, none⟩)] w fun x w' => ∃ v', x = .returned (.agg #[.int .i64 (rdB (bs s)).1.ep, .int .i64 (rdB (bs s)).1.nu, .int .i64 (rdB (bs s)).1.ki, v', .string ⟨#[]⟩, .string (rdB (bs s)).1.tx, .int .u32 ((rdB (bs s)).2.1 : Nat)]) ∧ Own w' v' (rdB (bs s)).1.sp ∧ From w.heap.size v' ∧ (∃ p', InAt w' b s p' (rdB (bs s)).2.2) ∧ Keep (fun k => k = b) w w' := by
  have hlen := bs_length s
  have l1 := intP_le (l := bs s) (p := 0) (e := 0) (m := 4294967295) (by omega) (by omega)
  have hbl := hI.lt
  have hZ0 := hdNew w
  have hA1 := below_alloc w (.cells #[.int .i64 0, .int .i64 0, .int .i64 0, .slice none 0 0, .string { data := #[] }, .string { data := #[] }, .int .u32 0] 61)
  have hz1 : Hid ((w.alloc (.cells #[.int .i64 0, .int .i64 0, .int .i64 0, .slice none 0 0, .string { data := #[] }, .string { data := #[] }, .int .u32 0] 61)).heap.size = w.heap.size + 1) := by simp [Hid]
  generalize hW1 : w.alloc (.cells #[.int .i64 0, .int .i64 0, .int .i64 0, .slice none 0 0, .string { data := #[] }, .string { data := #[] }, .int .u32 0] 61) = W1 at *
  have hC0 := hdNew W1
  have hA2 := below_alloc W1 (.cells #[.int .i64 0, .int .i64 0, .int .i64 0, .slice none 0 0, .string { data := #[] }, .string { data := #[] }, .int .u32 0] 61)
  have hz2 : Hid ((W1.alloc (.cells #[.int .i64 0, .int .i64 0, .int .i64 0, .slice none 0 0, .string { data := #[] }, .string { data := #[] }, .int .u32 0] 61)).heap.size = W1.heap.size + 1) := by simp [Hid]
  have hz1' := hz1.out
  have hbc : b ≠ W1.heap.size := by omega
  have hbd : b ≠ w.heap.size := by omega
  have hcd : ¬ w.heap.size = W1.heap.size := by omega
  have hI2 := (hI.later hA1).later hA2
  have hZ2 := hZ0.later hA2
  have hK2 : Keep (fun k => k = b) w (W1.alloc (.cells #[.int .i64 0, .int .i64 0, .int .i64 0, .slice none 0 0, .string { data := #[] }, .string { data := #[] }, .int .u32 0] 61)) := Keep.of_below (hA1.trans (hA2.mono hA1.size))
  generalize hW2 : W1.alloc (.cells #[.int .i64 0, .int .i64 0, .int .i64 0, .slice none 0 0, .string { data := #[] }, .string { data := #[] }, .int .u32 0] 61) = W2 at *
  clear hA1 hA2 hZ0 hI hz1' 
  unfold rd3 at hk
  unfold rdB rd3
  have hr1 := rint_both 4294967295 hI2 (by omega) (by omega) (by omega)
  generalize intP (bs s) 0 0 4294967295 = q1 at *
  obtain ⟨A, P1, E1⟩ := q1
  simp only at hr1 l1 hk ⊢
  have l2 := intP_le (l := bs s) (p := P1) (e := E1) (m := 1099511627775) l1 (by omega)
  generalize hq2 : intP (bs s) P1 E1 1099511627775 = q2 at *
  obtain ⟨B, P2, E2⟩ := q2
  simp only at l2 hk ⊢
  have l3 := intP_le (l := bs s) (p := P2) (e := E2) (m := 3) l2 (by omega)
  generalize hq3 : intP (bs s) P2 E2 3 = q3 at *
  obtain ⟨C, P3, E3⟩ := q3
  simp only at l3 hk ⊢
  subst hk
  generalize hq4 : rdX (bs s) 1 P3 E3 = q4 at *
  obtain ⟨L, tx, sum, P4, E4⟩ := q4
  simp only
  replace hq2 := hide hq2
  replace hq3 := hide hq3
  replace hq4 := hide hq4
  have hC1 : HdAt W2 W1.heap.size 0 0 0 (.slice none 0 0) ⟨#[]⟩ ⟨#[]⟩ 0 := hC0
  have hK2b := hK2
  clear hC0 hK2
  go_enter Tryd.func65, Tryd.ntmps65
  go_wp2_with fail
  refine hr1.mono ?_
  rintro x w3 ⟨rfl, hd⟩
  have hI3 := hd.inn
  have hH3 := hC1.keep hd.keep (fun x => hbc x.symm)
  have hZ3 := hZ2.keep hd.keep (fun x => hbd x.symm)
  have hs3 := hd.keep.size
  have hK3 : Keep (bc b W1.heap.size) W2 w3 := (Keep.refl (bc b W1.heap.size) W2).trans hd.keep fun i _ x => .inl x
  have c0 := hH3.box.r.c0
  have f0 := hH3.fr 0
  have kS := Keep.setCell (X := fun k => k = W1.heap.size) w3 ⟨W1.heap.size, 0, none⟩ (.int .i64 (A : Int)) rfl
  have hI4 := in_keep hI3 kS (fun x => hbc x)
  have hH4 := hH3.set0 (A : Int)
  have hZ4 := hZ3.keep kS hcd
  have hK4 : Keep (bc b W1.heap.size) W2 _ := hK3.trans kS fun i _ x => .inr x
  have hr2 := rint_both 1099511627775 hI4 (by omega) (by omega) (by omega)
  rw [hq2.out] at hr2
  simp only at hr2
  clear hr1 hd hI3 hH3 hZ3 hK3 kS hI4 hC1 hI2 hZ2 hW1 hW2
  go_wp2_with fail
  refine hr2.mono ?_
  rintro x w5 ⟨rfl, hd⟩
  have hI5 := hd.inn
  have hH5 := hH4.keep hd.keep (fun x => hbc x.symm)
  have hZ5 := hZ4.keep hd.keep (fun x => hbd x.symm)
  have hs5 := hd.keep.size
  have hK5 : Keep (bc b W1.heap.size) W2 w5 := hK4.trans hd.keep fun i _ x => .inl x
  have c1 := hH5.box.r.c1
  have f1 := hH5.fr 1
  have kS := Keep.setCell (X := fun k => k = W1.heap.size) w5 ⟨W1.heap.size, 1, none⟩ (.int .i64 (B : Int)) rfl
  have hI6 := in_keep hI5 kS (fun x => hbc x)
  have hH6 := hH5.set1 (B : Int)
  have hZ6 := hZ5.keep kS hcd
  have hK6 : Keep (bc b W1.heap.size) W2 _ := hK5.trans kS fun i _ x => .inr x
  have hr3 := rint_both 3 hI6 (by omega) (by omega) (by omega)
  rw [hq3.out] at hr3
  simp only at hr3
  clear hr2 hd hI5 hH5 hZ5 hK5 kS hI6 hH4 hZ4 hK4 c0 f0
  go_wp2_with fail
  refine hr3.mono ?_
  rintro x w7 ⟨rfl, hd⟩
  have hI7 := hd.inn
  have hH7 := hH6.keep hd.keep (fun x => hbc x.symm)
  have hZ7 := hZ6.keep hd.keep (fun x => hbd x.symm)
  have hK7 : Keep (bc b W1.heap.size) W2 w7 := hK6.trans hd.keep fun i _ x => .inl x
  have c2 := hH7.box.r.c2
  have f2 := hH7.fr 2
  have kS := Keep.setCell (X := fun k => k = W1.heap.size) w7 ⟨W1.heap.size, 2, none⟩ (.int .i64 (1 : Int)) rfl
  have hI8 := in_keep hI7 kS (fun x => hbc x)
  have hH8 := hH7.set2 (1 : Int)
  have hZ8 := hZ7.keep kS hcd
  have hK8 : Keep (bc b W1.heap.size) W2 _ := hK7.trans kS fun i _ x => .inr x
  have c2' := hH8.box.r.c2
  clear hr3 hd hI7 hH7 hZ7 hK7 kS hH6 hZ6 hK6 c1 f1
  have hN := needs1
  have hfi := fun w => fld3 (.func (.func 48) #[] #[]) (.func (.func 49) #[] #[]) (.func (.func 50) #[] #[]) (.func (.func 51) #[] #[]) w
  go_wp2_with fail
  refine (hN _).mono ?_
  rintro x w9 ⟨rfl, b9⟩
  have hI9 := hI8.later b9
  have hH9 := hH8.later b9
  have hZ9 := hZ8.later b9
  have hs9 := b9.size
  have hK9 : Keep (bc b W1.heap.size) W2 w9 := hK8.trans (Keep.of_below (X := bc b W1.heap.size) b9) fun _ _ x => x
  have hRd := readWrite_any hI9 hs (by omega) hH9 hbc
  have hsW : W2.heap.size ≤ w9.heap.size := hK9.size
  clear hN hI8 hH8 hZ8 hK8 b9 c2 f2 c2'
  unfold Rest at hRd
  rw [hq4.out] at hRd
  simp only at hRd
  go_wp2_with fail
  refine hRd.mono ?_
  rintro x w10 ⟨rfl, v', hI10, hH10, hO10, hK10, hF10⟩
  have hZ10 := hZ9.keep hK10 (fun x => x.elim (fun x => hbd x.symm) hcd)
  obtain ⟨va, vn, vc, rfl⟩ := own_form hO10
  have hcf := hH10.box
  have a0 := hcf.r.c0
  have a1 := hcf.r.c1
  have a2 := hcf.r.c2
  have a3 := hcf.r.c3
  have a4 := hcf.r.c4
  have a5 := hcf.r.c5
  have a6 := hcf.c6
  have z0 := hZ10.box.r.c0
  have z1 := hZ10.box.r.c1
  have z2 := hZ10.box.r.c2
  have z3 := hZ10.box.r.c3
  have z4 := hZ10.box.r.c4
  have z5 := hZ10.box.r.c5
  have z6 := hZ10.box.c6
  have y0 := hZ10.fr 0
  have y1 := hZ10.fr 1
  have y2 := hZ10.fr 2
  have y3 := hZ10.fr 3
  have y4 := hZ10.fr 4
  have y5 := hZ10.fr 5
  have y6 := hZ10.fr 6
  have hE := ((((((hZ10.set0 (A : Int)).set1 (B : Int)).set2 1).set3 (.slice va vn vc)).set4 ⟨#[]⟩).set5 tx).set6 sum
  have hvd : (Value.slice va vn vc).ownBlock ≠ some w.heap.size := fun h => by have := hF10 _ h; have := hz2.out; have := hz1.out; omega
  have kZ : ∀ (W : World) (i : Nat) (u : Value), Keep (fun k => k = w.heap.size) W (W.setCell ⟨w.heap.size, i, none⟩ u) := fun W i u => Keep.setCell W _ u rfl
  have hO11 := own_keep (own_keep (own_keep (own_keep (own_keep (own_keep (own_keep hO10 (kZ _ 0 (.int .i64 (A : Int))) (fun i hi x => hvd (x ▸ hi))) (kZ _ 1 (.int .i64 (B : Int))) (fun i hi x => hvd (x ▸ hi))) (kZ _ 2 (.int .i64 1)) (fun i hi x => hvd (x ▸ hi))) (kZ _ 3 (.slice va vn vc)) (fun i hi x => hvd (x ▸ hi))) (kZ _ 4 (.string ⟨#[]⟩)) (fun i hi x => hvd (x ▸ hi))) (kZ _ 5 (.string tx)) (fun i hi x => hvd (x ▸ hi))) (kZ _ 6 (.int .u32 (sum : Nat))) (fun i hi x => hvd (x ▸ hi))
  have kAll := ((((((kZ w10 0 (.int .i64 (A : Int))).trans (kZ _ 1 (.int .i64 (B : Int))) fun _ _ x => x).trans (kZ _ 2 (.int .i64 1)) fun _ _ x => x).trans (kZ _ 3 (.slice va vn vc)) fun _ _ x => x).trans (kZ _ 4 (.string ⟨#[]⟩)) fun _ _ x => x).trans (kZ _ 5 (.string tx)) fun _ _ x => x).trans (kZ _ 6 (.int .u32 (sum : Nat))) fun _ _ x => x
  have hI11 := in_keep hI10 kAll (fun x => hbd x)
  have hKF : Keep (fun k => k = b) w _ := ((hK2b.trans hK9 fun i hi x => x.elim id (fun x => by have := hz1.out; omega)).trans hK10 fun i hi x => x.elim id (fun x => by have := hz1.out; omega)).trans kAll fun i hi x => by omega
  have hFF : From w.heap.size (.slice va vn vc) := fun k hk => by have := hF10 k hk; have := hK2b.size; omega
  have e0 := hE.box.r.c0
  have e1 := hE.box.r.c1
  have e2 := hE.box.r.c2
  have e3 := hE.box.r.c3
  have e4 := hE.box.r.c4
  have e5 := hE.box.r.c5
  have e6 := hE.box.c6
  clear hRd hI9 hH9 hZ9 hK9 hI10 hH10 hO10 hK10 hF10 hcf hZ10 hE kZ hK2b hvd kAll
  go_wp2
  refine bodyPost_ret (v := .agg #[.int .i64 (A : Int), .int .i64 (B : Int), .int .i64 1, .slice va vn vc, .string ⟨#[]⟩, .string tx, .int .u32 (sum : Nat)]) (by simp [results, Tryd.results65, go_sem, e0, e1, e2, e3, e4, e5, e6]) rfl ⟨_, rfl, hO11, hFF, ⟨_, hI11⟩, hKF⟩

set_option maxHeartbeats 4000000 in
set_option maxRecDepth 20000 in
theorem readBody2 {b : Nat} {s : ByteArray} {w : World} (hI : InAt w b s 0 0) (hs : s.size ≤ 1000000) (hk : (rd3 (bs s)).1.2.2 = 2) :
    Calls Tryd.prog 65 #[.pointer (some ⟨b, 0, none⟩)] w fun x w' => ∃ v', x = .returned (.agg #[.int .i64 (rdB (bs s)).1.ep, .int .i64 (rdB (bs s)).1.nu, .int .i64 (rdB (bs s)).1.ki, v', .string ⟨#[]⟩, .string (rdB (bs s)).1.tx, .int .u32 ((rdB (bs s)).2.1 : Nat)]) ∧ Own w' v' (rdB (bs s)).1.sp ∧ From w.heap.size v' ∧ (∃ p', InAt w' b s p' (rdB (bs s)).2.2) ∧ Keep (fun k => k = b) w w' := by
  have hlen := bs_length s
  have l1 := intP_le (l := bs s) (p := 0) (e := 0) (m := 4294967295) (by omega) (by omega)
  have hbl := hI.lt
  have hZ0 := hdNew w
  have hA1 := below_alloc w (.cells #[.int .i64 0, .int .i64 0, .int .i64 0, .slice none 0 0, .string { data := #[] }, .string { data := #[] }, .int .u32 0] 61)
  have hz1 : Hid ((w.alloc (.cells #[.int .i64 0, .int .i64 0, .int .i64 0, .slice none 0 0, .string { data := #[] }, .string { data := #[] }, .int .u32 0] 61)).heap.size = w.heap.size + 1) := by simp [Hid]
  generalize hW1 : w.alloc (.cells #[.int .i64 0, .int .i64 0, .int .i64 0, .slice none 0 0, .string { data := #[] }, .string { data := #[] }, .int .u32 0] 61) = W1 at *
  have hC0 := hdNew W1
  have hA2 := below_alloc W1 (.cells #[.int .i64 0, .int .i64 0, .int .i64 0, .slice none 0 0, .string { data := #[] }, .string { data := #[] }, .int .u32 0] 61)
  have hz2 : Hid ((W1.alloc (.cells #[.int .i64 0, .int .i64 0, .int .i64 0, .slice none 0 0, .string { data := #[] }, .string { data := #[] }, .int .u32 0] 61)).heap.size = W1.heap.size + 1) := by simp [Hid]
  have hz1' := hz1.out
  have hbc : b ≠ W1.heap.size := by omega
  have hbd : b ≠ w.heap.size := by omega
  have hcd : ¬ w.heap.size = W1.heap.size := by omega
  have hI2 := (hI.later hA1).later hA2
  have hZ2 := hZ0.later hA2
  have hK2 : Keep (fun k => k = b) w (W1.alloc (.cells #[.int .i64 0, .int .i64 0, .int .i64 0, .slice none 0 0, .string { data := #[] }, .string { data := #[] }, .int .u32 0] 61)) := Keep.of_below (hA1.trans (hA2.mono hA1.size))
  generalize hW2 : W1.alloc (.cells #[.int .i64 0, .int .i64 0, .int .i64 0, .slice none 0 0, .string { data := #[] }, .string { data := #[] }, .int .u32 0] 61) = W2 at *
  clear hA1 hA2 hZ0 hI hz1' 
  unfold rd3 at hk
  unfold rdB rd3
  have hr1 := rint_both 4294967295 hI2 (by omega) (by omega) (by omega)
  generalize intP (bs s) 0 0 4294967295 = q1 at *
  obtain ⟨A, P1, E1⟩ := q1
  simp only at hr1 l1 hk ⊢
  have l2 := intP_le (l := bs s) (p := P1) (e := E1) (m := 1099511627775) l1 (by omega)
  generalize hq2 : intP (bs s) P1 E1 1099511627775 = q2 at *
  obtain ⟨B, P2, E2⟩ := q2
  simp only at l2 hk ⊢
  have l3 := intP_le (l := bs s) (p := P2) (e := E2) (m := 3) l2 (by omega)
  generalize hq3 : intP (bs s) P2 E2 3 = q3 at *
  obtain ⟨C, P3, E3⟩ := q3
  simp only at l3 hk ⊢
  subst hk
  generalize hq4 : rdX (bs s) 2 P3 E3 = q4 at *
  obtain ⟨L, tx, sum, P4, E4⟩ := q4
  simp only
  replace hq2 := hide hq2
  replace hq3 := hide hq3
  replace hq4 := hide hq4
  have hC1 : HdAt W2 W1.heap.size 0 0 0 (.slice none 0 0) ⟨#[]⟩ ⟨#[]⟩ 0 := hC0
  have hK2b := hK2
  clear hC0 hK2
  go_enter Tryd.func65, Tryd.ntmps65
  go_wp2_with fail
  refine hr1.mono ?_
  rintro x w3 ⟨rfl, hd⟩
  have hI3 := hd.inn
  have hH3 := hC1.keep hd.keep (fun x => hbc x.symm)
  have hZ3 := hZ2.keep hd.keep (fun x => hbd x.symm)
  have hs3 := hd.keep.size
  have hK3 : Keep (bc b W1.heap.size) W2 w3 := (Keep.refl (bc b W1.heap.size) W2).trans hd.keep fun i _ x => .inl x
  have c0 := hH3.box.r.c0
  have f0 := hH3.fr 0
  have kS := Keep.setCell (X := fun k => k = W1.heap.size) w3 ⟨W1.heap.size, 0, none⟩ (.int .i64 (A : Int)) rfl
  have hI4 := in_keep hI3 kS (fun x => hbc x)
  have hH4 := hH3.set0 (A : Int)
  have hZ4 := hZ3.keep kS hcd
  have hK4 : Keep (bc b W1.heap.size) W2 _ := hK3.trans kS fun i _ x => .inr x
  have hr2 := rint_both 1099511627775 hI4 (by omega) (by omega) (by omega)
  rw [hq2.out] at hr2
  simp only at hr2
  clear hr1 hd hI3 hH3 hZ3 hK3 kS hI4 hC1 hI2 hZ2 hW1 hW2
  go_wp2_with fail
  refine hr2.mono ?_
  rintro x w5 ⟨rfl, hd⟩
  have hI5 := hd.inn
  have hH5 := hH4.keep hd.keep (fun x => hbc x.symm)
  have hZ5 := hZ4.keep hd.keep (fun x => hbd x.symm)
  have hs5 := hd.keep.size
  have hK5 : Keep (bc b W1.heap.size) W2 w5 := hK4.trans hd.keep fun i _ x => .inl x
  have c1 := hH5.box.r.c1
  have f1 := hH5.fr 1
  have kS := Keep.setCell (X := fun k => k = W1.heap.size) w5 ⟨W1.heap.size, 1, none⟩ (.int .i64 (B : Int)) rfl
  have hI6 := in_keep hI5 kS (fun x => hbc x)
  have hH6 := hH5.set1 (B : Int)
  have hZ6 := hZ5.keep kS hcd
  have hK6 : Keep (bc b W1.heap.size) W2 _ := hK5.trans kS fun i _ x => .inr x
  have hr3 := rint_both 3 hI6 (by omega) (by omega) (by omega)
  rw [hq3.out] at hr3
  simp only at hr3
  clear hr2 hd hI5 hH5 hZ5 hK5 kS hI6 hH4 hZ4 hK4 c0 f0
  go_wp2_with fail
  refine hr3.mono ?_
  rintro x w7 ⟨rfl, hd⟩
  have hI7 := hd.inn
  have hH7 := hH6.keep hd.keep (fun x => hbc x.symm)
  have hZ7 := hZ6.keep hd.keep (fun x => hbd x.symm)
  have hK7 : Keep (bc b W1.heap.size) W2 w7 := hK6.trans hd.keep fun i _ x => .inl x
  have c2 := hH7.box.r.c2
  have f2 := hH7.fr 2
  have kS := Keep.setCell (X := fun k => k = W1.heap.size) w7 ⟨W1.heap.size, 2, none⟩ (.int .i64 (2 : Int)) rfl
  have hI8 := in_keep hI7 kS (fun x => hbc x)
  have hH8 := hH7.set2 (2 : Int)
  have hZ8 := hZ7.keep kS hcd
  have hK8 : Keep (bc b W1.heap.size) W2 _ := hK7.trans kS fun i _ x => .inr x
  have c2' := hH8.box.r.c2
  clear hr3 hd hI7 hH7 hZ7 hK7 kS hH6 hZ6 hK6 c1 f1
  have hN := needs2
  have hfi := fun w => fld3 (.func (.func 52) #[] #[]) (.func (.func 53) #[] #[]) (.func (.func 54) #[] #[]) (.func (.func 55) #[] #[]) w
  go_wp2_with fail
  refine (hN _).mono ?_
  rintro x w9 ⟨rfl, b9⟩
  have hI9 := hI8.later b9
  have hH9 := hH8.later b9
  have hZ9 := hZ8.later b9
  have hs9 := b9.size
  have hK9 : Keep (bc b W1.heap.size) W2 w9 := hK8.trans (Keep.of_below (X := bc b W1.heap.size) b9) fun _ _ x => x
  have hRd := readSpansR hI9 hs (by omega) hH9 hbc
  have hsW : W2.heap.size ≤ w9.heap.size := hK9.size
  clear hN hI8 hH8 hZ8 hK8 b9 c2 f2 c2'
  unfold Rest at hRd
  rw [hq4.out] at hRd
  simp only at hRd
  go_wp2_with fail
  refine hRd.mono ?_
  rintro x w10 ⟨rfl, v', hI10, hH10, hO10, hK10, hF10⟩
  have hZ10 := hZ9.keep hK10 (fun x => x.elim (fun x => hbd x.symm) hcd)
  obtain ⟨va, vn, vc, rfl⟩ := own_form hO10
  have hcf := hH10.box
  have a0 := hcf.r.c0
  have a1 := hcf.r.c1
  have a2 := hcf.r.c2
  have a3 := hcf.r.c3
  have a4 := hcf.r.c4
  have a5 := hcf.r.c5
  have a6 := hcf.c6
  have z0 := hZ10.box.r.c0
  have z1 := hZ10.box.r.c1
  have z2 := hZ10.box.r.c2
  have z3 := hZ10.box.r.c3
  have z4 := hZ10.box.r.c4
  have z5 := hZ10.box.r.c5
  have z6 := hZ10.box.c6
  have y0 := hZ10.fr 0
  have y1 := hZ10.fr 1
  have y2 := hZ10.fr 2
  have y3 := hZ10.fr 3
  have y4 := hZ10.fr 4
  have y5 := hZ10.fr 5
  have y6 := hZ10.fr 6
  have hE := ((((((hZ10.set0 (A : Int)).set1 (B : Int)).set2 2).set3 (.slice va vn vc)).set4 ⟨#[]⟩).set5 tx).set6 sum
  have hvd : (Value.slice va vn vc).ownBlock ≠ some w.heap.size := fun h => by have := hF10 _ h; have := hz2.out; have := hz1.out; omega
  have kZ : ∀ (W : World) (i : Nat) (u : Value), Keep (fun k => k = w.heap.size) W (W.setCell ⟨w.heap.size, i, none⟩ u) := fun W i u => Keep.setCell W _ u rfl
  have hO11 := own_keep (own_keep (own_keep (own_keep (own_keep (own_keep (own_keep hO10 (kZ _ 0 (.int .i64 (A : Int))) (fun i hi x => hvd (x ▸ hi))) (kZ _ 1 (.int .i64 (B : Int))) (fun i hi x => hvd (x ▸ hi))) (kZ _ 2 (.int .i64 2)) (fun i hi x => hvd (x ▸ hi))) (kZ _ 3 (.slice va vn vc)) (fun i hi x => hvd (x ▸ hi))) (kZ _ 4 (.string ⟨#[]⟩)) (fun i hi x => hvd (x ▸ hi))) (kZ _ 5 (.string tx)) (fun i hi x => hvd (x ▸ hi))) (kZ _ 6 (.int .u32 (sum : Nat))) (fun i hi x => hvd (x ▸ hi))
  have kAll := ((((((kZ w10 0 (.int .i64 (A : Int))).trans (kZ _ 1 (.int .i64 (B : Int))) fun _ _ x => x).trans (kZ _ 2 (.int .i64 2)) fun _ _ x => x).trans (kZ _ 3 (.slice va vn vc)) fun _ _ x => x).trans (kZ _ 4 (.string ⟨#[]⟩)) fun _ _ x => x).trans (kZ _ 5 (.string tx)) fun _ _ x => x).trans (kZ _ 6 (.int .u32 (sum : Nat))) fun _ _ x => x
  have hI11 := in_keep hI10 kAll (fun x => hbd x)
  have hKF : Keep (fun k => k = b) w _ := ((hK2b.trans hK9 fun i hi x => x.elim id (fun x => by have := hz1.out; omega)).trans hK10 fun i hi x => x.elim id (fun x => by have := hz1.out; omega)).trans kAll fun i hi x => by omega
  have hFF : From w.heap.size (.slice va vn vc) := fun k hk => by have := hF10 k hk; have := hK2b.size; omega
  have e0 := hE.box.r.c0
  have e1 := hE.box.r.c1
  have e2 := hE.box.r.c2
  have e3 := hE.box.r.c3
  have e4 := hE.box.r.c4
  have e5 := hE.box.r.c5
  have e6 := hE.box.c6
  clear hRd hI9 hH9 hZ9 hK9 hI10 hH10 hO10 hK10 hF10 hcf hZ10 hE kZ hK2b hvd kAll
  go_wp2
  refine bodyPost_ret (v := .agg #[.int .i64 (A : Int), .int .i64 (B : Int), .int .i64 2, .slice va vn vc, .string ⟨#[]⟩, .string tx, .int .u32 (sum : Nat)]) (by simp [results, Tryd.results65, go_sem, e0, e1, e2, e3, e4, e5, e6]) rfl ⟨_, rfl, hO11, hFF, ⟨_, hI11⟩, hKF⟩

set_option maxHeartbeats 4000000 in
set_option maxRecDepth 20000 in
theorem readBody3 {b : Nat} {s : ByteArray} {w : World} (hI : InAt w b s 0 0) (hs : s.size ≤ 1000000) (hk : (rd3 (bs s)).1.2.2 = 3) :
    Calls Tryd.prog 65 #[.pointer (some ⟨b, 0, none⟩)] w fun x w' => ∃ v', x = .returned (.agg #[.int .i64 (rdB (bs s)).1.ep, .int .i64 (rdB (bs s)).1.nu, .int .i64 (rdB (bs s)).1.ki, v', .string ⟨#[]⟩, .string (rdB (bs s)).1.tx, .int .u32 ((rdB (bs s)).2.1 : Nat)]) ∧ Own w' v' (rdB (bs s)).1.sp ∧ From w.heap.size v' ∧ (∃ p', InAt w' b s p' (rdB (bs s)).2.2) ∧ Keep (fun k => k = b) w w' := by
  have hlen := bs_length s
  have l1 := intP_le (l := bs s) (p := 0) (e := 0) (m := 4294967295) (by omega) (by omega)
  have hbl := hI.lt
  have hZ0 := hdNew w
  have hA1 := below_alloc w (.cells #[.int .i64 0, .int .i64 0, .int .i64 0, .slice none 0 0, .string { data := #[] }, .string { data := #[] }, .int .u32 0] 61)
  have hz1 : Hid ((w.alloc (.cells #[.int .i64 0, .int .i64 0, .int .i64 0, .slice none 0 0, .string { data := #[] }, .string { data := #[] }, .int .u32 0] 61)).heap.size = w.heap.size + 1) := by simp [Hid]
  generalize hW1 : w.alloc (.cells #[.int .i64 0, .int .i64 0, .int .i64 0, .slice none 0 0, .string { data := #[] }, .string { data := #[] }, .int .u32 0] 61) = W1 at *
  have hC0 := hdNew W1
  have hA2 := below_alloc W1 (.cells #[.int .i64 0, .int .i64 0, .int .i64 0, .slice none 0 0, .string { data := #[] }, .string { data := #[] }, .int .u32 0] 61)
  have hz2 : Hid ((W1.alloc (.cells #[.int .i64 0, .int .i64 0, .int .i64 0, .slice none 0 0, .string { data := #[] }, .string { data := #[] }, .int .u32 0] 61)).heap.size = W1.heap.size + 1) := by simp [Hid]
  have hz1' := hz1.out
  have hbc : b ≠ W1.heap.size := by omega
  have hbd : b ≠ w.heap.size := by omega
  have hcd : ¬ w.heap.size = W1.heap.size := by omega
  have hI2 := (hI.later hA1).later hA2
  have hZ2 := hZ0.later hA2
  have hK2 : Keep (fun k => k = b) w (W1.alloc (.cells #[.int .i64 0, .int .i64 0, .int .i64 0, .slice none 0 0, .string { data := #[] }, .string { data := #[] }, .int .u32 0] 61)) := Keep.of_below (hA1.trans (hA2.mono hA1.size))
  generalize hW2 : W1.alloc (.cells #[.int .i64 0, .int .i64 0, .int .i64 0, .slice none 0 0, .string { data := #[] }, .string { data := #[] }, .int .u32 0] 61) = W2 at *
  clear hA1 hA2 hZ0 hI hz1' 
  unfold rd3 at hk
  unfold rdB rd3
  have hr1 := rint_both 4294967295 hI2 (by omega) (by omega) (by omega)
  generalize intP (bs s) 0 0 4294967295 = q1 at *
  obtain ⟨A, P1, E1⟩ := q1
  simp only at hr1 l1 hk ⊢
  have l2 := intP_le (l := bs s) (p := P1) (e := E1) (m := 1099511627775) l1 (by omega)
  generalize hq2 : intP (bs s) P1 E1 1099511627775 = q2 at *
  obtain ⟨B, P2, E2⟩ := q2
  simp only at l2 hk ⊢
  have l3 := intP_le (l := bs s) (p := P2) (e := E2) (m := 3) l2 (by omega)
  generalize hq3 : intP (bs s) P2 E2 3 = q3 at *
  obtain ⟨C, P3, E3⟩ := q3
  simp only at l3 hk ⊢
  subst hk
  generalize hq4 : rdX (bs s) 3 P3 E3 = q4 at *
  obtain ⟨L, tx, sum, P4, E4⟩ := q4
  simp only
  replace hq2 := hide hq2
  replace hq3 := hide hq3
  replace hq4 := hide hq4
  have hC1 : HdAt W2 W1.heap.size 0 0 0 (.slice none 0 0) ⟨#[]⟩ ⟨#[]⟩ 0 := hC0
  have hK2b := hK2
  clear hC0 hK2
  go_enter Tryd.func65, Tryd.ntmps65
  go_wp2_with fail
  refine hr1.mono ?_
  rintro x w3 ⟨rfl, hd⟩
  have hI3 := hd.inn
  have hH3 := hC1.keep hd.keep (fun x => hbc x.symm)
  have hZ3 := hZ2.keep hd.keep (fun x => hbd x.symm)
  have hs3 := hd.keep.size
  have hK3 : Keep (bc b W1.heap.size) W2 w3 := (Keep.refl (bc b W1.heap.size) W2).trans hd.keep fun i _ x => .inl x
  have c0 := hH3.box.r.c0
  have f0 := hH3.fr 0
  have kS := Keep.setCell (X := fun k => k = W1.heap.size) w3 ⟨W1.heap.size, 0, none⟩ (.int .i64 (A : Int)) rfl
  have hI4 := in_keep hI3 kS (fun x => hbc x)
  have hH4 := hH3.set0 (A : Int)
  have hZ4 := hZ3.keep kS hcd
  have hK4 : Keep (bc b W1.heap.size) W2 _ := hK3.trans kS fun i _ x => .inr x
  have hr2 := rint_both 1099511627775 hI4 (by omega) (by omega) (by omega)
  rw [hq2.out] at hr2
  simp only at hr2
  clear hr1 hd hI3 hH3 hZ3 hK3 kS hI4 hC1 hI2 hZ2 hW1 hW2
  go_wp2_with fail
  refine hr2.mono ?_
  rintro x w5 ⟨rfl, hd⟩
  have hI5 := hd.inn
  have hH5 := hH4.keep hd.keep (fun x => hbc x.symm)
  have hZ5 := hZ4.keep hd.keep (fun x => hbd x.symm)
  have hs5 := hd.keep.size
  have hK5 : Keep (bc b W1.heap.size) W2 w5 := hK4.trans hd.keep fun i _ x => .inl x
  have c1 := hH5.box.r.c1
  have f1 := hH5.fr 1
  have kS := Keep.setCell (X := fun k => k = W1.heap.size) w5 ⟨W1.heap.size, 1, none⟩ (.int .i64 (B : Int)) rfl
  have hI6 := in_keep hI5 kS (fun x => hbc x)
  have hH6 := hH5.set1 (B : Int)
  have hZ6 := hZ5.keep kS hcd
  have hK6 : Keep (bc b W1.heap.size) W2 _ := hK5.trans kS fun i _ x => .inr x
  have hr3 := rint_both 3 hI6 (by omega) (by omega) (by omega)
  rw [hq3.out] at hr3
  simp only at hr3
  clear hr2 hd hI5 hH5 hZ5 hK5 kS hI6 hH4 hZ4 hK4 c0 f0
  go_wp2_with fail
  refine hr3.mono ?_
  rintro x w7 ⟨rfl, hd⟩
  have hI7 := hd.inn
  have hH7 := hH6.keep hd.keep (fun x => hbc x.symm)
  have hZ7 := hZ6.keep hd.keep (fun x => hbd x.symm)
  have hK7 : Keep (bc b W1.heap.size) W2 w7 := hK6.trans hd.keep fun i _ x => .inl x
  have c2 := hH7.box.r.c2
  have f2 := hH7.fr 2
  have kS := Keep.setCell (X := fun k => k = W1.heap.size) w7 ⟨W1.heap.size, 2, none⟩ (.int .i64 (3 : Int)) rfl
  have hI8 := in_keep hI7 kS (fun x => hbc x)
  have hH8 := hH7.set2 (3 : Int)
  have hZ8 := hZ7.keep kS hcd
  have hK8 : Keep (bc b W1.heap.size) W2 _ := hK7.trans kS fun i _ x => .inr x
  have c2' := hH8.box.r.c2
  clear hr3 hd hI7 hH7 hZ7 hK7 kS hH6 hZ6 hK6 c1 f1
  have hN := needs3
  have hfi := fun w => fld3 (.func (.func 56) #[] #[]) (.func (.func 53) #[] #[]) (.func (.func 57) #[] #[]) (.func (.func 58) #[] #[]) w
  go_wp2_with fail
  refine (hN _).mono ?_
  rintro x w9 ⟨rfl, b9⟩
  have hI9 := hI8.later b9
  have hH9 := hH8.later b9
  have hZ9 := hZ8.later b9
  have hs9 := b9.size
  have hK9 : Keep (bc b W1.heap.size) W2 w9 := hK8.trans (Keep.of_below (X := bc b W1.heap.size) b9) fun _ _ x => x
  have hRd := readText_any hI9 hs (by omega) hH9 hbc
  have hsW : W2.heap.size ≤ w9.heap.size := hK9.size
  clear hN hI8 hH8 hZ8 hK8 b9 c2 f2 c2'
  unfold Rest at hRd
  rw [hq4.out] at hRd
  simp only at hRd
  go_wp2_with fail
  refine hRd.mono ?_
  rintro x w10 ⟨rfl, v', hI10, hH10, hO10, hK10, hF10⟩
  have hZ10 := hZ9.keep hK10 (fun x => x.elim (fun x => hbd x.symm) hcd)
  obtain ⟨va, vn, vc, rfl⟩ := own_form hO10
  have hcf := hH10.box
  have a0 := hcf.r.c0
  have a1 := hcf.r.c1
  have a2 := hcf.r.c2
  have a3 := hcf.r.c3
  have a4 := hcf.r.c4
  have a5 := hcf.r.c5
  have a6 := hcf.c6
  have z0 := hZ10.box.r.c0
  have z1 := hZ10.box.r.c1
  have z2 := hZ10.box.r.c2
  have z3 := hZ10.box.r.c3
  have z4 := hZ10.box.r.c4
  have z5 := hZ10.box.r.c5
  have z6 := hZ10.box.c6
  have y0 := hZ10.fr 0
  have y1 := hZ10.fr 1
  have y2 := hZ10.fr 2
  have y3 := hZ10.fr 3
  have y4 := hZ10.fr 4
  have y5 := hZ10.fr 5
  have y6 := hZ10.fr 6
  have hE := ((((((hZ10.set0 (A : Int)).set1 (B : Int)).set2 3).set3 (.slice va vn vc)).set4 ⟨#[]⟩).set5 tx).set6 sum
  have hvd : (Value.slice va vn vc).ownBlock ≠ some w.heap.size := fun h => by have := hF10 _ h; have := hz2.out; have := hz1.out; omega
  have kZ : ∀ (W : World) (i : Nat) (u : Value), Keep (fun k => k = w.heap.size) W (W.setCell ⟨w.heap.size, i, none⟩ u) := fun W i u => Keep.setCell W _ u rfl
  have hO11 := own_keep (own_keep (own_keep (own_keep (own_keep (own_keep (own_keep hO10 (kZ _ 0 (.int .i64 (A : Int))) (fun i hi x => hvd (x ▸ hi))) (kZ _ 1 (.int .i64 (B : Int))) (fun i hi x => hvd (x ▸ hi))) (kZ _ 2 (.int .i64 3)) (fun i hi x => hvd (x ▸ hi))) (kZ _ 3 (.slice va vn vc)) (fun i hi x => hvd (x ▸ hi))) (kZ _ 4 (.string ⟨#[]⟩)) (fun i hi x => hvd (x ▸ hi))) (kZ _ 5 (.string tx)) (fun i hi x => hvd (x ▸ hi))) (kZ _ 6 (.int .u32 (sum : Nat))) (fun i hi x => hvd (x ▸ hi))
  have kAll := ((((((kZ w10 0 (.int .i64 (A : Int))).trans (kZ _ 1 (.int .i64 (B : Int))) fun _ _ x => x).trans (kZ _ 2 (.int .i64 3)) fun _ _ x => x).trans (kZ _ 3 (.slice va vn vc)) fun _ _ x => x).trans (kZ _ 4 (.string ⟨#[]⟩)) fun _ _ x => x).trans (kZ _ 5 (.string tx)) fun _ _ x => x).trans (kZ _ 6 (.int .u32 (sum : Nat))) fun _ _ x => x
  have hI11 := in_keep hI10 kAll (fun x => hbd x)
  have hKF : Keep (fun k => k = b) w _ := ((hK2b.trans hK9 fun i hi x => x.elim id (fun x => by have := hz1.out; omega)).trans hK10 fun i hi x => x.elim id (fun x => by have := hz1.out; omega)).trans kAll fun i hi x => by omega
  have hFF : From w.heap.size (.slice va vn vc) := fun k hk => by have := hF10 k hk; have := hK2b.size; omega
  have e0 := hE.box.r.c0
  have e1 := hE.box.r.c1
  have e2 := hE.box.r.c2
  have e3 := hE.box.r.c3
  have e4 := hE.box.r.c4
  have e5 := hE.box.r.c5
  have e6 := hE.box.c6
  clear hRd hI9 hH9 hZ9 hK9 hI10 hH10 hO10 hK10 hF10 hcf hZ10 hE kZ hK2b hvd kAll
  go_wp2
  refine bodyPost_ret (v := .agg #[.int .i64 (A : Int), .int .i64 (B : Int), .int .i64 3, .slice va vn vc, .string ⟨#[]⟩, .string tx, .int .u32 (sum : Nat)]) (by simp [results, Tryd.results65, go_sem, e0, e1, e2, e3, e4, e5, e6]) rfl ⟨_, rfl, hO11, hFF, ⟨_, hI11⟩, hKF⟩

set_option maxHeartbeats 4000000 in
set_option maxRecDepth 20000 in
theorem readBody0 {b : Nat} {s : ByteArray} {w : World} (hI : InAt w b s 0 0) (hs : s.size ≤ 1000000) (hk : (rd3 (bs s)).1.2.2 = 0) :
    Calls Tryd.prog 65 #[.pointer (some ⟨b, 0, none⟩)] w fun x w' => ∃ v', x = .returned (.agg #[.int .i64 (rdB (bs s)).1.ep, .int .i64 (rdB (bs s)).1.nu, .int .i64 (rdB (bs s)).1.ki, v', .string ⟨#[]⟩, .string (rdB (bs s)).1.tx, .int .u32 ((rdB (bs s)).2.1 : Nat)]) ∧ Own w' v' (rdB (bs s)).1.sp ∧ From w.heap.size v' ∧ (∃ p', InAt w' b s p' (rdB (bs s)).2.2) ∧ Keep (fun k => k = b) w w' := by
  have hlen := bs_length s
  have l1 := intP_le (l := bs s) (p := 0) (e := 0) (m := 4294967295) (by omega) (by omega)
  have hbl := hI.lt
  have hZ0 := hdNew w
  have hA1 := below_alloc w (.cells #[.int .i64 0, .int .i64 0, .int .i64 0, .slice none 0 0, .string { data := #[] }, .string { data := #[] }, .int .u32 0] 61)
  have hz1 : Hid ((w.alloc (.cells #[.int .i64 0, .int .i64 0, .int .i64 0, .slice none 0 0, .string { data := #[] }, .string { data := #[] }, .int .u32 0] 61)).heap.size = w.heap.size + 1) := by simp [Hid]
  generalize hW1 : w.alloc (.cells #[.int .i64 0, .int .i64 0, .int .i64 0, .slice none 0 0, .string { data := #[] }, .string { data := #[] }, .int .u32 0] 61) = W1 at *
  have hC0 := hdNew W1
  have hA2 := below_alloc W1 (.cells #[.int .i64 0, .int .i64 0, .int .i64 0, .slice none 0 0, .string { data := #[] }, .string { data := #[] }, .int .u32 0] 61)
  have hz2 : Hid ((W1.alloc (.cells #[.int .i64 0, .int .i64 0, .int .i64 0, .slice none 0 0, .string { data := #[] }, .string { data := #[] }, .int .u32 0] 61)).heap.size = W1.heap.size + 1) := by simp [Hid]
  have hz1' := hz1.out
  have hbc : b ≠ W1.heap.size := by omega
  have hbd : b ≠ w.heap.size := by omega
  have hcd : ¬ w.heap.size = W1.heap.size := by omega
  have hI2 := (hI.later hA1).later hA2
  have hZ2 := hZ0.later hA2
  have hK2 : Keep (fun k => k = b) w (W1.alloc (.cells #[.int .i64 0, .int .i64 0, .int .i64 0, .slice none 0 0, .string { data := #[] }, .string { data := #[] }, .int .u32 0] 61)) := Keep.of_below (hA1.trans (hA2.mono hA1.size))
  generalize hW2 : W1.alloc (.cells #[.int .i64 0, .int .i64 0, .int .i64 0, .slice none 0 0, .string { data := #[] }, .string { data := #[] }, .int .u32 0] 61) = W2 at *
  clear hA1 hA2 hZ0 hI hz1' 
  unfold rd3 at hk
  unfold rdB rd3
  have hr1 := rint_both 4294967295 hI2 (by omega) (by omega) (by omega)
  generalize intP (bs s) 0 0 4294967295 = q1 at *
  obtain ⟨A, P1, E1⟩ := q1
  simp only at hr1 l1 hk ⊢
  have l2 := intP_le (l := bs s) (p := P1) (e := E1) (m := 1099511627775) l1 (by omega)
  generalize hq2 : intP (bs s) P1 E1 1099511627775 = q2 at *
  obtain ⟨B, P2, E2⟩ := q2
  simp only at l2 hk ⊢
  have l3 := intP_le (l := bs s) (p := P2) (e := E2) (m := 3) l2 (by omega)
  generalize hq3 : intP (bs s) P2 E2 3 = q3 at *
  obtain ⟨C, P3, E3⟩ := q3
  simp only at l3 hk ⊢
  subst hk
  generalize hq4 : rdX (bs s) 0 P3 E3 = q4 at *
  obtain ⟨L, tx, sum, P4, E4⟩ := q4
  simp only
  replace hq2 := hide hq2
  replace hq3 := hide hq3
  replace hq4 := hide hq4
  have hC1 : HdAt W2 W1.heap.size 0 0 0 (.slice none 0 0) ⟨#[]⟩ ⟨#[]⟩ 0 := hC0
  have hK2b := hK2
  clear hC0 hK2
  go_enter Tryd.func65, Tryd.ntmps65
  go_wp2_with fail
  refine hr1.mono ?_
  rintro x w3 ⟨rfl, hd⟩
  have hI3 := hd.inn
  have hH3 := hC1.keep hd.keep (fun x => hbc x.symm)
  have hZ3 := hZ2.keep hd.keep (fun x => hbd x.symm)
  have hs3 := hd.keep.size
  have hK3 : Keep (bc b W1.heap.size) W2 w3 := (Keep.refl (bc b W1.heap.size) W2).trans hd.keep fun i _ x => .inl x
  have c0 := hH3.box.r.c0
  have f0 := hH3.fr 0
  have kS := Keep.setCell (X := fun k => k = W1.heap.size) w3 ⟨W1.heap.size, 0, none⟩ (.int .i64 (A : Int)) rfl
  have hI4 := in_keep hI3 kS (fun x => hbc x)
  have hH4 := hH3.set0 (A : Int)
  have hZ4 := hZ3.keep kS hcd
  have hK4 : Keep (bc b W1.heap.size) W2 _ := hK3.trans kS fun i _ x => .inr x
  have hr2 := rint_both 1099511627775 hI4 (by omega) (by omega) (by omega)
  rw [hq2.out] at hr2
  simp only at hr2
  clear hr1 hd hI3 hH3 hZ3 hK3 kS hI4 hC1 hI2 hZ2 hW1 hW2
  go_wp2_with fail
  refine hr2.mono ?_
  rintro x w5 ⟨rfl, hd⟩
  have hI5 := hd.inn
  have hH5 := hH4.keep hd.keep (fun x => hbc x.symm)
  have hZ5 := hZ4.keep hd.keep (fun x => hbd x.symm)
  have hs5 := hd.keep.size
  have hK5 : Keep (bc b W1.heap.size) W2 w5 := hK4.trans hd.keep fun i _ x => .inl x
  have c1 := hH5.box.r.c1
  have f1 := hH5.fr 1
  have kS := Keep.setCell (X := fun k => k = W1.heap.size) w5 ⟨W1.heap.size, 1, none⟩ (.int .i64 (B : Int)) rfl
  have hI6 := in_keep hI5 kS (fun x => hbc x)
  have hH6 := hH5.set1 (B : Int)
  have hZ6 := hZ5.keep kS hcd
  have hK6 : Keep (bc b W1.heap.size) W2 _ := hK5.trans kS fun i _ x => .inr x
  have hr3 := rint_both 3 hI6 (by omega) (by omega) (by omega)
  rw [hq3.out] at hr3
  simp only at hr3
  clear hr2 hd hI5 hH5 hZ5 hK5 kS hI6 hH4 hZ4 hK4 c0 f0
  go_wp2_with fail
  refine hr3.mono ?_
  rintro x w7 ⟨rfl, hd⟩
  have hI7 := hd.inn
  have hH7 := hH6.keep hd.keep (fun x => hbc x.symm)
  have hZ7 := hZ6.keep hd.keep (fun x => hbd x.symm)
  have hK7 : Keep (bc b W1.heap.size) W2 w7 := hK6.trans hd.keep fun i _ x => .inl x
  have c2 := hH7.box.r.c2
  have f2 := hH7.fr 2
  have kS := Keep.setCell (X := fun k => k = W1.heap.size) w7 ⟨W1.heap.size, 2, none⟩ (.int .i64 (0 : Int)) rfl
  have hI8 := in_keep hI7 kS (fun x => hbc x)
  have hH8 := hH7.set2 (0 : Int)
  have hZ8 := hZ7.keep kS hcd
  have hK8 : Keep (bc b W1.heap.size) W2 _ := hK7.trans kS fun i _ x => .inr x
  have c2' := hH8.box.r.c2
  clear hr3 hd hI7 hH7 hZ7 hK7 kS hH6 hZ6 hK6 c1 f1
  have hN := (fun w => needsX (k := 0) (by omega) (by omega) (by omega) w)
  have hfi := fun w => fld3 (.func (.func 59) #[] #[]) .nilFunc .nilFunc (.func (.func 60) #[] #[]) w
  go_wp2_with fail
  refine (hN _).mono ?_
  rintro x w9 ⟨rfl, b9⟩
  have hI9 := hI8.later b9
  have hH9 := hH8.later b9
  have hZ9 := hZ8.later b9
  have hs9 := b9.size
  have hK9 : Keep (bc b W1.heap.size) W2 w9 := hK8.trans (Keep.of_below (X := bc b W1.heap.size) b9) fun _ _ x => x
  have hRd := readNothing_any hI9 hH9
  have hsW : W2.heap.size ≤ w9.heap.size := hK9.size
  clear hN hI8 hH8 hZ8 hK8 b9 c2 f2 c2'
  unfold Rest at hRd
  rw [hq4.out] at hRd
  simp only at hRd
  go_wp2_with fail
  refine hRd.mono ?_
  rintro x w10 ⟨rfl, v', hI10, hH10, hO10, hK10, hF10⟩
  have hZ10 := hZ9.keep hK10 (fun x => x.elim (fun x => hbd x.symm) hcd)
  obtain ⟨va, vn, vc, rfl⟩ := own_form hO10
  have hcf := hH10.box
  have a0 := hcf.r.c0
  have a1 := hcf.r.c1
  have a2 := hcf.r.c2
  have a3 := hcf.r.c3
  have a4 := hcf.r.c4
  have a5 := hcf.r.c5
  have a6 := hcf.c6
  have z0 := hZ10.box.r.c0
  have z1 := hZ10.box.r.c1
  have z2 := hZ10.box.r.c2
  have z3 := hZ10.box.r.c3
  have z4 := hZ10.box.r.c4
  have z5 := hZ10.box.r.c5
  have z6 := hZ10.box.c6
  have y0 := hZ10.fr 0
  have y1 := hZ10.fr 1
  have y2 := hZ10.fr 2
  have y3 := hZ10.fr 3
  have y4 := hZ10.fr 4
  have y5 := hZ10.fr 5
  have y6 := hZ10.fr 6
  have hE := ((((((hZ10.set0 (A : Int)).set1 (B : Int)).set2 0).set3 (.slice va vn vc)).set4 ⟨#[]⟩).set5 tx).set6 sum
  have hvd : (Value.slice va vn vc).ownBlock ≠ some w.heap.size := fun h => by have := hF10 _ h; have := hz2.out; have := hz1.out; omega
  have kZ : ∀ (W : World) (i : Nat) (u : Value), Keep (fun k => k = w.heap.size) W (W.setCell ⟨w.heap.size, i, none⟩ u) := fun W i u => Keep.setCell W _ u rfl
  have hO11 := own_keep (own_keep (own_keep (own_keep (own_keep (own_keep (own_keep hO10 (kZ _ 0 (.int .i64 (A : Int))) (fun i hi x => hvd (x ▸ hi))) (kZ _ 1 (.int .i64 (B : Int))) (fun i hi x => hvd (x ▸ hi))) (kZ _ 2 (.int .i64 0)) (fun i hi x => hvd (x ▸ hi))) (kZ _ 3 (.slice va vn vc)) (fun i hi x => hvd (x ▸ hi))) (kZ _ 4 (.string ⟨#[]⟩)) (fun i hi x => hvd (x ▸ hi))) (kZ _ 5 (.string tx)) (fun i hi x => hvd (x ▸ hi))) (kZ _ 6 (.int .u32 (sum : Nat))) (fun i hi x => hvd (x ▸ hi))
  have kAll := ((((((kZ w10 0 (.int .i64 (A : Int))).trans (kZ _ 1 (.int .i64 (B : Int))) fun _ _ x => x).trans (kZ _ 2 (.int .i64 0)) fun _ _ x => x).trans (kZ _ 3 (.slice va vn vc)) fun _ _ x => x).trans (kZ _ 4 (.string ⟨#[]⟩)) fun _ _ x => x).trans (kZ _ 5 (.string tx)) fun _ _ x => x).trans (kZ _ 6 (.int .u32 (sum : Nat))) fun _ _ x => x
  have hI11 := in_keep hI10 kAll (fun x => hbd x)
  have hKF : Keep (fun k => k = b) w _ := ((hK2b.trans hK9 fun i hi x => x.elim id (fun x => by have := hz1.out; omega)).trans hK10 fun i hi x => x.elim id (fun x => by have := hz1.out; omega)).trans kAll fun i hi x => by omega
  have hFF : From w.heap.size (.slice va vn vc) := fun k hk => by have := hF10 k hk; have := hK2b.size; omega
  have e0 := hE.box.r.c0
  have e1 := hE.box.r.c1
  have e2 := hE.box.r.c2
  have e3 := hE.box.r.c3
  have e4 := hE.box.r.c4
  have e5 := hE.box.r.c5
  have e6 := hE.box.c6
  clear hRd hI9 hH9 hZ9 hK9 hI10 hH10 hO10 hK10 hF10 hcf hZ10 hE kZ hK2b hvd kAll
  go_wp2
  refine bodyPost_ret (v := .agg #[.int .i64 (A : Int), .int .i64 (B : Int), .int .i64 0, .slice va vn vc, .string ⟨#[]⟩, .string tx, .int .u32 (sum : Nat)]) (by simp [results, Tryd.results65, go_sem, e0, e1, e2, e3, e4, e5, e6]) rfl ⟨_, rfl, hO11, hFF, ⟨_, hI11⟩, hKF⟩
end Re
end Go.Proofs.YtnpbgjafahhadaaDoor
