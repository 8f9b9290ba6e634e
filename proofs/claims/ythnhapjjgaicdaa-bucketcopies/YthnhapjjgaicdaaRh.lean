/- The document's bucket: calls, one of eight kinds. -/
import Derived.Test.YthnhapjjgaicdaaRg
import Derived.Test.YthnhapjjgaicdaaWz
namespace Go.Proofs.Ythnhapjjgaicdaa
open Go.RowKit
namespace Wi

/-- What a call leaves: a thing, and a list in memory that is nobody's else. -/
def DoesT (A : Th) (L : List ByteArray) (w : World) (X : Nat → Prop) (w' : World) (v : Value) : Prop := ∃ X', A w' X' ∧ Keep X w w' ∧ (∀ k, X' k → X k ∨ w.heap.size ≤ k) ∧ Rw w' 9 1 v L.length (encN L) ∧ ∀ k, v.ownBlock = some k → w.heap.size ≤ k ∧ ¬ X' k
theorem DoesT.left {A : Th} {L : List ByteArray} {w : World} {X : Nat → Prop} {w' : World} {v : Value} (h : DoesT A L w X w' v) : LeftT A w X w' := let ⟨X', h1, h2, h3, _⟩ := h; ⟨X', h1, h2, h3⟩
theorem DoesP.t {b : Nat} {d : Bk} {L : List ByteArray} {w : World} {X : Nat → Prop} {w' : World} {v : Value} (h : DoesP b d L w X w' v) : DoesT (bkT b d) L w X w' v := h
theorem Room.doneT {w w0 w1 w2 w3 : World} {o : OpV} {X : Nat → Prop} {A : Th} (hA : A.Good) {L : List ByteArray} {v : Value} (h : Room w o w0) (hX : ∀ k, X k → k < w.heap.size) (hl : LeftT A w0 X w1) (hn : NewSs w1 L w2 v) (hk : Keep (fun k => k = w.heap.size + 1) w2 w3) : DoesT A L w X w3 v := by
  obtain ⟨X', h1, h2, h3⟩ := hl
  have hx1 : ∀ k, X' k → X k ∨ w.heap.size + 2 ≤ k := fun k hk => (h3 k hk).imp id fun e => by rw [h.size] at e; exact e
  have hs := h2.size
  rw [h.size] at hs
  have hnr : ∀ k, X' k → ¬ k = w.heap.size + 1 := fun k hk e => by
    rcases hx1 k hk with h' | h'
    · have := hX k h'; omega
    · omega
  refine ⟨X', hA.keep (hA.later h1 hn.below) hk hnr, ?_, fun k hk => (hx1 k hk).imp id fun e => by omega, hn.row.keep hk fun i hi e => ?_, fun k hk' => ⟨?_, fun e => ?_⟩⟩
  · have k1 := (Keep.of_below (X := X) h.below).trans h2 fun _ _ e => e
    have k2 := k1.trans (Keep.of_below (X := X) hn.below) fun _ _ e => e
    exact k2.trans hk fun i hi e => by omega
  · have := hn.new i hi
    omega
  · have := hn.new k hk'
    omega
  · have h5 := hn.new k hk'
    have h6 := hA.lt h1 k e
    omega
theorem run_append_is {w : World} {X : Nat → Prop} (ty : TypeId) (v : Value) (n : Nat) (xs : List Value) (hown : Rw w 3 1 v n xs) (a : Option Addr) (m c : Nat) (l : List Int) (hI : Is w X a m l) (h63 : n + m ≤ maxLen) (hbytes : (n + m) * 8 ≤ 140737488355328) :
    ∃ v' w', (Builtin.append_ #[31, 31] ty #[v, .slice a m c]).run Try.prog w = .ok v' w' ∧ Rw w' 3 1 v' (n + m) (xs ++ encI l) ∧ w.grownBy w' v.ownBlock ∧ Moved w v v' := by
  obtain ⟨i0, hi, hz0, hz1, hz2⟩ := info_parts info3
  have hlen := hI.len
  cases a with
  | none =>
    have hl : l = [] := by
      cases l with
      | nil => rfl
      | cons x r =>
        obtain ⟨g, off, e, _⟩ := hI.cells 0 x rfl
        cases e
    subst hl
    obtain rfl : m = 0 := hlen
    refine ⟨v, w, ?_, by simpa [encI] using hown, ⟨rfl, rfl, rfl, Nat.le_refl _, fun _ _ _ => rfl⟩, Moved.refl _ _⟩
    rcases hown.2 with ⟨rfl, rfl⟩ | ⟨g, off, cap, cur, rfl, _, hnc, _⟩
    · simp [Builtin.append_, run_underlying Try.underlying31, sizeOf, typeInfo, hi, Builtin.lenOf, Builtin.firstCells]
    · simp [Builtin.append_, run_underlying Try.underlying31, sizeOf, typeInfo, hi, Builtin.lenOf, Builtin.firstCells, hnc, storeCells]
  | some ad =>
    refine run_append_rw 31 ty 3 i0 _ 1 8 Try.underlying31 hi hz0 hz1 hz2 rfl (by decide) v n xs hown ad m c (encI l) (by rw [encI_length]; omega) (fun j u hj => ?_) (encI_one l) h63 hbytes
    obtain ⟨x, hx, rfl⟩ : ∃ x, l[j]? = some x ∧ u = .int .i64 x := by
      simp only [encI, List.getElem?_map, Option.map_eq_some_iff] at hj
      obtain ⟨x, h1, h2⟩ := hj
      exact ⟨x, h1, h2.symm⟩
    obtain ⟨g, off, e, _, _, c0⟩ := hI.cells j x hx
    injection e with e
    subst e
    rw [Addr.add_mid]
    exact c0
theorem step_append_is {X : Nat → Prop} {ops : Array Oper} {o : Oper} {a : Act} {w : World} {K : Act → World → Prop} {Q : Exit → Act → World → Prop} {E : Prop}
    (hg : o.guard = none) (s x : Operand) (hop : o.op = Op.call { callee := Callee.builtin Builtin.append, args := #[s, x], argTypes := #[31, 31] })
    (v : Value) (n : Nat) (xs : List Value) (hs : a.eval s = v) (hown : Rw w 3 1 v n xs)
    (ad : Option Addr) (m c : Nat) (l : List Int) (hx : a.eval x = .slice ad m c) (hI : Is w X ad m l)
    (h63 : n + m ≤ maxLen) (hbytes : (n + m) * 8 ≤ 140737488355328)
    (hK : ∀ v' w', Rw w' 3 1 v' (n + m) (xs ++ encI l) → w.grownBy w' v.ownBlock → Moved w v v' → K (a.put o.dst v') w') :
    if Region.wanted o (yielded ops a.tmps) = true then Oper.wp Try.prog o a w K Q else E := by
  have hw : Region.wanted o (yielded ops a.tmps) = true := by simp [Region.wanted, hg]
  rw [if_pos hw]
  obtain ⟨v', w', hrun, r1, r2, r3⟩ := run_append_is (X := X) (w := w) o.type v n xs hown ad m c l hI h63 hbytes
  unfold Oper.wp
  simp [execOp, hop, resolve, invoke, builtin, hs, hx, hrun, Result.andThen]
  exact hK v' w' r1 r2 r3
theorem grow_cell {w w2 : World} {b i : Nat} {v u : Value} (h : w.cell? ⟨b, i, none⟩ = some u) (hb : b < w.heap.size) (hne : v.ownBlock ≠ some b) (hg : w.drew.grownBy w2 v.ownBlock) : w2.cell? ⟨b, i, none⟩ = some u := by
  rw [← h, World.cell?_of_block (w := w.drew) (hg.block b hb fun e => hne e.symm)]
  rfl
theorem grow_free {w w2 : World} {b i : Nat} {v : Value} (h : w.frozen? ⟨b, i, none⟩ = false) (hb : b < w.heap.size) (hne : v.ownBlock ≠ some b) (hg : w.drew.grownBy w2 v.ownBlock) : w2.frozen? ⟨b, i, none⟩ = false := by
  rw [← h, World.frozen?_of_block (w := w.drew) (hg.block b hb fun e => hne e.symm)]
  rfl
set_option maxHeartbeats 8000000 in
theorem asked_any {w : World} {b : Nat} {X : Nat → Prop} {d : Bk} (h : refT b d w X) (hs : d.objs.length + d.late.length ≤ 900000) (hf : d.fates.length + 20 ≤ 1000000) (hz : ∀ o ∈ d.objs, o.1.size ≤ 9223372036854775807) (hF : Fd d) (o : OpV) (ho : OpOk w X o) (hl : o.ln ≤ 20) :
    Calls Try.prog 16 #[.pointer (some ⟨b, 0, none⟩), .agg o.cells.toArray] w fun e w' => ∃ v, e = .returned (.agg #[.string (d.stepS o), .int .i64 (d.stepN o : Nat), v, .int .i64 (d.stepE o)]) ∧ DoesT (refT b (d.step o)) (d.stepL o) w X w' v := by
  have hX := (refT_good b d).lt h
  have hR := room_new w o
  have hT := (refT_good b d).later h hR.below
  have hO := ho.later hR.below
  have hI := hO.l
  obtain ⟨⟨q1, q2⟩, q3, q4, q5, q6, _⟩ := ho
  obtain ⟨ask, name, data, pl, n, la, ln, lc, l⟩ := o
  simp only at q1 q2 q3 q4 q5 q6 hl hI
  unfold OpV.cells at *
  simp only at *
  have HR := hide hR
  have HX := hide hX
  obtain ⟨w0, hw0⟩ : ∃ w0, w0 = (w.alloc (.cells #[.int .i64 ask, .string name, .string data, .int .i64 pl, .int .i64 n, .slice la ln lc] 41)).alloc (.cells gotCells 38) := ⟨_, rfl⟩
  rw [← hw0] at HR hT hO hI
  have hw0' : w0 = (w.alloc (.cells #[.int .i64 ask, .string name, .string data, .int .i64 pl, .int .i64 n, .slice la ln lc] 41)).alloc (.cells #[.string { data := #[] }, .int .i64 0, .slice none 0 0, .int .i64 0] 38) := hw0
  have HW0 := hide hw0'
  clear hR hX hO h hw0 hw0'
  by_cases h0 : ask = 0
  · subst h0
    have hc := rput_any hT (by omega) (by omega) (by omega) hF name data q3 q4
    simp only [Bk.step, Bk.stepE, Bk.stepS, Bk.stepN, Bk.stepL, if_true, show ¬ ((0 : Int) = 1) by omega, show ¬ ((0 : Int) = 2) by omega, show ¬ ((0 : Int) = 3) by omega, show ¬ ((0 : Int) = 4) by omega, show ¬ ((0 : Int) = 5) by omega, show ¬ ((0 : Int) = 6) by omega, if_false]
    generalize d.putE name data = E at *
    go_enter Try.func16, Try.ntmps16
    go_wp2_with fail
    rw [← HW0.out]
    refine hc.mono ?_
    rintro e w1 ⟨rfl, hl1⟩
    have hblk := HR.out.cells HX.out hl1
    have HD := hide fun w3 hk => HR.out.doneT (refT_good _ _) (w3 := w3) HX.out hl1 (new_none w1) hk
    clear hl1
    have r0 := cell_of_row w1 (w.heap.size + 1) 0 _ _ _ hblk
    have r1 := cell_of_row w1 (w.heap.size + 1) 1 _ _ _ hblk
    have r2 := cell_of_row w1 (w.heap.size + 1) 2 _ _ _ hblk
    have r3 := cell_of_row w1 (w.heap.size + 1) 3 _ _ _ hblk
    have fz : ∀ j, w1.frozen? ⟨w.heap.size + 1, j, none⟩ = false := fun j => frozen_of_row w1 _ _ _ _ hblk
    simp only [gotCells, List.getElem?_toArray, List.getElem?_cons_zero, List.getElem?_cons_succ] at r0 r1 r2 r3
    clear hc hblk
    go_wp2
    exact bodyPost_ret (v := .agg #[.string { data := #[] }, .int .i64 0, .slice none 0 0, .int .i64 E]) (by simp [results, Try.results16, go_sem, r0, r1, r2, r3]) rfl ⟨_, rfl, HD.out _ (keep_four _ _ _ _ _)⟩
  · skip
    by_cases h1 : ask = 1
    · subst h1
      have hc := rget_any hT (by omega) (by omega) name q3 pl n q5 q6
      simp only [Bk.step, Bk.stepE, Bk.stepS, Bk.stepN, Bk.stepL, if_true, show ¬ ((1 : Int) = 0) by omega, show ¬ ((1 : Int) = 2) by omega, show ¬ ((1 : Int) = 3) by omega, show ¬ ((1 : Int) = 4) by omega, show ¬ ((1 : Int) = 5) by omega, show ¬ ((1 : Int) = 6) by omega, if_false]
      generalize d.getE name pl n = E at *
      generalize d.getS name pl n = S at *
      go_enter Try.func16, Try.ntmps16
      go_wp2_with fail
      rw [← HW0.out]
      refine hc.mono ?_
      rintro e w1 ⟨rfl, hl1⟩
      have hblk := HR.out.cells HX.out hl1
      have HD := hide fun w3 hk => HR.out.doneT (refT_good _ _) (w3 := w3) HX.out hl1 (new_none w1) hk
      clear hl1
      have r0 := cell_of_row w1 (w.heap.size + 1) 0 _ _ _ hblk
      have r1 := cell_of_row w1 (w.heap.size + 1) 1 _ _ _ hblk
      have r2 := cell_of_row w1 (w.heap.size + 1) 2 _ _ _ hblk
      have r3 := cell_of_row w1 (w.heap.size + 1) 3 _ _ _ hblk
      have fz : ∀ j, w1.frozen? ⟨w.heap.size + 1, j, none⟩ = false := fun j => frozen_of_row w1 _ _ _ _ hblk
      simp only [gotCells, List.getElem?_toArray, List.getElem?_cons_zero, List.getElem?_cons_succ] at r0 r1 r2 r3
      clear hc hblk
      go_wp2
      exact bodyPost_ret (v := .agg #[.string S, .int .i64 0, .slice none 0 0, .int .i64 E]) (by simp [results, Try.results16, go_sem, r0, r1, r2, r3]) rfl ⟨_, rfl, HD.out _ (keep_four _ _ _ _ _)⟩
    · skip
      by_cases h2 : ask = 2
      · subst h2
        have hc := rsize_any hT (by omega) (by omega) name q3
        simp only [Bk.step, Bk.stepE, Bk.stepS, Bk.stepN, Bk.stepL, if_true, show ¬ ((2 : Int) = 0) by omega, show ¬ ((2 : Int) = 1) by omega, show ¬ ((2 : Int) = 3) by omega, show ¬ ((2 : Int) = 4) by omega, show ¬ ((2 : Int) = 5) by omega, show ¬ ((2 : Int) = 6) by omega, if_false]
        generalize d.sizeE name = E at *
        generalize d.sizeN name = N at *
        go_enter Try.func16, Try.ntmps16
        go_wp2_with fail
        rw [← HW0.out]
        refine hc.mono ?_
        rintro e w1 ⟨rfl, hl1⟩
        have hblk := HR.out.cells HX.out hl1
        have HD := hide fun w3 hk => HR.out.doneT (refT_good _ _) (w3 := w3) HX.out hl1 (new_none w1) hk
        clear hl1
        have r0 := cell_of_row w1 (w.heap.size + 1) 0 _ _ _ hblk
        have r1 := cell_of_row w1 (w.heap.size + 1) 1 _ _ _ hblk
        have r2 := cell_of_row w1 (w.heap.size + 1) 2 _ _ _ hblk
        have r3 := cell_of_row w1 (w.heap.size + 1) 3 _ _ _ hblk
        have fz : ∀ j, w1.frozen? ⟨w.heap.size + 1, j, none⟩ = false := fun j => frozen_of_row w1 _ _ _ _ hblk
        simp only [gotCells, List.getElem?_toArray, List.getElem?_cons_zero, List.getElem?_cons_succ] at r0 r1 r2 r3
        clear hc hblk
        go_wp2
        exact bodyPost_ret (v := .agg #[.string { data := #[] }, .int .i64 (N : Nat), .slice none 0 0, .int .i64 E]) (by simp [results, Try.results16, go_sem, r0, r1, r2, r3]) rfl ⟨_, rfl, HD.out _ (keep_four _ _ _ _ _)⟩
      · skip
        by_cases h3 : ask = 3
        · subst h3
          have hc := rlist_any hT (by omega) (by omega) hz name q3
          simp only [Bk.step, Bk.stepE, Bk.stepS, Bk.stepN, Bk.stepL, if_true, show ¬ ((3 : Int) = 0) by omega, show ¬ ((3 : Int) = 1) by omega, show ¬ ((3 : Int) = 2) by omega, show ¬ ((3 : Int) = 4) by omega, show ¬ ((3 : Int) = 5) by omega, show ¬ ((3 : Int) = 6) by omega, if_false]
          generalize d.listE = E at *
          go_enter Try.func16, Try.ntmps16
          go_wp2_with fail
          rw [← HW0.out]
          refine hc.mono ?_
          rintro e w1 ⟨v, w2, rfl, hl1, hnw⟩
          obtain ⟨va, vn, vc, rfl⟩ := hnw.row.own_form
          have hblk0 := HR.out.cells HX.out hl1
          have hblk := (hnw.below.block _ (lt_of_block hblk0)).trans hblk0
          have HD := hide fun w3 hk => HR.out.doneT (refT_good _ _) (w3 := w3) HX.out hl1 hnw hk
          clear hl1 hnw hblk0
          have r0 := cell_of_row w1 (w.heap.size + 1) 0 _ _ _ hblk
          have r1 := cell_of_row w1 (w.heap.size + 1) 1 _ _ _ hblk
          have r2 := cell_of_row w1 (w.heap.size + 1) 2 _ _ _ hblk
          have r3 := cell_of_row w1 (w.heap.size + 1) 3 _ _ _ hblk
          have fz : ∀ j, w1.frozen? ⟨w.heap.size + 1, j, none⟩ = false := fun j => frozen_of_row w1 _ _ _ _ hblk
          simp only [gotCells, List.getElem?_toArray, List.getElem?_cons_zero, List.getElem?_cons_succ] at r0 r1 r2 r3
          clear hc hblk
          go_wp2
          exact bodyPost_ret (v := .agg #[.string { data := #[] }, .int .i64 0, .slice va vn vc, .int .i64 E]) (by simp [results, Try.results16, go_sem, r0, r1, r2, r3]) rfl ⟨_, rfl, HD.out _ (keep_four _ _ _ _ _)⟩
        · skip
          by_cases h4 : ask = 4
          · subst h4
            have hc := rdel_any hT (by omega) (by omega) (by omega) hF name q3
            simp only [Bk.step, Bk.stepE, Bk.stepS, Bk.stepN, Bk.stepL, if_true, show ¬ ((4 : Int) = 0) by omega, show ¬ ((4 : Int) = 1) by omega, show ¬ ((4 : Int) = 2) by omega, show ¬ ((4 : Int) = 3) by omega, show ¬ ((4 : Int) = 5) by omega, show ¬ ((4 : Int) = 6) by omega, if_false]
            generalize d.delE name = E at *
            go_enter Try.func16, Try.ntmps16
            go_wp2_with fail
            rw [← HW0.out]
            refine hc.mono ?_
            rintro e w1 ⟨rfl, hl1⟩
            have hblk := HR.out.cells HX.out hl1
            have HD := hide fun w3 hk => HR.out.doneT (refT_good _ _) (w3 := w3) HX.out hl1 (new_none w1) hk
            clear hl1
            have r0 := cell_of_row w1 (w.heap.size + 1) 0 _ _ _ hblk
            have r1 := cell_of_row w1 (w.heap.size + 1) 1 _ _ _ hblk
            have r2 := cell_of_row w1 (w.heap.size + 1) 2 _ _ _ hblk
            have r3 := cell_of_row w1 (w.heap.size + 1) 3 _ _ _ hblk
            have fz : ∀ j, w1.frozen? ⟨w.heap.size + 1, j, none⟩ = false := fun j => frozen_of_row w1 _ _ _ _ hblk
            simp only [gotCells, List.getElem?_toArray, List.getElem?_cons_zero, List.getElem?_cons_succ] at r0 r1 r2 r3
            clear hc hblk
            go_wp2
            exact bodyPost_ret (v := .agg #[.string { data := #[] }, .int .i64 0, .slice none 0 0, .int .i64 E]) (by simp [results, Try.results16, go_sem, r0, r1, r2, r3]) rfl ⟨_, rfl, HD.out _ (keep_four _ _ _ _ _)⟩
          · skip
            by_cases h5 : ask = 5
            · subst h5
              simp only [Bk.step, Bk.stepE, Bk.stepS, Bk.stepN, Bk.stepL, if_true, show ¬ ((5 : Int) = 0) by omega, show ¬ ((5 : Int) = 1) by omega, show ¬ ((5 : Int) = 2) by omega, show ¬ ((5 : Int) = 3) by omega, show ¬ ((5 : Int) = 4) by omega, show ¬ ((5 : Int) = 6) by omega, if_false]
              have HBOX : Hid (∀ j u, [Value.int .i64 5, .string name, .string data, .int .i64 pl, .int .i64 n, .slice la ln lc][j]? = some u → w0.cell? ⟨w.heap.size, j, none⟩ = some u) := fun j u hj => by
                have e := heap_alloc_new w (.cells #[.int .i64 5, .string name, .string data, .int .i64 pl, .int .i64 n, .slice la ln lc] 41)
                have e2 := ((below_alloc (w.alloc (.cells #[.int .i64 5, .string name, .string data, .int .i64 pl, .int .i64 n, .slice la ln lc] 41)) (.cells #[.string { data := #[] }, .int .i64 0, .slice none 0 0, .int .i64 0] 38)).block w.heap.size (by simp)).trans e
                rw [← HW0.out] at e2
                rw [cell_of_row _ _ _ _ _ _ e2]
                simpa using hj
              have x5 := HBOX.out 5 _ rfl
              have x0 := HBOX.out 0 _ rfl
              have hT0 := hT
              obtain ⟨ov, fv, lv, fs, hA, hm, hnum, hok, rfl⟩ := hT
              have HA := hide hA
              have c2 := hA.c.2.2.1
              have f2 := hA.fr 2
              have lB := hA.lt
              have nB := hA.nf
              have hfl : fs.length = d.fates.length := by rw [← hm, List.length_map]
              have hrow := hide (hA.fs.later (Below.refl _ _).drew)
              have hI2 := hide (hI.later (Below.refl _ _).drew)
              have hmx : fs.length + ln ≤ maxLen := by unfold maxLen; omega
              have hby : (fs.length + ln) * 8 ≤ 140737488355328 := by omega
              have HNX : Hid (∀ w3 a2 n2 c2, Rw w3 3 1 (.slice a2 n2 c2) (fs.length + ln) (encI fs ++ encI l) → w0.drew.grownBy w3 fv.ownBlock → Moved w0.drew fv (.slice a2 n2 c2) → LeftT (refT b (d.tell l)) w0 (xB b ov fv lv) (w3.setCell ⟨b, 2, none⟩ (.slice a2 n2 c2))) := fun w3 a2 n2 c2 g1 g2 g3 => by
                have hG : Grew w0 3 1 fv (fs ++ l).length (encI (fs ++ l)) w3 (.slice a2 n2 c2) := by
                  refine ⟨by rw [encI_append, List.length_append, ← hI.len]; exact g1, (Keep.of_below (X := fun k => fv.ownBlock = some k) (Below.refl _ _).drew).trans (Keep.grown g2 fun _ e => e) fun _ _ e => e, g3.imp id fun hf k hk => Nat.le_trans (Below.refl w0.heap.size w0).drew.size (hf k hk)⟩
                obtain ⟨r1, r2, r3⟩ := HA.out.putFates hG
                exact ⟨_, ⟨ov, _, lv, fs ++ l, r1, by rw [List.map_append, hm]; rfl, fun x hx => (List.mem_append.1 hx).elim (hnum x) (hI.num x), hok.tell l, rfl⟩, r2, r3⟩
              have HC2 := hide c2
              have HF2 := hide f2
              clear hA hm hnum hok hT0 hI hfl
              go_enter Try.func16, Try.ntmps16
              go_wp2_with fail
              rw [← HW0.out]
              go_wp2
              go_region_law (refine step_append_is (X := xB b ov fv lv) rfl (.tmp 75) (.tmp 77) rfl _ _ _ (by simp [Act.eval]) hrow.out la ln lc l (by simp [Act.eval]) hI2.out hmx hby ?_; intro v2 w3 g1 g2 g3; obtain ⟨a2, n2, c2', rfl⟩ := g1.own_form; have cB2 := grow_cell HC2.out lB nB g2; have fB2 := grow_free HF2.out lB nB g2; replace g1 := hide g1; replace g2 := hide g2; replace g3 := hide g3)
              all_goals
                have hl1 := HNX.out _ _ _ _ g1.out g2.out g3.out
                have hblk := HR.out.cells HX.out hl1
                have HD := hide fun w3 hk => HR.out.doneT (refT_good _ _) (w3 := w3) HX.out hl1 (new_none _) hk
                clear hl1 g1 g2 g3 cB2 fB2
                generalize w3.setCell ⟨b, 2, none⟩ (.slice a2 n2 c2') = w1 at *
                have r0 := cell_of_row w1 (w.heap.size + 1) 0 _ _ _ hblk
                have r1 := cell_of_row w1 (w.heap.size + 1) 1 _ _ _ hblk
                have r2 := cell_of_row w1 (w.heap.size + 1) 2 _ _ _ hblk
                have r3 := cell_of_row w1 (w.heap.size + 1) 3 _ _ _ hblk
                have fz : ∀ j, w1.frozen? ⟨w.heap.size + 1, j, none⟩ = false := fun j => frozen_of_row w1 _ _ _ _ hblk
                simp only [gotCells, List.getElem?_toArray, List.getElem?_cons_zero, List.getElem?_cons_succ] at r0 r1 r2 r3
                clear hblk
                go_wp2
                exact bodyPost_ret (v := .agg #[.string { data := #[] }, .int .i64 0, .slice none 0 0, .int .i64 0]) (by simp [results, Try.results16, go_sem, r0, r1, r2, r3]) rfl ⟨_, rfl, HD.out _ (keep_four _ _ _ _ _)⟩
            · skip
              by_cases h6 : ask = 6
              · subst h6
                have hc := rland_any hT (by omega) hF n q6 false
                rw [show d.lands n false = d.land n from rfl] at hc
                simp only [Bk.step, Bk.stepE, Bk.stepS, Bk.stepN, Bk.stepL, if_true, show ¬ ((6 : Int) = 0) by omega, show ¬ ((6 : Int) = 1) by omega, show ¬ ((6 : Int) = 2) by omega, show ¬ ((6 : Int) = 3) by omega, show ¬ ((6 : Int) = 4) by omega, show ¬ ((6 : Int) = 5) by omega, if_false]
                generalize upTo n d.late.length = K at *
                go_enter Try.func16, Try.ntmps16
                go_wp2_with fail
                rw [← HW0.out]
                refine hc.mono ?_
                rintro e w1 ⟨rfl, hl1⟩
                have hblk := HR.out.cells HX.out hl1
                have HD := hide fun w3 hk => HR.out.doneT (refT_good _ _) (w3 := w3) HX.out hl1 (new_none w1) hk
                clear hl1
                have r0 := cell_of_row w1 (w.heap.size + 1) 0 _ _ _ hblk
                have r1 := cell_of_row w1 (w.heap.size + 1) 1 _ _ _ hblk
                have r2 := cell_of_row w1 (w.heap.size + 1) 2 _ _ _ hblk
                have r3 := cell_of_row w1 (w.heap.size + 1) 3 _ _ _ hblk
                have fz : ∀ j, w1.frozen? ⟨w.heap.size + 1, j, none⟩ = false := fun j => frozen_of_row w1 _ _ _ _ hblk
                simp only [gotCells, List.getElem?_toArray, List.getElem?_cons_zero, List.getElem?_cons_succ] at r0 r1 r2 r3
                clear hc hblk
                go_wp2
                exact bodyPost_ret (v := .agg #[.string { data := #[] }, .int .i64 (K : Nat), .slice none 0 0, .int .i64 0]) (by simp [results, Try.results16, go_sem, r0, r1, r2, r3]) rfl ⟨_, rfl, HD.out _ (keep_four _ _ _ _ _)⟩
              · skip
                have hc := rland_any hT (by omega) hF n q6 true
                rw [show d.lands n true = d.drop (upTo n d.late.length) from rfl] at hc
                simp only [Bk.step, Bk.stepE, Bk.stepS, Bk.stepN, Bk.stepL, h0, h1, h2, h3, h4, h5, h6, if_false]
                generalize upTo n d.late.length = K at *
                have b0 : (ask == 0) = false := by rw [beq_eq_false_iff_ne]; exact h0
                have b1 : (ask == 1) = false := by rw [beq_eq_false_iff_ne]; exact h1
                have b2 : (ask == 2) = false := by rw [beq_eq_false_iff_ne]; exact h2
                have b3 : (ask == 3) = false := by rw [beq_eq_false_iff_ne]; exact h3
                have b4 : (ask == 4) = false := by rw [beq_eq_false_iff_ne]; exact h4
                have b5 : (ask == 5) = false := by rw [beq_eq_false_iff_ne]; exact h5
                have b6 : (ask == 6) = false := by rw [beq_eq_false_iff_ne]; exact h6
                have b7 : (ask != 6) = true := by rw [bne_iff_ne]; exact h6
                clear h0 h1 h2 h3 h4 h5 h6
                go_enter Try.func16, Try.ntmps16
                go_wp2_with fail
                rw [← HW0.out]
                refine hc.mono ?_
                rintro e w1 ⟨rfl, hl1⟩
                have hblk := HR.out.cells HX.out hl1
                have HD := hide fun w3 hk => HR.out.doneT (refT_good _ _) (w3 := w3) HX.out hl1 (new_none w1) hk
                clear hl1
                have r0 := cell_of_row w1 (w.heap.size + 1) 0 _ _ _ hblk
                have r1 := cell_of_row w1 (w.heap.size + 1) 1 _ _ _ hblk
                have r2 := cell_of_row w1 (w.heap.size + 1) 2 _ _ _ hblk
                have r3 := cell_of_row w1 (w.heap.size + 1) 3 _ _ _ hblk
                have fz : ∀ j, w1.frozen? ⟨w.heap.size + 1, j, none⟩ = false := fun j => frozen_of_row w1 _ _ _ _ hblk
                simp only [gotCells, List.getElem?_toArray, List.getElem?_cons_zero, List.getElem?_cons_succ] at r0 r1 r2 r3
                clear hc hblk
                go_wp2
                exact bodyPost_ret (v := .agg #[.string { data := #[] }, .int .i64 (K : Nat), .slice none 0 0, .int .i64 0]) (by simp [results, Try.results16, go_sem, r0, r1, r2, r3]) rfl ⟨_, rfl, HD.out _ (keep_four _ _ _ _ _)⟩

end Wi
end Go.Proofs.Ythnhapjjgaicdaa
