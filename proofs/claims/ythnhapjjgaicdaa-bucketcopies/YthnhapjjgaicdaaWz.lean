/- Calls of a bucket, one of eight kinds. -/
import Derived.Test.YthnhapjjgaicdaaWy
namespace Go.Proofs.Ythnhapjjgaicdaa
open Go.RowKit
namespace Wi

def Bk.step (d : Bk) (o : OpV) : Bk := if o.ask = 0 then d.put o.name o.data else if o.ask = 1 then d.ask (Bk.askOk o.name o.place o.n) else if o.ask = 2 then d.ask (nameB o.name) else if o.ask = 3 then d.next else if o.ask = 4 then d.del o.name else if o.ask = 5 then d.tell o.l else if o.ask = 6 then d.land o.n else d.drop (upTo o.n d.late.length)
def Bk.stepS (d : Bk) (o : OpV) : ByteArray := if o.ask = 1 then d.getS o.name o.place o.n else { data := #[] }
def Bk.stepN (d : Bk) (o : OpV) : Nat := if o.ask = 0 then 0 else if o.ask = 1 then 0 else if o.ask = 2 then d.sizeN o.name else if o.ask = 3 then 0 else if o.ask = 4 then 0 else if o.ask = 5 then 0 else upTo o.n d.late.length
def Bk.stepL (d : Bk) (o : OpV) : List ByteArray := if o.ask = 3 then d.listL o.name else []
def Bk.stepE (d : Bk) (o : OpV) : Int := if o.ask = 0 then d.putE o.name o.data else if o.ask = 1 then d.getE o.name o.place o.n else if o.ask = 2 then d.sizeE o.name else if o.ask = 3 then d.listE else if o.ask = 4 then d.delE o.name else 0
/-- What a call leaves: the bucket, and a list in memory that is nobody's else. -/
def DoesP (b : Nat) (d : Bk) (L : List ByteArray) (w : World) (X : Nat → Prop) (w' : World) (v : Value) : Prop := ∃ X', bkT b d w' X' ∧ Keep X w w' ∧ (∀ k, X' k → X k ∨ w.heap.size ≤ k) ∧ Rw w' 9 1 v L.length (encN L) ∧ ∀ k, v.ownBlock = some k → w.heap.size ≤ k ∧ ¬ X' k
theorem DoesP.left {b : Nat} {d : Bk} {L : List ByteArray} {w : World} {X : Nat → Prop} {w' : World} {v : Value} (h : DoesP b d L w X w' v) : LeftT (bkT b d) w X w' := let ⟨X', h1, h2, h3, _⟩ := h; ⟨X', h1, h2, h3⟩
def gotCells : Array Value := #[.string { data := #[] }, .int .i64 0, .slice none 0 0, .int .i64 0]
/-- The world in which the inner call begins. -/
structure Room (w : World) (o : OpV) (w0 : World) : Prop where
  size : w0.heap.size = w.heap.size + 2
  below : Below w.heap.size w w0
  blk : w0.heap[w.heap.size + 1]? = some (.cells gotCells 38 (0, 0))
theorem room_new (w : World) (o : OpV) : Room w o ((w.alloc (.cells o.cells.toArray 41)).alloc (.cells gotCells 38)) := by
  have B0 := below_alloc w (.cells o.cells.toArray 41)
  have B1 := below_alloc (w.alloc (.cells o.cells.toArray 41)) (.cells gotCells 38)
  refine ⟨by simp, B0.trans (B1.mono B0.size), ?_⟩
  have := heap_alloc_new (w.alloc (.cells o.cells.toArray 41)) (.cells gotCells 38)
  rw [show (w.alloc (.cells o.cells.toArray 41)).heap.size = w.heap.size + 1 by simp] at this
  exact this
/-- Behind the inner call the room for the answer is as it was. -/
theorem Room.cells {w w0 w1 : World} {o : OpV} {X : Nat → Prop} {A : Th} (h : Room w o w0) (hX : ∀ k, X k → k < w.heap.size) (hl : LeftT A w0 X w1) : w1.heap[w.heap.size + 1]? = some (.cells gotCells 38 (0, 0)) := by
  obtain ⟨_, _, hk, _⟩ := hl
  exact (hk.block _ (by rw [h.size]; omega) fun e => by have := hX _ e; omega).trans h.blk
theorem Room.done {w w0 w1 w2 w3 : World} {o : OpV} {X : Nat → Prop} {b : Nat} {d : Bk} {L : List ByteArray} {v : Value} (h : Room w o w0) (hX : ∀ k, X k → k < w.heap.size) (hl : LeftT (bkT b d) w0 X w1) (hn : NewSs w1 L w2 v) (hk : Keep (fun k => k = w.heap.size + 1) w2 w3) : DoesP b d L w X w3 v := by
  obtain ⟨X', h1, h2, h3⟩ := hl
  have hx1 : ∀ k, X' k → X k ∨ w.heap.size + 2 ≤ k := fun k hk => (h3 k hk).imp id fun e => by rw [h.size] at e; exact e
  have hs := h2.size
  rw [h.size] at hs
  have hnr : ∀ k, X' k → ¬ k = w.heap.size + 1 := fun k hk e => by
    rcases hx1 k hk with h' | h'
    · have := hX k h'; omega
    · omega
  refine ⟨X', (bkT_good b d).keep ((bkT_good b d).later h1 hn.below) hk hnr, ?_, fun k hk => (hx1 k hk).imp id fun e => by omega, hn.row.keep hk fun i hi e => ?_, fun k hk' => ⟨?_, fun e => ?_⟩⟩
  · have k1 := (Keep.of_below (X := X) h.below).trans h2 fun _ _ e => e
    have k2 := k1.trans (Keep.of_below (X := X) hn.below) fun _ _ e => e
    exact k2.trans hk fun i hi e => by omega
  · have := hn.new i hi
    omega
  · have := hn.new k hk'
    omega
  · have h5 := hn.new k hk'
    have h6 := (bkT_good b d).lt h1 k e
    omega
theorem new_none (w : World) : NewSs w [] w (.slice none 0 0) := ⟨Rw.nil _ _ _, From.nil _ _ _, Below.refl _ _⟩
theorem keep_four {w : World} (R : Nat) (a b c e : Value) : Keep (fun k => k = R) w ((((w.setCell ⟨R, 0, none⟩ a).setCell ⟨R, 1, none⟩ b).setCell ⟨R, 2, none⟩ c).setCell ⟨R, 3, none⟩ e) :=
  (((Keep.setCell (X := fun k => k = R) w ⟨R, 0, none⟩ a rfl).trans (Keep.setCell (X := fun k => k = R) _ ⟨R, 1, none⟩ b rfl) fun _ _ e => e).trans (Keep.setCell (X := fun k => k = R) _ ⟨R, 2, none⟩ c rfl) fun _ _ e => e).trans (Keep.setCell (X := fun k => k = R) _ ⟨R, 3, none⟩ e rfl) fun _ _ e => e
set_option maxHeartbeats 8000000 in
theorem does_any {w : World} {b : Nat} {X : Nat → Prop} {d : Bk} (h : bkT b d w X) (hs : d.objs.length + d.late.length ≤ 900000) (hf : d.fates.length + 20 ≤ 1000000) (hz : ∀ o ∈ d.objs, o.1.size ≤ 9223372036854775807) (o : OpV) (ho : OpOk w X o) (hl : o.ln ≤ 20) :
    Calls Try.prog 15 #[.pointer (some ⟨b, 0, none⟩), .agg o.cells.toArray] w fun e w' => ∃ v, e = .returned (.agg #[.string (d.stepS o), .int .i64 (d.stepN o : Nat), v, .int .i64 (d.stepE o)]) ∧ DoesP b (d.step o) (d.stepL o) w X w' v := by
  have hX := (bkT_good b d).lt h
  have hR := room_new w o
  have hT := (bkT_good b d).later h hR.below
  have hO := ho.later hR.below
  have hI := hO.l
  obtain ⟨⟨q1, q2⟩, q3, q4, q5, q6, _⟩ := ho
  obtain ⟨ask, name, data, pl, n, la, ln, lc, l⟩ := o
  simp only at q1 q2 q3 q4 q5 q6 hl hI
  unfold OpV.cells at *
  simp only at *
  have HR := hide hR
  have HX := hide hX
  obtain ⟨w0, hw0⟩ : ∃ w0, w0 = (w.alloc (.cells #[.int .i64 ask, .string name, .string data, .int .i64 pl, .int .i64 n, .slice la ln lc] 41)).alloc (.cells gotCells 38) := ⟨_, rfl⟩
  rw [← hw0] at HR hT hO hI
  have hw0' : w0 = (w.alloc (.cells #[.int .i64 ask, .string name, .string data, .int .i64 pl, .int .i64 n, .slice la ln lc] 41)).alloc (.cells #[.string { data := #[] }, .int .i64 0, .slice none 0 0, .int .i64 0] 38) := hw0
  have HW0 := hide hw0'
  clear hR hX hO h hw0 hw0'
  by_cases h0 : ask = 0
  · subst h0
    have hc := put_any hT (by omega) (by omega) (by omega) name data q3 q4
    simp only [Bk.step, Bk.stepE, Bk.stepS, Bk.stepN, Bk.stepL, if_true, show ¬ ((0 : Int) = 1) by omega, show ¬ ((0 : Int) = 2) by omega, show ¬ ((0 : Int) = 3) by omega, show ¬ ((0 : Int) = 4) by omega, show ¬ ((0 : Int) = 5) by omega, show ¬ ((0 : Int) = 6) by omega, if_false]
    generalize d.putE name data = E at *
    go_enter Try.func15, Try.ntmps15
    go_wp2_with fail
    rw [← HW0.out]
    refine hc.mono ?_
    rintro e w1 ⟨rfl, hl1⟩
    have hblk := HR.out.cells HX.out hl1
    have HD := hide fun w3 hk => HR.out.done (w3 := w3) HX.out hl1 (new_none w1) hk
    clear hl1
    have r0 := cell_of_row w1 (w.heap.size + 1) 0 _ _ _ hblk
    have r1 := cell_of_row w1 (w.heap.size + 1) 1 _ _ _ hblk
    have r2 := cell_of_row w1 (w.heap.size + 1) 2 _ _ _ hblk
    have r3 := cell_of_row w1 (w.heap.size + 1) 3 _ _ _ hblk
    have fz : ∀ j, w1.frozen? ⟨w.heap.size + 1, j, none⟩ = false := fun j => frozen_of_row w1 _ _ _ _ hblk
    simp only [gotCells, List.getElem?_toArray, List.getElem?_cons_zero, List.getElem?_cons_succ] at r0 r1 r2 r3
    clear hc hblk
    go_wp2
    exact bodyPost_ret (v := .agg #[.string { data := #[] }, .int .i64 0, .slice none 0 0, .int .i64 E]) (by simp [results, Try.results15, go_sem, r0, r1, r2, r3]) rfl ⟨_, rfl, HD.out _ (keep_four _ _ _ _ _)⟩
  · skip
    by_cases h1 : ask = 1
    · subst h1
      have hc := get_any hT (by omega) (by omega) name q3 pl n q5 q6
      simp only [Bk.step, Bk.stepE, Bk.stepS, Bk.stepN, Bk.stepL, if_true, show ¬ ((1 : Int) = 0) by omega, show ¬ ((1 : Int) = 2) by omega, show ¬ ((1 : Int) = 3) by omega, show ¬ ((1 : Int) = 4) by omega, show ¬ ((1 : Int) = 5) by omega, show ¬ ((1 : Int) = 6) by omega, if_false]
      generalize d.getE name pl n = E at *
      generalize d.getS name pl n = S at *
      go_enter Try.func15, Try.ntmps15
      go_wp2_with fail
      rw [← HW0.out]
      refine hc.mono ?_
      rintro e w1 ⟨rfl, hl1⟩
      have hblk := HR.out.cells HX.out hl1
      have HD := hide fun w3 hk => HR.out.done (w3 := w3) HX.out hl1 (new_none w1) hk
      clear hl1
      have r0 := cell_of_row w1 (w.heap.size + 1) 0 _ _ _ hblk
      have r1 := cell_of_row w1 (w.heap.size + 1) 1 _ _ _ hblk
      have r2 := cell_of_row w1 (w.heap.size + 1) 2 _ _ _ hblk
      have r3 := cell_of_row w1 (w.heap.size + 1) 3 _ _ _ hblk
      have fz : ∀ j, w1.frozen? ⟨w.heap.size + 1, j, none⟩ = false := fun j => frozen_of_row w1 _ _ _ _ hblk
      simp only [gotCells, List.getElem?_toArray, List.getElem?_cons_zero, List.getElem?_cons_succ] at r0 r1 r2 r3
      clear hc hblk
      go_wp2
      exact bodyPost_ret (v := .agg #[.string S, .int .i64 0, .slice none 0 0, .int .i64 E]) (by simp [results, Try.results15, go_sem, r0, r1, r2, r3]) rfl ⟨_, rfl, HD.out _ (keep_four _ _ _ _ _)⟩
    · skip
      by_cases h2 : ask = 2
      · subst h2
        have hc := size_any hT (by omega) (by omega) name q3
        simp only [Bk.step, Bk.stepE, Bk.stepS, Bk.stepN, Bk.stepL, if_true, show ¬ ((2 : Int) = 0) by omega, show ¬ ((2 : Int) = 1) by omega, show ¬ ((2 : Int) = 3) by omega, show ¬ ((2 : Int) = 4) by omega, show ¬ ((2 : Int) = 5) by omega, show ¬ ((2 : Int) = 6) by omega, if_false]
        generalize d.sizeE name = E at *
        generalize d.sizeN name = N at *
        go_enter Try.func15, Try.ntmps15
        go_wp2_with fail
        rw [← HW0.out]
        refine hc.mono ?_
        rintro e w1 ⟨rfl, hl1⟩
        have hblk := HR.out.cells HX.out hl1
        have HD := hide fun w3 hk => HR.out.done (w3 := w3) HX.out hl1 (new_none w1) hk
        clear hl1
        have r0 := cell_of_row w1 (w.heap.size + 1) 0 _ _ _ hblk
        have r1 := cell_of_row w1 (w.heap.size + 1) 1 _ _ _ hblk
        have r2 := cell_of_row w1 (w.heap.size + 1) 2 _ _ _ hblk
        have r3 := cell_of_row w1 (w.heap.size + 1) 3 _ _ _ hblk
        have fz : ∀ j, w1.frozen? ⟨w.heap.size + 1, j, none⟩ = false := fun j => frozen_of_row w1 _ _ _ _ hblk
        simp only [gotCells, List.getElem?_toArray, List.getElem?_cons_zero, List.getElem?_cons_succ] at r0 r1 r2 r3
        clear hc hblk
        go_wp2
        exact bodyPost_ret (v := .agg #[.string { data := #[] }, .int .i64 (N : Nat), .slice none 0 0, .int .i64 E]) (by simp [results, Try.results15, go_sem, r0, r1, r2, r3]) rfl ⟨_, rfl, HD.out _ (keep_four _ _ _ _ _)⟩
      · skip
        by_cases h3 : ask = 3
        · subst h3
          have hc := list_any hT (by omega) (by omega) hz name q3
          simp only [Bk.step, Bk.stepE, Bk.stepS, Bk.stepN, Bk.stepL, if_true, show ¬ ((3 : Int) = 0) by omega, show ¬ ((3 : Int) = 1) by omega, show ¬ ((3 : Int) = 2) by omega, show ¬ ((3 : Int) = 4) by omega, show ¬ ((3 : Int) = 5) by omega, show ¬ ((3 : Int) = 6) by omega, if_false]
          generalize d.listE = E at *
          go_enter Try.func15, Try.ntmps15
          go_wp2_with fail
          rw [← HW0.out]
          refine hc.mono ?_
          rintro e w1 ⟨v, w2, rfl, hl1, hnw⟩
          obtain ⟨va, vn, vc, rfl⟩ := hnw.row.own_form
          have hblk0 := HR.out.cells HX.out hl1
          have hblk := (hnw.below.block _ (lt_of_block hblk0)).trans hblk0
          have HD := hide fun w3 hk => HR.out.done (w3 := w3) HX.out hl1 hnw hk
          clear hl1 hnw hblk0
          have r0 := cell_of_row w1 (w.heap.size + 1) 0 _ _ _ hblk
          have r1 := cell_of_row w1 (w.heap.size + 1) 1 _ _ _ hblk
          have r2 := cell_of_row w1 (w.heap.size + 1) 2 _ _ _ hblk
          have r3 := cell_of_row w1 (w.heap.size + 1) 3 _ _ _ hblk
          have fz : ∀ j, w1.frozen? ⟨w.heap.size + 1, j, none⟩ = false := fun j => frozen_of_row w1 _ _ _ _ hblk
          simp only [gotCells, List.getElem?_toArray, List.getElem?_cons_zero, List.getElem?_cons_succ] at r0 r1 r2 r3
          clear hc hblk
          go_wp2
          exact bodyPost_ret (v := .agg #[.string { data := #[] }, .int .i64 0, .slice va vn vc, .int .i64 E]) (by simp [results, Try.results15, go_sem, r0, r1, r2, r3]) rfl ⟨_, rfl, HD.out _ (keep_four _ _ _ _ _)⟩
        · skip
          by_cases h4 : ask = 4
          · subst h4
            have hc := del_any hT (by omega) (by omega) (by omega) name q3
            simp only [Bk.step, Bk.stepE, Bk.stepS, Bk.stepN, Bk.stepL, if_true, show ¬ ((4 : Int) = 0) by omega, show ¬ ((4 : Int) = 1) by omega, show ¬ ((4 : Int) = 2) by omega, show ¬ ((4 : Int) = 3) by omega, show ¬ ((4 : Int) = 5) by omega, show ¬ ((4 : Int) = 6) by omega, if_false]
            generalize d.delE name = E at *
            go_enter Try.func15, Try.ntmps15
            go_wp2_with fail
            rw [← HW0.out]
            refine hc.mono ?_
            rintro e w1 ⟨rfl, hl1⟩
            have hblk := HR.out.cells HX.out hl1
            have HD := hide fun w3 hk => HR.out.done (w3 := w3) HX.out hl1 (new_none w1) hk
            clear hl1
            have r0 := cell_of_row w1 (w.heap.size + 1) 0 _ _ _ hblk
            have r1 := cell_of_row w1 (w.heap.size + 1) 1 _ _ _ hblk
            have r2 := cell_of_row w1 (w.heap.size + 1) 2 _ _ _ hblk
            have r3 := cell_of_row w1 (w.heap.size + 1) 3 _ _ _ hblk
            have fz : ∀ j, w1.frozen? ⟨w.heap.size + 1, j, none⟩ = false := fun j => frozen_of_row w1 _ _ _ _ hblk
            simp only [gotCells, List.getElem?_toArray, List.getElem?_cons_zero, List.getElem?_cons_succ] at r0 r1 r2 r3
            clear hc hblk
            go_wp2
            exact bodyPost_ret (v := .agg #[.string { data := #[] }, .int .i64 0, .slice none 0 0, .int .i64 E]) (by simp [results, Try.results15, go_sem, r0, r1, r2, r3]) rfl ⟨_, rfl, HD.out _ (keep_four _ _ _ _ _)⟩
          · skip
            by_cases h5 : ask = 5
            · subst h5
              have hc := fates_any hT (cap := lc) hI (by omega)
              simp only [Bk.step, Bk.stepE, Bk.stepS, Bk.stepN, Bk.stepL, if_true, show ¬ ((5 : Int) = 0) by omega, show ¬ ((5 : Int) = 1) by omega, show ¬ ((5 : Int) = 2) by omega, show ¬ ((5 : Int) = 3) by omega, show ¬ ((5 : Int) = 4) by omega, show ¬ ((5 : Int) = 6) by omega, if_false]
              go_enter Try.func15, Try.ntmps15
              go_wp2_with fail
              rw [← HW0.out]
              refine hc.mono ?_
              rintro e w1 ⟨rfl, hl1⟩
              have hblk := HR.out.cells HX.out hl1
              have HD := hide fun w3 hk => HR.out.done (w3 := w3) HX.out hl1 (new_none w1) hk
              clear hl1
              have r0 := cell_of_row w1 (w.heap.size + 1) 0 _ _ _ hblk
              have r1 := cell_of_row w1 (w.heap.size + 1) 1 _ _ _ hblk
              have r2 := cell_of_row w1 (w.heap.size + 1) 2 _ _ _ hblk
              have r3 := cell_of_row w1 (w.heap.size + 1) 3 _ _ _ hblk
              have fz : ∀ j, w1.frozen? ⟨w.heap.size + 1, j, none⟩ = false := fun j => frozen_of_row w1 _ _ _ _ hblk
              simp only [gotCells, List.getElem?_toArray, List.getElem?_cons_zero, List.getElem?_cons_succ] at r0 r1 r2 r3
              clear hc hblk
              go_wp2
              exact bodyPost_ret (v := .agg #[.string { data := #[] }, .int .i64 0, .slice none 0 0, .int .i64 0]) (by simp [results, Try.results15, go_sem, r0, r1, r2, r3]) rfl ⟨_, rfl, HD.out _ (keep_four _ _ _ _ _)⟩
            · skip
              by_cases h6 : ask = 6
              · subst h6
                have hc := land_any hT (by omega) n q6
                simp only [Bk.step, Bk.stepE, Bk.stepS, Bk.stepN, Bk.stepL, if_true, show ¬ ((6 : Int) = 0) by omega, show ¬ ((6 : Int) = 1) by omega, show ¬ ((6 : Int) = 2) by omega, show ¬ ((6 : Int) = 3) by omega, show ¬ ((6 : Int) = 4) by omega, show ¬ ((6 : Int) = 5) by omega, if_false]
                generalize upTo n d.late.length = K at *
                go_enter Try.func15, Try.ntmps15
                go_wp2_with fail
                rw [← HW0.out]
                refine hc.mono ?_
                rintro e w1 ⟨rfl, hl1⟩
                have hblk := HR.out.cells HX.out hl1
                have HD := hide fun w3 hk => HR.out.done (w3 := w3) HX.out hl1 (new_none w1) hk
                clear hl1
                have r0 := cell_of_row w1 (w.heap.size + 1) 0 _ _ _ hblk
                have r1 := cell_of_row w1 (w.heap.size + 1) 1 _ _ _ hblk
                have r2 := cell_of_row w1 (w.heap.size + 1) 2 _ _ _ hblk
                have r3 := cell_of_row w1 (w.heap.size + 1) 3 _ _ _ hblk
                have fz : ∀ j, w1.frozen? ⟨w.heap.size + 1, j, none⟩ = false := fun j => frozen_of_row w1 _ _ _ _ hblk
                simp only [gotCells, List.getElem?_toArray, List.getElem?_cons_zero, List.getElem?_cons_succ] at r0 r1 r2 r3
                clear hc hblk
                go_wp2
                exact bodyPost_ret (v := .agg #[.string { data := #[] }, .int .i64 (K : Nat), .slice none 0 0, .int .i64 0]) (by simp [results, Try.results15, go_sem, r0, r1, r2, r3]) rfl ⟨_, rfl, HD.out _ (keep_four _ _ _ _ _)⟩
              · skip
                have hc := drop_any hT (by omega) n q6
                simp only [Bk.step, Bk.stepE, Bk.stepS, Bk.stepN, Bk.stepL, h0, h1, h2, h3, h4, h5, h6, if_false]
                generalize upTo n d.late.length = K at *
                have b0 : (ask == 0) = false := by rw [beq_eq_false_iff_ne]; exact h0
                have b1 : (ask == 1) = false := by rw [beq_eq_false_iff_ne]; exact h1
                have b2 : (ask == 2) = false := by rw [beq_eq_false_iff_ne]; exact h2
                have b3 : (ask == 3) = false := by rw [beq_eq_false_iff_ne]; exact h3
                have b4 : (ask == 4) = false := by rw [beq_eq_false_iff_ne]; exact h4
                have b5 : (ask == 5) = false := by rw [beq_eq_false_iff_ne]; exact h5
                have b6 : (ask == 6) = false := by rw [beq_eq_false_iff_ne]; exact h6
                clear h0 h1 h2 h3 h4 h5 h6
                go_enter Try.func15, Try.ntmps15
                go_wp2_with fail
                rw [← HW0.out]
                refine hc.mono ?_
                rintro e w1 ⟨rfl, hl1⟩
                have hblk := HR.out.cells HX.out hl1
                have HD := hide fun w3 hk => HR.out.done (w3 := w3) HX.out hl1 (new_none w1) hk
                clear hl1
                have r0 := cell_of_row w1 (w.heap.size + 1) 0 _ _ _ hblk
                have r1 := cell_of_row w1 (w.heap.size + 1) 1 _ _ _ hblk
                have r2 := cell_of_row w1 (w.heap.size + 1) 2 _ _ _ hblk
                have r3 := cell_of_row w1 (w.heap.size + 1) 3 _ _ _ hblk
                have fz : ∀ j, w1.frozen? ⟨w.heap.size + 1, j, none⟩ = false := fun j => frozen_of_row w1 _ _ _ _ hblk
                simp only [gotCells, List.getElem?_toArray, List.getElem?_cons_zero, List.getElem?_cons_succ] at r0 r1 r2 r3
                clear hc hblk
                go_wp2
                exact bodyPost_ret (v := .agg #[.string { data := #[] }, .int .i64 (K : Nat), .slice none 0 0, .int .i64 0]) (by simp [results, Try.results15, go_sem, r0, r1, r2, r3]) rfl ⟨_, rfl, HD.out _ (keep_four _ _ _ _ _)⟩

end Wi
end Go.Proofs.Ythnhapjjgaicdaa
