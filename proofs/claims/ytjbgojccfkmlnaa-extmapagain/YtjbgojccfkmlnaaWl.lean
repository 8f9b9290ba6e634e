/- What of rising extents is ahead of a sector, where the sector lies in one of them. -/
import Derived.Test.YtjbgojccfkmlnaaWj
import Derived.Test.YtjbgojccfkmlnaaSg
import Derived.Deep.MidRow
import Derived.Laws.IdiomCopy
import Derived.Lib.AppendZeros
import Derived.Deep.RegionLawGrows
namespace Go.Proofs.Ytjbgojccfkmlnaa
open Go.RowKit
namespace Wi

def Spec.blk (W : World) (o : Obj) : Spec := ⟨fun v w => ∃ k, v = .pointer (some ⟨k, 0, none⟩) ∧ w.heap[k]? = some o ∧ W.heap.size ≤ k, fun _ _ _ ⟨k, h1, h2, h3⟩ hb => ⟨k, h1, (hb.block k (lt_of_block h2)).trans h2, h3⟩⟩
theorem size40 (w : World) : (Go.sizeOf 40).run Try.prog w = .ok 4 w := by kernel_rfl
theorem step_val {P : Program} {ops : Array Oper} {o : Oper} {a : Act} {w : World} {K : Act → World → Prop} {Q : Exit → Act → World → Prop} {E : Prop} {v : Value} {S : World → Prop} (hw : Region.wanted o (yielded ops a.tmps) = true) (f : FuncId) (args : Array Value)
    (hrun : (execOp a.eval o).run P w = .ok (.enter f args) w) (hc : Calls P f args w fun e w' => e = .returned v ∧ S w') (hK : ∀ w', S w' → K (a.put o.dst v) w') : if Region.wanted o (yielded ops a.tmps) = true then Oper.wp P o a w K Q else E := by
  rw [if_pos hw]
  unfold Oper.wp
  rw [hrun]
  refine hc.mono ?_
  rintro e w' ⟨rfl, hs⟩
  exact hK w' hs
/-- An extent in a block of its own. -/
theorem new_x (w : World) (x : Xt) (t : TypeId) : XCell (w.alloc (.cells (encX x).toArray t)) w.heap.size 0 x := by
  have e : ∀ i, (w.alloc (.cells (encX x).toArray t)).cell? ⟨w.heap.size, i, none⟩ = (encX x)[i]? := fun i => by
    rw [cell_of_row _ _ _ _ _ _ (heap_alloc_new w _)]
    simp
  exact ⟨e 0, e 1, e 2, e 3, fun j => frozen_of_row _ _ _ _ _ (heap_alloc_new w _), by simp⟩
/-- append behind a slice that has no room: new memory, or nothing. -/
theorem run_append_full {w : World} (ty : TypeId) {p : Option Addr} {n : Nat} {xs : List Value} (h : Rw w 40 4 (.slice p n n) n xs) (ad : Addr) (m c : Nat) (hm : 0 < m) (hn : n + m ≤ 2000000) (news : List Value) (hl : news.length = m * 4) (hnews : ∀ j u, news[j]? = some u → w.cell? (ad.add j) = some u) (h1 : ∀ u ∈ news, u.oneCell' = true) :
    ∃ v' w', (Builtin.append_ #[30, 30] ty #[.slice p n n, .slice (some ad) m c]).run Try.prog w = .ok v' w' ∧ Rw w' 40 4 v' (n + m) (xs ++ news) ∧ Below w.heap.size w w' := by
  obtain ⟨i0, hi, hz0, hz1, hz2⟩ := info_parts info40
  rcases h.2 with ⟨hv, rfl⟩ | ⟨g, off, cap, cur, hv, hg, _⟩
  · injection hv with hp _ _
    subst hp
    obtain ⟨v', w', hr, g1, g2, g3⟩ := run_append_rw (P := Try.prog) 30 ty 40 i0 _ 4 32 Try.underlying30 hi hz0 hz1 hz2 rfl (by decide) _ 0 xs h ad m c news hl hnews h1 (by unfold maxLen; omega) (by omega)
    exact ⟨v', w', hr, g1, below_grown (Below.refl _ _) g2 (Nat.le_refl _) (From.nil _ _ _)⟩
  · injection hv with hp _ _
    subst hp
    have hr := run_append_grow (P := Try.prog) w 30 ty 40 i0 _ Try.underlying30 hi hz0 ⟨g, off, none⟩ n n xs (by rw [h.1, hz1]) h.cells ad m c news (by rw [hl, hz1]) hnews (by omega) (by omega) (growslice_fits (by omega) (by rw [hz2]; omega))
    have hge := grownCap_ge w (n + m) n 40
    have hcm : grownCap w (n + m) n 40 ≤ maxLen := grownCap_le_maxLen w (n + m) n 40 (by unfold maxLen; omega)
    refine ⟨_, _, hr, Rw.of_own ⟨by rw [List.length_append, h.1, hl]; omega, .inr ⟨w.heap.size, _, _, rfl, Nat.zero_le _, heap_alloc_new w.drew _, hge, hcm, ?_, ?_⟩⟩, ((Below.refl _ _).drew).alloc (Nat.le_refl _) _⟩
    · simp only [Array.size_append, List.size_toArray, size_zeroCells, h.1, hl]
      have : (Value.agg #[.int .i64 0, .int .i64 0, .int .i64 0, .int .i64 0]).cells.size = 4 := rfl
      rw [this]
      omega
    · simp only [Array.toList_append, List.append_assoc]
      have hlen : (xs ++ news).length = (n + m) * 4 := by rw [List.length_append, h.1, hl]; omega
      rw [← List.append_assoc, ← hlen]
      exact List.take_left
theorem run_append_tight {w : World} (ty : TypeId) {p ad : Option Addr} {n m c : Nat} {xs news : List Value} (h : Rw w 40 4 (.slice p n n) n xs) (hs : Rw w 40 4 (.slice ad m c) m news) (h1 : ∀ u ∈ news, u.oneCell' = true) (hn : n + m ≤ 2000000) :
    ∃ v' w', (Builtin.append_ #[30, 30] ty #[.slice p n n, .slice ad m c]).run Try.prog w = .ok v' w' ∧ Rw w' 40 4 v' (n + m) (xs ++ news) ∧ Below w.heap.size w w' := by
  by_cases hm : 0 < m
  · obtain ⟨g, off, cap, hv, _⟩ := hs.pos hm
    injection hv with e1 _ _
    subst e1
    exact run_append_full ty h ⟨g, off, none⟩ m c hm hn news hs.1 hs.cells h1
  · obtain ⟨i0, hi, hz0, hz1, hz2⟩ := info_parts info40
    obtain rfl : m = 0 := by omega
    have hx : news = [] := List.eq_nil_of_length_eq_zero (by simpa using hs.1)
    subst hx
    refine ⟨.slice p n n, w, ?_, by simpa using h, Below.refl _ _⟩
    simp [Builtin.append_, run_underlying Try.underlying30, sizeOf, typeInfo, hi, Builtin.lenOf, Builtin.firstCells, storeCells]
    try (cases ad <;> cases p <;> simp [storeCells, loadCells, loadCellsFrom])
theorem row_block {w : World} {k : Nat} {x : Xt} (h : w.heap[k]? = some (.cells (encX x).toArray 40 (0, 0))) : Rw w 40 4 (.slice (some ⟨k, 0, none⟩) 1 1) 1 (encX x) :=
  ⟨rfl, .inr ⟨k, 0, 1, _, rfl, h, Nat.le_refl _, by unfold maxLen; omega, by simp [encX], by simp [encX]⟩⟩
theorem encX_oneCell (x : Xt) : ∀ u ∈ encX x, u.oneCell' = true := fun u hu => encXs_oneCell [x] u (by simpa [encXs] using hu)
/-- An extent that a block of its own has. -/
theorem cell_block {w : World} {k : Nat} {x : Xt} (h : w.heap[k]? = some (.cells (encX x).toArray 40 (0, 0))) : XCell w k 0 x := by
  have e : ∀ i, w.cell? ⟨k, i, none⟩ = (encX x)[i]? := fun i => by
    rw [cell_of_row _ _ _ _ _ _ h]
    simp
  exact ⟨e 0, e 1, e 2, e 3, fun j => frozen_of_row _ _ _ _ _ h, lt_of_block h⟩
theorem exec_store {A : Act} {w : World} {x y : Operand} {k : Nat} {X : Xt} (hx : A.eval x = .pointer (some ⟨k, 0, none⟩)) (hy : A.eval y = .agg (encX X).toArray) {cs : Array Value} (hk : w.heap[k]? = some (.cells cs 40 (0, 0))) (hc : cs.size = 4) :
    ∃ w', (∀ op : Oper, op.op = .store 40 x y → (execOp A.eval op).run Try.prog w = .ok .skip w') ∧ w'.heap[k]? = some (.cells (encX X).toArray 40 (0, 0)) ∧ Keep (fun j => j = k) w w' := by
  have ht : w.there k 0 (encX X).toArray.size := fun j hj => by
    refine ⟨?_, frozen_of_row _ _ _ _ _ hk⟩
    have hj4 : j < cs.size := by rw [hc]; exact hj
    rw [cell_of_row _ _ _ _ _ _ hk]
    simp [hj4]
  have e := setCells_eq_setRow (g := k) (o := 0) (vs := encX X) hk (by rw [hc]; exact Nat.le_refl _) (encX_oneCell X)
  refine ⟨w.setCells k 0 (encX X), fun op ho => ?_, ?_, Keep.setCells (X := fun j => j = k) k rfl _ _ _⟩
  · unfold execOp
    simp only [ho, hx, hy, Sem.run_bind, Sem.run_pure, run_storeAt_mid (P := Try.prog) w k 0 40 (encX X).toArray ht (by kernel_rfl) (all_oneCell_toArray (encX_oneCell X)), Result.andThen_ok]
  · rw [e, setRow_heap w k _ _ _ _ hk]
    have hs : splice cs.toList 0 (encX X) = encX X := by
      have := splice_zero cs.toList (encX X) [] (by simp [hc, encX])
      simpa using this
    rw [hs]
theorem one_xs {w : World} {k : Nat} {x : Xt} (h : w.heap[k]? = some (.cells (encX x).toArray 40 (0, 0))) : Xs w (.slice (some ⟨k, 0, none⟩) 1 1) [x] := by
  have e : encXs [x] = encX x := by simp [encXs]
  unfold Xs
  rw [e]
  exact row_block h
def Spec.xs (l : List Xt) : Spec := ⟨fun v w => Xs w v l, fun _ _ _ h hb => h.later hb⟩
def Spec.one (x : Xt) : Spec := ⟨fun v w => ∃ k, v = .slice (some ⟨k, 0, none⟩) 1 1 ∧ w.heap[k]? = some (.cells (encX x).toArray 40 (0, 0)), fun _ _ _ ⟨k, h1, h2⟩ hb => ⟨k, h1, (hb.block k (lt_of_block h2)).trans h2⟩⟩
/-- An append behind a slice that has no room, in a region that draws. -/
theorem goes_append {A : Act} {op : Oper} {w : World} {x y : Operand} (ho : op.op = .call { callee := .builtin .append, args := #[x, y], argTypes := #[30, 30] }) {p ad : Option Addr} {n m c : Nat} {l r : List Xt} (hx : A.eval x = .slice p n n) (hy : A.eval y = .slice ad m c) (h : Xs w (.slice p n n) l) (hl : l.length = n) (hs : Xs w (.slice ad m c) r) (hr : r.length = m) (hn : n + m ≤ 2000000) :
    GoesTo Try.prog (Spec.xs (l ++ r)).ok w ((execOp A.eval op).run Try.prog w) := by
  subst hl hr
  obtain ⟨v', w', hrun, h1, h2⟩ := run_append_tight op.type h hs (encXs_oneCell r) hn
  have e : (execOp A.eval op).run Try.prog w = .ok (.value v') w' := by
    unfold execOp
    simp only [ho, resolve, invoke, builtin, Sem.run_bind, Sem.run_pure, Result.andThen_ok, List.map_toArray, List.map_cons, List.map_nil, hx, hy, hrun]
  rw [e]
  refine ⟨?_, h2⟩
  show Rw _ _ _ _ _ _
  rw [encXs_append, List.length_append]
  exact h1
set_option maxHeartbeats 8000000 in
set_option maxRecDepth 100000 in
theorem cut_in {w : World} {v : Value} {l : List Xt} (h : Xs w v l) (hr : Ris l) (hs : Sm l) (hn : l.length ≤ 1000000) (a : Nat) (ha : a ≤ 70000) {x : Xt} (hi : l[idx (endsP a) l]? = some x) (hx : ¬ a ≤ x.at_) :
    Calls Try.prog 51 #[v, .int .i64 (a : Nat)] w fun e w' => ∃ v1 v2, e = .returned (.tuple #[v1, v2]) ∧ Xs w' v1 (aheadL l a) ∧ Xs w' v2 (behindL l a) ∧ Below w.heap.size w w' := by
  have hp := idx_le (endsP a) l
  obtain ⟨a0, cap, rfl, hlc, hcm⟩ := h.len
  obtain ⟨w2, hw2⟩ : ∃ w2, w2 = (w.alloc (.cells #[.slice a0 l.length cap] 30)).alloc (.cells #[.int .i64 (a : Nat)] 3) := ⟨_, rfl⟩
  have hb2 : Below w.heap.size w w2 := by
    rw [hw2]
    have B0 := below_alloc w (.cells #[.slice a0 l.length cap] 30)
    exact B0.alloc B0.size _
  have x0 : Box1 w2 w.heap.size (.slice a0 l.length cap) := by rw [hw2]; exact (Box1.first w _ 30).more _
  have x1 : Box1 w2 (w.heap.size + 1) (.int .i64 (a : Nat)) := by rw [hw2, show w.heap.size + 1 = (w.alloc (.cells #[.slice a0 l.length cap] 30)).heap.size by simp]; exact Box1.first _ _ 3
  have h2 := h.later hb2
  have hc1 := search62 (w := w2) (c1 := .pointer (some ⟨w.heap.size, 0, none⟩)) (c2 := .pointer (some ⟨w.heap.size + 1, 0, none⟩)) l.length (idx (endsP a) l) (pI (endsP a) l) hn (idx_le _ _) (fun i hi => pI_no hi) (fun i h1 h2 => pI_yes (endsP_mono a) hr h1 h2)
    (fun i hi w' hb => by
      obtain ⟨x, hx⟩ : ∃ x, l[i]? = some x := ⟨_, List.getElem?_eq_getElem hi⟩
      rw [pI_some hx]
      exact cl62 (h2.later hb) (x0.later hb) (x1.later hb) hx (hs.get hx))
  have K0 : Hid (∀ w3, Below w2.heap.size w2 w3 → w3.cell? ⟨w.heap.size, 0, none⟩ = some (.slice a0 l.length cap)) := fun w3 hb => (x0.later hb).1
  have K1 : Hid (∀ w3, Below w2.heap.size w2 w3 → w3.cell? ⟨w.heap.size + 1, 0, none⟩ = some (.int .i64 (a : Nat))) := fun w3 hb => (x1.later hb).1
  have e0 := K0.out w2 (Below.refl _ _)
  have HL : Hid (∀ w3 : World, w2.heap.size ≤ w3.heap.size → w.heap.size < w3.heap.size) := fun w3 h => Nat.lt_of_lt_of_le x0.2 h
  have HL1 : Hid (∀ w3 : World, w2.heap.size ≤ w3.heap.size → w.heap.size + 1 < w3.heap.size) := fun w3 h => Nat.lt_of_lt_of_le x1.2 h
  have HB := hide hb2
  have HW := hide hw2
  obtain ⟨c1, c2⟩ := cut_part hi hx
  have hil := (List.getElem?_eq_some_iff.1 hi).1
  obtain ⟨p1, hp1, hp2, _⟩ := Xs.slu3 h (hi := idx (endsP a) l) hp hlc
  obtain ⟨q1, hq1, hq2, _⟩ := Xs.slf h (lo := idx (endsP a) l + 1) (by omega) hlc
  have hfin : a < x.fin := by
    have := pI_yes (endsP_mono a) hr (Nat.le_refl _) hil
    rw [pI_some hi] at this
    unfold endsP at this
    simpa using this
  obtain ⟨s1, s2, s3⟩ := hs.get hi
  obtain ⟨d, hd⟩ : ∃ d, x.at_ + d = a := ⟨a - x.at_, by omega⟩
  obtain ⟨f, hf⟩ : ∃ f, a + f = x.at_ + x.len := ⟨x.at_ + x.len - a, by unfold Xt.fin at hfin; omega⟩
  have hF : x.front a = ⟨x.at_, d, x.seq, x.to⟩ := by unfold Xt.front; rw [show a - x.at_ = d by omega]
  have hR : x.rear a = ⟨a, f, x.seq, x.to + d⟩ := by unfold Xt.rear; rw [show a - x.at_ = d by omega, show x.fin - a = f by unfold Xt.fin; omega]
  rw [hF] at c1
  rw [hR] at c2
  obtain ⟨_, hat⟩ := h.at
  obtain ⟨g, off, rfl, hX⟩ := hat _ x hi
  have HX := hide hX
  have HP := hide hp2
  have HQ := hide hq2
  have HLT : Hid ((l.take (idx (endsP a) l)).length = idx (endsP a) l) := by show _ = _; rw [List.length_take]; omega
  have HLD : Hid ((l.drop (idx (endsP a) l + 1)).length = l.length - (idx (endsP a) l + 1)) := List.length_drop
  have HC1 := hide c1
  have HC2 := hide c2
  obtain ⟨xa, xl, xq, xt⟩ := x
  unfold Xt.fin at *
  simp only at *
  have HP1 : Hid (∀ w', _) := fun w' => part_any xa xl xq xt xa (d : Nat) ⟨by omega, by omega⟩ ⟨by omega, by omega⟩ w'
  have HP2 : Hid (∀ w', _) := fun w' => part_any xa xl xq xt (a : Nat) (f : Nat) ⟨by omega, by omega⟩ ⟨by omega, by omega⟩ w'
  have HE : Hid (∀ w', _) := fun w' => end_any xa xl ⟨by omega, by omega⟩ w'
  have q1' : ((a : Nat) : Int) - (xa : Int) = (d : Nat) := by omega
  have q2 : ((xt : Nat) : Int) + (xa : Int) - (xa : Int) = (xt : Nat) := by omega
  have q3 : ((xt : Nat) : Int) + (a : Int) - (xa : Int) = ((xt + d : Nat) : Int) := by omega
  have q4 : ((xa : Nat) : Int) + (xl : Int) = ((xa + xl : Nat) : Int) := by omega
  have q5 : ((xa : Nat) : Int) + (xl : Int) - (a : Int) = (f : Nat) := by omega
  rw [q2] at HP1
  rw [q3] at HP2
  clear q4
  have q6 : IntKind.i64.wrap (f : Int) = (f : Int) := by rw [IntKind.wrap_i64]; omega
  generalize aheadL l a = A at *
  generalize behindL l a = B at *
  clear hi hat c1 c2 hF hR
  generalize l.take (idx (endsP a) l) = LT at *
  generalize l.drop (idx (endsP a) l + 1) = LD at *
  generalize idx (endsP a) l = I at *
  generalize l.length = n at *
  have hIn : ((I : Int) == (n : Int)) = false := by simp; omega
  have hax : decide ((a : Int) ≤ (xa : Int)) = false := by simp; omega
  rw [hw2] at hc1 e0
  clear hw2 h h2 hs hr x0 x1 hb2 hp2 hq2 hX
  go_enter Try.func51, Try.ntmps51
  go_wp2_with fail
  refine hc1.mono ?_
  rw [← HW.out]
  rintro e w3 ⟨rfl, hb3⟩
  have f0 := K0.out w3 hb3
  have f1 := K1.out w3 hb3
  have HB3 := hide (HB.out.trans (hb3.mono HB.out.size))
  have HS3 := hide hb3.size
  have k0 : ∀ P : Later w3, P.val.cell? ⟨w.heap.size, 0, none⟩ = some (.slice (some ⟨g, off, none⟩) n cap) := fun P => (P.below.cell (p := ⟨w.heap.size, 0, none⟩) (HL.out w3 (HS3.out))).trans f0
  have k1 : ∀ P : Later w3, P.val.cell? ⟨w.heap.size + 1, 0, none⟩ = some (.int .i64 (a : Nat)) := fun P => (P.below.cell (p := ⟨w.heap.size + 1, 0, none⟩) (HL1.out w3 (HS3.out))).trans f1
  have k2 : ∀ P : Later w3, P.val.cell? ⟨g, off + I * 4, none⟩ = some (.int .i64 (xa : Nat)) := fun P => ((HX.out.later HB3.out).later P.below).c0
  have hne := later_ne w3
  clear hc1 hb3 e0 f0 f1
  go_wp2
  refine wp_region_later (by kernel_rfl) (by kernel_rfl) ?_
  (repeat (first | go_big_quiet_skip | (go_big_quiet_want; go_big_quiet_op; go_big_quiet_on)))
  refine wpQuiet_nil ?_
  rintro _ ⟨P, rfl⟩
  have HB4 := hide (HB3.out.trans (P.below.mono HB3.out.size))
  have HL4 : Hid (w.heap.size < P.val.heap.size ∧ w.heap.size + 1 < P.val.heap.size) := ⟨HL.out _ (Nat.le_trans HS3.out P.below.size), HL1.out _ (Nat.le_trans HS3.out P.below.size)⟩
  replace k0 := k0 P
  replace k1 := k1 P
  generalize P.val = w4 at *
  clear hne HS3 k2
  obtain ⟨m0, m1, m2, m3, _, _⟩ := HX.out.later HB4.out
  have KL : Hid (∀ w', Below w4.heap.size w4 w' → w'.cell? ⟨w.heap.size, 0, none⟩ = some (.slice (some ⟨g, off, none⟩) n cap)) := fun w' hb => (hb.cell (p := ⟨w.heap.size, 0, none⟩) HL4.out.1).trans k0
  have KA : Hid (∀ w', Below w4.heap.size w4 w' → w'.cell? ⟨w.heap.size + 1, 0, none⟩ = some (.int .i64 (a : Nat))) := fun w' hb => (hb.cell (p := ⟨w.heap.size + 1, 0, none⟩) HL4.out.2).trans k1
  have n1 := KA.out (w4.alloc (.cells #[.int .i64 (xa : Nat), .int .i64 (xl : Nat), .int .i64 (xq : Nat), .int .i64 (xt : Nat)] 40)) (below_alloc _ _)
  have hc2 := HP1.out (w4.alloc (.cells #[.int .i64 (xa : Nat), .int .i64 (xl : Nat), .int .i64 (xq : Nat), .int .i64 (xt : Nat)] 40))
  go_wp2_with fail
  refine hc2.mono ?_
  rintro e w5 ⟨rfl, hb5⟩
  obtain ⟨W, hW⟩ : ∃ W, W = w5.alloc (.cells #[.int .i64 (xa : Nat), .int .i64 (d : Nat), .int .i64 (xq : Nat), .int .i64 (xt : Nat)] 40) := ⟨_, rfl⟩
  have hb5W : Below w5.heap.size w5 W := by rw [hW]; exact below_alloc _ _
  have hb45 : Below w4.heap.size w4 w5 := (below_alloc w4 (.cells #[.int .i64 (xa : Nat), .int .i64 (xl : Nat), .int .i64 (xq : Nat), .int .i64 (xt : Nat)] 40)).trans (hb5.mono (below_alloc w4 (.cells #[.int .i64 (xa : Nat), .int .i64 (xl : Nat), .int .i64 (xq : Nat), .int .i64 (xt : Nat)] 40)).size)
  have hb4W : Below w4.heap.size w4 W := hb45.trans (hb5W.mono hb45.size)
  have X7 : XCell W w4.heap.size 0 ⟨xa, xl, xq, xt⟩ := ((new_x w4 ⟨xa, xl, xq, xt⟩ 40).later hb5).later hb5W
  have X8 : XCell W w5.heap.size 0 ⟨xa, d, xq, xt⟩ := by rw [hW]; exact new_x w5 ⟨xa, d, xq, xt⟩ 40
  have HBW := hide (HB4.out.trans (hb4W.mono HB4.out.size))
  have KL6 : Hid (∀ w', Below W.heap.size W w' → w'.cell? ⟨w.heap.size, 0, none⟩ = some (.slice (some ⟨g, off, none⟩) n cap)) := fun w' hb => KL.out w' (hb4W.trans (hb.mono hb4W.size))
  have KA6 : Hid (∀ w', Below W.heap.size W w' → w'.cell? ⟨w.heap.size + 1, 0, none⟩ = some (.int .i64 (a : Nat))) := fun w' hb => KA.out w' (hb4W.trans (hb.mono hb4W.size))
  have H7 := hide X7
  have H8 := hide X8
  have HWE := hide hW
  have HSZ := hide hb4W.size
  generalize w4.heap.size = b7 at *
  have HLT6 : Hid (b7 < W.heap.size ∧ w.heap.size < W.heap.size ∧ w.heap.size + 1 < W.heap.size) := ⟨X7.lt, Nat.lt_of_lt_of_le HL4.out.1 HSZ.out, Nat.lt_of_lt_of_le HL4.out.2 HSZ.out⟩
  obtain ⟨t7, tw, tw1⟩ := HLT6.out
  obtain ⟨y0, y1, y2, y3, _, _⟩ := X7
  have y4 := KA6.out W (Below.refl _ _)
  clear hc2 n1 k0 k1 m0 m1 m2 m3 hb5 hb45 hb5W hb4W X8 KL KA hW
  go_wp2_with fail
  rw [← HWE.out]
  generalize w5.heap.size = b8 at *
  refine wp_region_specs_last (n := 10) [.val (.agg #[.int .i64 (xa : Nat), .int .i64 (xl : Nat), .int .i64 (xq : Nat), .int .i64 (xt : Nat)]), .val (.int .i64 (a : Nat)), .val (.pointer (some ⟨b7, 0, none⟩)), .val (.agg #[.int .i64 (xa : Nat), .int .i64 (xl : Nat)]), .val (.int .i64 ((xa : Int) + (xl : Int))), .val (.int .i64 (a : Nat)), .val (.int .i64 (f : Nat)), .val (.agg #[.int .i64 (a : Nat), .int .i64 (f : Nat)]), .val (.agg #[.int .i64 (a : Nat), .int .i64 (f : Nat), .int .i64 (xq : Nat), .int .i64 ((xt + d : Nat) : Int)]), Spec.blk W (.cells #[.int .i64 0, .int .i64 0, .int .i64 0, .int .i64 0] 40 (0, 0))] (by kernel_rfl) (by kernel_rfl) (by kernel_rfl) rfl rfl (by kernel_rfl) ?_ ?_
  · simp only [List.take]
    refine ⟨?_, ?_⟩
    · intro A w1 hb ho hd
      have e7 : A.tmps[7]?.getD undef = .pointer (some ⟨b7, 0, none⟩) := olds_get ho 7 (by kernel_rfl)
      have y := H7.out.later hb
      obtain ⟨y0, y1, y2, y3, _, _⟩ := y
      refine ⟨rfl, goes_value (v := .agg #[.int .i64 (xa : Nat), .int .i64 (xl : Nat), .int .i64 (xq : Nat), .int .i64 (xt : Nat)]) ?_ rfl⟩
      simp [go_sem, e7, y0, y1, y2, y3]
    refine ⟨?_, ?_⟩
    · intro A w1 hb ho hd
      have e3 : A.tmps[3]?.getD undef = .pointer (some ⟨w.heap.size + 1, 0, none⟩) := olds_get ho 3 (by kernel_rfl)
      have y4 := KA6.out w1 hb
      refine ⟨rfl, goes_value (v := .int .i64 (a : Nat)) ?_ rfl⟩
      simp [go_sem, e3, y4]
    refine ⟨?_, ?_⟩
    · intro A w1 hb ho hd
      have e7 : A.tmps[7]?.getD undef = .pointer (some ⟨b7, 0, none⟩) := olds_get ho 7 (by kernel_rfl)
      refine ⟨rfl, goes_value (v := .pointer (some ⟨b7, 0, none⟩)) ?_ rfl⟩
      simp [go_sem, e7]
    refine ⟨?_, ?_⟩
    · intro A w1 hb ho hd
      have e52 : A.tmps[52]?.getD undef = .pointer (some ⟨b7, 0, none⟩) := getq (hd _ (Array.mem_of_getElem? (i := 0) rfl) rfl _ _ rfl rfl)
      have y := H7.out.later hb
      obtain ⟨y0, y1, y2, y3, _, _⟩ := y
      refine ⟨rfl, goes_value (v := .agg #[.int .i64 (xa : Nat), .int .i64 (xl : Nat)]) ?_ rfl⟩
      simp [go_sem, e52, y0, y1]
    refine ⟨?_, ?_⟩
    · intro A w1 hb ho hd
      have e53 : A.tmps[53]?.getD undef = .agg #[.int .i64 (xa : Nat), .int .i64 (xl : Nat)] := getq (hd _ (Array.mem_of_getElem? (i := 0) rfl) rfl _ _ rfl rfl)
      refine ⟨rfl, goes_call (f := 43) (args := #[.agg #[.int .i64 (xa : Nat), .int .i64 (xl : Nat)]]) ?_ (HE.out w1)⟩
      simp [go_sem, e53]
    refine ⟨?_, ?_⟩
    · intro A w1 hb ho hd
      have e3 : A.tmps[3]?.getD undef = .pointer (some ⟨w.heap.size + 1, 0, none⟩) := olds_get ho 3 (by kernel_rfl)
      have y4 := KA6.out w1 hb
      refine ⟨rfl, goes_value (v := .int .i64 (a : Nat)) ?_ rfl⟩
      simp [go_sem, e3, y4]
    refine ⟨?_, ?_⟩
    · intro A w1 hb ho hd
      have e54 : A.tmps[54]?.getD undef = .int .i64 ((xa : Int) + (xl : Int)) := getq (hd _ (Array.mem_of_getElem? (i := 0) rfl) rfl _ _ rfl rfl)
      have e55 : A.tmps[55]?.getD undef = .int .i64 (a : Nat) := getq (hd _ (Array.mem_of_getElem? (i := 1) rfl) rfl _ _ rfl rfl)
      refine ⟨rfl, goes_value (v := .int .i64 (f : Nat)) ?_ rfl⟩
      simp [go_sem, e54, e55, q5, q6]
    refine ⟨?_, ?_⟩
    · intro A w1 hb ho hd
      have e51 : A.tmps[51]?.getD undef = .int .i64 (a : Nat) := getq (hd _ (Array.mem_of_getElem? (i := 0) rfl) rfl _ _ rfl rfl)
      have e56 : A.tmps[56]?.getD undef = .int .i64 (f : Nat) := getq (hd _ (Array.mem_of_getElem? (i := 1) rfl) rfl _ _ rfl rfl)
      refine ⟨rfl, goes_value (v := .agg #[.int .i64 (a : Nat), .int .i64 (f : Nat)]) ?_ rfl⟩
      simp [go_sem, e51, e56]
    refine ⟨?_, ?_⟩
    · intro A w1 hb ho hd
      have e50 : A.tmps[50]?.getD undef = .agg #[.int .i64 (xa : Nat), .int .i64 (xl : Nat), .int .i64 (xq : Nat), .int .i64 (xt : Nat)] := getq (hd _ (Array.mem_of_getElem? (i := 0) rfl) rfl _ _ rfl rfl)
      have e57 : A.tmps[57]?.getD undef = .agg #[.int .i64 (a : Nat), .int .i64 (f : Nat)] := getq (hd _ (Array.mem_of_getElem? (i := 1) rfl) rfl _ _ rfl rfl)
      refine ⟨rfl, goes_call (f := 48) (args := #[.agg #[.int .i64 (xa : Nat), .int .i64 (xl : Nat), .int .i64 (xq : Nat), .int .i64 (xt : Nat)], .agg #[.int .i64 (a : Nat), .int .i64 (f : Nat)]]) ?_ (HP2.out w1)⟩
      simp [go_sem, e50, e57]
    refine ⟨?_, ?_⟩
    · intro A w1 hb ho hd
      refine ⟨rfl, goes_alloc (v := .pointer (some ⟨w1.heap.size, 0, none⟩)) (o := .cells #[.int .i64 0, .int .i64 0, .int .i64 0, .int .i64 0] 40) ?_ ⟨_, rfl, heap_alloc_new _ _, hb.size⟩⟩
      simp [go_sem]
    trivial
  intro A w9 hb9 hdf hsz hol hft
  have g50 := hft 0 _ 50 (by omega) rfl rfl
  have g51 := hft 1 _ 51 (by omega) rfl rfl
  have g52 := hft 2 _ 52 (by omega) rfl rfl
  have g53 := hft 3 _ 53 (by omega) rfl rfl
  have g54 := hft 4 _ 54 (by omega) rfl rfl
  have g55 := hft 5 _ 55 (by omega) rfl rfl
  have g56 := hft 6 _ 56 (by omega) rfl rfl
  have g57 := hft 7 _ 57 (by omega) rfl rfl
  have g58 := hft 8 _ 58 (by omega) rfl rfl
  obtain ⟨k9, g9, hk9, hW9⟩ := hft 9 _ 9 (by omega) rfl rfl
  obtain ⟨w10, hst, hk10, hkp⟩ := exec_store (A := A) (x := .tmp 9) (y := .tmp 58) (X := ⟨a, f, xq, xt + d⟩) g9 g58 hk9 rfl
  have HB10 : Hid (Below W.heap.size W w10) := hb9.trans (hkp.below hb9.size fun k hk e => by subst e; omega)
  have X9 := cell_block hk10
  have X8 := H8.out.later HB10.out
  have HBW2 := hide (HBW.out.trans (HB10.out.mono HBW.out.size))
  rename_i KK hKK
  refine ⟨_, hst _ rfl, hKK _ _ ?_⟩
  show Code.wp _ _ _ A w10
  rw [frame_puts hdf hsz hol]
  simp only [List.foldl_cons, List.foldl_nil, Act.put, Option.getD_some, g9, List.setIfInBounds_toArray, List.set_cons_succ, List.set_cons_zero]
  clear g50 g51 g52 g53 g54 g55 g56 g57 g58 g9 hft hol hsz hdf hKK hst hkp hb9 hk9 hk10
  have hq1' : ∀ w', (Instr.slice 30 (.slice (some ⟨g, off, none⟩) n cap) (some (.int .i64 ((I : Int) + 1))) none none).run Try.prog w' = .ok (.slice q1 (n - (I + 1)) (cap - (I + 1))) w' := fun w' => by
    have := hq1 w'
    rwa [Int.natCast_add] at this
  replace hq1 := hq1'
  clear hq1'
  have q7 : IntKind.i64.wrap ((I : Int) + 1) = (I : Int) + 1 := by rw [IntKind.wrap_i64]; omega
  go_wp2_with fail
  refine wp_region_specs [.val (.slice (some ⟨g, off, none⟩) n cap), .val (.int .i64 (I : Nat)), .val (.int .i64 (I : Nat)), .val (.slice p1 I I), .val (.agg #[.int .i64 (xa : Nat), .int .i64 (d : Nat), .int .i64 (xq : Nat), .int .i64 (xt : Nat)]), Spec.one ⟨xa, d, xq, xt⟩, Spec.xs (LT ++ [⟨xa, d, xq, xt⟩]), .val (.agg #[.int .i64 (a : Nat), .int .i64 (f : Nat), .int .i64 (xq : Nat), .int .i64 ((xt + d : Nat) : Int)]), Spec.one ⟨a, f, xq, xt + d⟩, .val (.slice (some ⟨g, off, none⟩) n cap), .val (.int .i64 (I : Nat)), .val (.int .i64 ((I : Int) + 1)), .val (.slice q1 (n - (I + 1)) (cap - (I + 1))), Spec.xs ([⟨a, f, xq, xt + d⟩] ++ LD), Spec.xs (LT ++ [⟨xa, d, xq, xt⟩]), Spec.xs ([⟨a, f, xq, xt + d⟩] ++ LD)] (by kernel_rfl) (by kernel_rfl) ?_ ?_
  · skip
    refine ⟨?_, ?_⟩
    · intro A w1 hb ho hd
      have e2 : A.tmps[2]?.getD undef = .pointer (some ⟨w.heap.size, 0, none⟩) := olds_get ho 2 (by kernel_rfl)
      have y5 := KL6.out w1 (HB10.out.trans (hb.mono HB10.out.size))
      refine ⟨rfl, goes_value (v := .slice (some ⟨g, off, none⟩) n cap) ?_ rfl⟩
      simp [go_sem, e2, y5]
    refine ⟨?_, ?_⟩
    · intro A w1 hb ho hd
      have e6 : A.tmps[6]?.getD undef = .int .i64 (I : Nat) := olds_get ho 6 (by kernel_rfl)
      refine ⟨rfl, goes_value (v := .int .i64 (I : Nat)) ?_ rfl⟩
      simp [go_sem, e6]
    refine ⟨?_, ?_⟩
    · intro A w1 hb ho hd
      have e6 : A.tmps[6]?.getD undef = .int .i64 (I : Nat) := olds_get ho 6 (by kernel_rfl)
      refine ⟨rfl, goes_value (v := .int .i64 (I : Nat)) ?_ rfl⟩
      simp [go_sem, e6]
    refine ⟨?_, ?_⟩
    · intro A w1 hb ho hd
      have e59 : A.tmps[59]?.getD undef = .slice (some ⟨g, off, none⟩) n cap := getq (hd _ (Array.mem_of_getElem? (i := 0) rfl) rfl _ _ rfl rfl)
      have e60 : A.tmps[60]?.getD undef = .int .i64 (I : Nat) := getq (hd _ (Array.mem_of_getElem? (i := 1) rfl) rfl _ _ rfl rfl)
      have e61 : A.tmps[61]?.getD undef = .int .i64 (I : Nat) := getq (hd _ (Array.mem_of_getElem? (i := 2) rfl) rfl _ _ rfl rfl)
      refine ⟨rfl, goes_value (v := .slice p1 I I) ?_ rfl⟩
      simp [go_sem, e59, e60, e61, hp1]
    refine ⟨?_, ?_⟩
    · intro A w1 hb ho hd
      have e8 : A.tmps[8]?.getD undef = .pointer (some ⟨b8, 0, none⟩) := olds_get ho 8 (by kernel_rfl)
      have y := X8.later hb
      obtain ⟨y0, y1, y2, y3, _, _⟩ := y
      refine ⟨rfl, goes_value (v := .agg #[.int .i64 (xa : Nat), .int .i64 (d : Nat), .int .i64 (xq : Nat), .int .i64 (xt : Nat)]) ?_ rfl⟩
      simp [go_sem, e8, y0, y1, y2, y3]
    refine ⟨?_, ?_⟩
    · intro A w1 hb ho hd
      have e63 : A.tmps[63]?.getD undef = .agg #[.int .i64 (xa : Nat), .int .i64 (d : Nat), .int .i64 (xq : Nat), .int .i64 (xt : Nat)] := getq (hd _ (Array.mem_of_getElem? (i := 0) rfl) rfl _ _ rfl rfl)
      refine ⟨rfl, goes_alloc (v := .slice (some ⟨w1.heap.size, 0, none⟩) 1 1) (o := .cells (encX ⟨xa, d, xq, xt⟩).toArray 40) ?_ ⟨_, rfl, heap_alloc_new _ _⟩⟩
      simp [go_sem, e63]
      try rfl
    refine ⟨?_, ?_⟩
    · intro A w1 hb ho hd
      have e62 : A.tmps[62]?.getD undef = .slice p1 I I := getq (hd _ (Array.mem_of_getElem? (i := 0) rfl) rfl _ _ rfl rfl)
      obtain ⟨k64, ev64, hk64⟩ := hd _ (Array.mem_of_getElem? (i := 1) rfl) rfl _ _ rfl rfl
      have e64 := getq ev64
      have hww := HBW2.out.trans (hb.mono HBW2.out.size)
      exact ⟨rfl, goes_append (x := .tmp 62) (y := .tmp 64) rfl (by simp [Act.eval, e62]) (by simp [Act.eval, e64]) (HP.out.later hww) HLT.out (one_xs hk64) rfl (by omega)⟩
    refine ⟨?_, ?_⟩
    · intro A w1 hb ho hd
      have e9 : A.tmps[9]?.getD undef = .pointer (some ⟨k9, 0, none⟩) := olds_get ho 9 (by kernel_rfl)
      have y := X9.later hb
      obtain ⟨y0, y1, y2, y3, _, _⟩ := y
      refine ⟨rfl, goes_value (v := .agg #[.int .i64 (a : Nat), .int .i64 (f : Nat), .int .i64 (xq : Nat), .int .i64 ((xt + d : Nat) : Int)]) ?_ rfl⟩
      simp [go_sem, e9, y0, y1, y2, y3]
    refine ⟨?_, ?_⟩
    · intro A w1 hb ho hd
      have e66 : A.tmps[66]?.getD undef = .agg #[.int .i64 (a : Nat), .int .i64 (f : Nat), .int .i64 (xq : Nat), .int .i64 ((xt + d : Nat) : Int)] := getq (hd _ (Array.mem_of_getElem? (i := 0) rfl) rfl _ _ rfl rfl)
      refine ⟨rfl, goes_alloc (v := .slice (some ⟨w1.heap.size, 0, none⟩) 1 1) (o := .cells (encX ⟨a, f, xq, xt + d⟩).toArray 40) ?_ ⟨_, rfl, heap_alloc_new _ _⟩⟩
      simp [go_sem, e66]
      try rfl
    refine ⟨?_, ?_⟩
    · intro A w1 hb ho hd
      have e2 : A.tmps[2]?.getD undef = .pointer (some ⟨w.heap.size, 0, none⟩) := olds_get ho 2 (by kernel_rfl)
      have y5 := KL6.out w1 (HB10.out.trans (hb.mono HB10.out.size))
      refine ⟨rfl, goes_value (v := .slice (some ⟨g, off, none⟩) n cap) ?_ rfl⟩
      simp [go_sem, e2, y5]
    refine ⟨?_, ?_⟩
    · intro A w1 hb ho hd
      have e6 : A.tmps[6]?.getD undef = .int .i64 (I : Nat) := olds_get ho 6 (by kernel_rfl)
      refine ⟨rfl, goes_value (v := .int .i64 (I : Nat)) ?_ rfl⟩
      simp [go_sem, e6]
    refine ⟨?_, ?_⟩
    · intro A w1 hb ho hd
      have e69 : A.tmps[69]?.getD undef = .int .i64 (I : Nat) := getq (hd _ (Array.mem_of_getElem? (i := 0) rfl) rfl _ _ rfl rfl)
      refine ⟨rfl, goes_value (v := .int .i64 ((I : Int) + 1)) ?_ rfl⟩
      simp [go_sem, e69, q7]
    refine ⟨?_, ?_⟩
    · intro A w1 hb ho hd
      have e68 : A.tmps[68]?.getD undef = .slice (some ⟨g, off, none⟩) n cap := getq (hd _ (Array.mem_of_getElem? (i := 0) rfl) rfl _ _ rfl rfl)
      have e70 : A.tmps[70]?.getD undef = .int .i64 ((I : Int) + 1) := getq (hd _ (Array.mem_of_getElem? (i := 1) rfl) rfl _ _ rfl rfl)
      refine ⟨rfl, goes_value (v := .slice q1 (n - (I + 1)) (cap - (I + 1))) ?_ rfl⟩
      simp [go_sem, e68, e70, hq1]
    refine ⟨?_, ?_⟩
    · intro A w1 hb ho hd
      obtain ⟨k67, ev67, hk67⟩ := hd _ (Array.mem_of_getElem? (i := 0) rfl) rfl _ _ rfl rfl
      have e67 := getq ev67
      have e71 : A.tmps[71]?.getD undef = .slice q1 (n - (I + 1)) (cap - (I + 1)) := getq (hd _ (Array.mem_of_getElem? (i := 1) rfl) rfl _ _ rfl rfl)
      have hww := HBW2.out.trans (hb.mono HBW2.out.size)
      exact ⟨rfl, goes_append (x := .tmp 67) (y := .tmp 71) rfl (by simp [Act.eval, e67]) (by simp [Act.eval, e71]) (one_xs hk67) rfl (HQ.out.later hww) HLD.out (by omega)⟩
    refine ⟨?_, ?_⟩
    · intro A w1 hb ho hd
      obtain S65 := hd _ (Array.mem_of_getElem? (i := 0) rfl) rfl _ _ rfl rfl
      have e65 := getq (A := A) (d := 65) rfl
      refine ⟨rfl, goes_value (v := A.tmps.getD 65 undef) ?_ S65⟩
      simp [go_sem]
    refine ⟨?_, ?_⟩
    · intro A w1 hb ho hd
      obtain S72 := hd _ (Array.mem_of_getElem? (i := 0) rfl) rfl _ _ rfl rfl
      have e72 := getq (A := A) (d := 72) rfl
      refine ⟨rfl, goes_value (v := A.tmps.getD 72 undef) ?_ S72⟩
      simp [go_sem]
    trivial
  intro A2 w11 hb11 hdf hsz hol hft
  have m59 := hft 0 _ 59 rfl rfl
  have m60 := hft 1 _ 60 rfl rfl
  have m61 := hft 2 _ 61 rfl rfl
  have m62 := hft 3 _ 62 rfl rfl
  have m63 := hft 4 _ 63 rfl rfl
  have m66 := hft 7 _ 66 rfl rfl
  have m68 := hft 9 _ 68 rfl rfl
  have m69 := hft 10 _ 69 rfl rfl
  have m70 := hft 11 _ 70 rfl rfl
  have m71 := hft 12 _ 71 rfl rfl
  have M4 := hft 14 _ 4 rfl rfl
  have M5 := hft 15 _ 5 rfl rfl
  have HB11 := hide (HBW2.out.trans (hb11.mono HBW2.out.size))
  rename_i KK2 hKK2
  refine hKK2 _ _ ?_
  show Code.wp _ _ _ A2 w11
  rw [frame_puts hdf hsz hol]
  simp only [List.foldl_cons, List.foldl_nil, Act.put, Option.getD_some, List.setIfInBounds_toArray, List.set_cons_succ, List.set_cons_zero]
  clear m59 m60 m61 m62 m63 m66 m68 m69 m70 m71 hft hol hsz hdf hKK2
  have X4 : Hid (Xs w11 (A2.tmps.getD 4 undef) (LT ++ [⟨xa, d, xq, xt⟩])) := M4
  have X5 : Hid (Xs w11 (A2.tmps.getD 5 undef) ([⟨a, f, xq, xt + d⟩] ++ LD)) := M5
  clear M4 M5
  generalize A2.tmps.getD 4 undef = r4 at *
  generalize A2.tmps.getD 5 undef = r5 at *
  go_wp2
  go_ret2
  exact ⟨r4, r5, rfl, by rw [HC1.out]; exact X4.out, by rw [HC2.out]; exact X5.out, HB11.out⟩
theorem cut_any {w : World} {v : Value} {l : List Xt} (h : Xs w v l) (hr : Ris l) (hs : Sm l) (hn : l.length ≤ 1000000) (a : Nat) (ha : a ≤ 70000) :
    Calls Try.prog 51 #[v, .int .i64 (a : Nat)] w fun e w' => ∃ v1 v2, e = .returned (.tuple #[v1, v2]) ∧ Xs w' v1 (aheadL l a) ∧ Xs w' v2 (behindL l a) ∧ Below w.heap.size w w' := by
  have hp := idx_le (endsP a) l
  by_cases hi : idx (endsP a) l = l.length
  · exact cut_end h hr hs hn a ha hi
  · obtain ⟨x, hx⟩ : ∃ x, l[idx (endsP a) l]? = some x := ⟨_, List.getElem?_eq_getElem (by omega)⟩
    by_cases hxa : a ≤ x.at_
    · exact cut_at h hr hs hn a ha hx hxa
    · exact cut_in h hr hs hn a ha hx hxa

end Wi
end Go.Proofs.Ytjbgojccfkmlnaa
