/- Rows as the document has them. -/
import Derived.Test.YtgdfmoehbgmfkaaLi
import Derived.Test.YtgdfmoehbgmfkaaSx
namespace Go.Proofs.Ytgdfmoehbgmfkaa
open Go.RowKit
namespace Li
open Wi
theorem wpList_opW {P : Program} {ops : Array Oper} {Q : Exit → Act → World → Prop} {o : Oper} {rest : List Oper} {a : Act} {w w' : World} (dst : Option Nat) (v : Value) (hd : o.dst = dst) (hg : o.guard = none) (hy : (execOp a.eval o).run P w = .ok (.value v) w') (h : wpList P ops Q rest (a.put dst v) w') : wpList P ops Q (o :: rest) a w := by
  subst hd
  refine wpList_plain hg fun K hK => ?_
  unfold Oper.wp
  rw [hy]
  exact hK _ _ h
theorem info35 : (Try.prog.info? 35).map (fun i => (i.zero, i.size, i.bytes)) = some (some (.agg #[.int .i64 0, .int .i64 0, .int .i64 0]), 3, 24) := by kernel_rfl
set_option maxHeartbeats 8000000 in
set_option maxRecDepth 100000 in
/-- Rows as the document's answer has them. -/
theorem plain_any {w : World} {a : Option Addr} {n cap : Nat} {xs : List Ro} (hE : Er w a n xs) (hn : n ≤ 1000000) : Calls Try.prog 22 #[.slice a n cap] w fun e w' => ∃ v, e = .returned v ∧ w'.ownsRow w.heap.size 35 3 v n (rcs xs) ∧ Below w.heap.size w w' := by
  have HE := hide hE
  have HL := hide hE.len
  obtain ⟨i0, hi, hz0, hz1, hz2⟩ := info_parts info35
  have HR0 : Hid (w.ownsRow w.heap.size 35 3 (.slice none 0 0) 0 (rcs (xs.take 0))) := World.ownsRow_nil _ _ _ _
  clear hE
  go_enter Try.func22, Try.ntmps22
  go_wp2
  go_loopw [3, 4] (fun c i wr => ∃ k : Nat, k ≤ n ∧ i = .int .i64 k ∧ wr.ownsRow w.heap.size 35 3 c k (rcs (xs.take k)) ∧ Below w.heap.size w wr) (fun _ i _ => n - (intOf i).toNat)
  case atStart => exact ⟨0, Nat.zero_le _, rfl, HR0.out, Below.refl _ _⟩
  case round =>
    obtain ⟨k, hk, rfl, hrow, hb⟩ := hrel
    by_cases hlt : k < n
    · obtain ⟨x, hx⟩ : ∃ x, xs[k]? = some x := ⟨_, List.getElem?_eq_getElem (by have := HL.out; omega)⟩
      obtain ⟨g, off, rfl, hg, c0, c1, c2⟩ := (HE.out.later hb).cells k x hx
      have HX := hide (snoc_take _ _ _ hx)
      obtain ⟨x1, x2, x3⟩ := x
      simp only at *
      obtain ⟨a3, cap3, hv3⟩ := row_slice (own_base hrow (Nat.zero_le _))
      have HROW := hide hrow
      have HB := hide hb
      have X0 : ∀ P : Later wr, P.val.cell? ⟨g, off + k * 3, none⟩ = some (.int .i64 x1) := fun P => (P.below.cell (p := ⟨g, _, none⟩) hg).trans c0
      have X1 : ∀ P : Later wr, P.val.cell? ⟨g, off + k * 3 + 1, none⟩ = some (.int .i64 x2) := fun P => (P.below.cell (p := ⟨g, _, none⟩) hg).trans c1
      have X2 : ∀ P : Later wr, P.val.cell? ⟨g, off + k * 3 + 2, none⟩ = some (.int .i64 x3) := fun P => (P.below.cell (p := ⟨g, _, none⟩) hg).trans c2
      have hne := later_ne wr
      clear hx hb hrow c0 c1 c2
      subst hv3
      go_wp2
      refine wp_region_any (by kernel_rfl) ?_
      change wpAny _ _ _ _ _ _ _ (World.drew _)
      refine takeX (i := 0) (some 11) (.slice a3 k cap3) rfl (by kernel_rfl) (by kernel_rfl) (by kernel_rfl) rfl rfl (by intro w; first | rfl | go_simp) (fun _ _ _ h => h) ?_
      simp only [Act.put, List.setIfInBounds_toArray, List.set_cons_zero, List.set_cons_succ]
      refine wpAny_skipF (C := fun w' => ∃ p : Later wr, w' = p.val) 17 [0] [1, 2, 3, 4, 5, 6, 7, 8, 9, 10, 11, 12, 13, 14, 15, 16] [17, 18, 19] (by kernel_rfl) rfl (by kernel_rfl) (by kernel_rfl) ⟨⟨World.drew wr, (Below.refl _ _).drew⟩, rfl⟩ ?_
      simp only [List.filterMap_cons, List.filterMap_nil, List.getElem?_toArray, List.getElem?_cons_succ, List.getElem?_cons_zero]
      change wpQuiet _ _ _ _ [_, _, _, _, _, _, _, _, _, _, _, _, _, _, _, _] _
      (repeat (first | go_big_quiet_skip | (go_big_quiet_want; go_big_quiet_op; go_big_quiet_on)))
      refine wpQuiet_nil ?_
      rintro _ ⟨P, rfl⟩
      have HB2 := hide (HB.out.trans (P.below.mono HB.out.size))
      have hrow2 := HROW.out
      have hrowP : P.val.ownsRow w.heap.size 35 3 (.slice a3 k cap3) k (rcs (xs.take k)) := by
        rcases hrow2.2 with ⟨h1, h2⟩ | ⟨g2, cap2, cur, h1, h2, h3, h4⟩
        · exact ⟨hrow2.1, .inl ⟨h1, h2⟩⟩
        · exact ⟨hrow2.1, .inr ⟨g2, cap2, cur, h1, h2, (P.below.block g2 (lt_of_block h3)).trans h3, h4⟩⟩
      have hcell := cells_three_new P.val (.int .i64 x1) (.int .i64 x2) (.int .i64 x3) 35
      have hbs := HB2.out.size
      clear X0 X1 X2 hne hrow2
      generalize P.val = w3 at *
      have hbs2 : w.heap.size ≤ (w3.alloc (.cells #[.int .i64 x1, .int .i64 x2, .int .i64 x3] 35)).heap.size := Nat.le_trans hbs (below_alloc w3 _).size
      refine wpList_opW (some 28) (.slice (some ⟨w3.heap.size, 0, none⟩) 1 1) (w' := w3.alloc (.cells #[.int .i64 x1, .int .i64 x2, .int .i64 x3] 35)) rfl rfl (by first | rfl | (go_simp; done) | (go_simp; rfl)) ?_
      simp only [Act.put, List.setIfInBounds_toArray, List.set_cons_zero, List.set_cons_succ]
      refine wpList_append_own _ rfl _ _ 27 rfl w.heap.size 35 i0 (.agg #[.int .i64 0, .int .i64 0, .int .i64 0]) 3 24 Try.underlying27 hi hz0 hz1 hz2 rfl (by decide) _ _ _ rfl (hrowP.alloc _) ⟨w3.heap.size, 0, none⟩ 1 1 [.int .i64 x1, .int .i64 x2, .int .i64 x3] rfl rfl hcell (by simp [Value.oneCell']) (by simp only [maxLen]; omega) (by omega) hbs2 ?_
      intro v' w2 hown' hgrow _
      simp only [Act.put, List.setIfInBounds_toArray, List.set_cons_zero, List.set_cons_succ]
      go_wp2
      have HB3 := hide ((HB2.out.alloc hbs (.cells #[.int .i64 x1, .int .i64 x2, .int .i64 x3] 35)).grown hgrow hbs2 (fun i hi => (hrowP.lt i hi).1))
      refine ⟨⟨k + 1, by omega, by go_num, ?_, HB3.out⟩, by simp [intOf]; omega⟩
      rw [HX.out, rcs_append]
      exact hown'
    · obtain rfl : k = n := by omega
      have htk : xs.take k = xs := List.take_of_length_le (by have := HL.out; omega)
      rw [htk] at hrow
      have HRW := hide hrow
      have HB := hide hb
      clear hrow hb
      go_wp2
      go_ret
      exact ⟨_, rfl, HRW.out, HB.out⟩
theorem refMay_any (s t l : Int) (w : World) : Calls Try.prog 27 #[.agg #[.int .i64 s, .int .i64 t, .int .i64 l]] w fun e w' => e = .returned (.bool (mayR s t l)) ∧ Below w.heap.size w w' := by
  have hb := hide (below_alloc w (.cells #[.int .i64 s, .int .i64 t, .int .i64 l] 35))
  go_enter Try.func27, Try.ntmps27
  go_wp2
  all_goals go_ret
  all_goals refine ⟨ret_bool (Bool.eq_iff_iff.2 ?_), hb.out⟩
  all_goals unfold mayR
  all_goals simp only [Bool.and_eq_true, decide_eq_true_eq, Bool.false_eq_true, false_iff]
  all_goals omega
end Li
end Go.Proofs.Ytgdfmoehbgmfkaa
