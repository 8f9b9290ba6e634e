/- The chapter's examples hold. -/
import Derived.Test.YtgdfmoehbgmfkaaLf
namespace Go.Proofs.Ytgdfmoehbgmfkaa
open Go.RowKit
namespace Li
open Wi
open Go.Sort (flatK get_flatK size_flatK grow grow_grow alloc_eq_grow putRowK putRow putCells mapBlock onCells HoldsK SWO PermIn SortedIn heap_grow_old)
theorem part_03 : pw 10 3 = 4599075939470750515 := by decide +kernel
def exR : List Ro := [(1, (10, 3)), (2, (4, 4)), (3, (6, 1))]
theorem ex_add : addE [] exR = 0 ∧ addR [] exR = exR := by decide +kernel
theorem ex_pick : exR.filter (pick 50) = [(1, (10, 3)), (3, (6, 1))] := by decide +kernel
theorem ex_may : ∀ x ∈ exR, mayRo x = true := by decide +kernel
theorem sortsV_few {n : Nat} (h : n < 20) : SortsV n (fun d => Sort.insertionSort (ltOf cfV) d 0 d.size) := fun w g cap d hH hg hd => sortStable_few hH hg (by omega)
def exA : Vr := ⟨(1, (10, 3)), by decide⟩
def exB : Vr := ⟨(3, (6, 1)), by decide⟩
theorem ex_arr {d : Array Vr} (h : d.toList.map (fun x => x.1) = [(1, (10, 3)), (3, (6, 1))]) : d = #[exA, exB] := by
  apply Array.toList_inj.1
  have e : (d.toList.map (fun x => x.1)) = ([exA, exB].map (fun x => x.1)) := h
  exact (List.map_inj_right (fun a b hab => Subtype.ext hab)).1 e
theorem ex_ins : (Sort.insertionSort (ltOf cfV) #[exA, exB] 0 2) = #[exB, exA] := by
  have h1 : ltOf cfV exB exA = true := by decide +kernel
  simp [Sort.insertionSort, Sort.insOuter, Sort.insInner, h1, Sort.swp]
theorem ex_sort {d : Array Vr} (h : d.toList.map (fun x => x.1) = [(1, (10, 3)), (3, (6, 1))]) : (Sort.insertionSort (ltOf cfV) d 0 d.size).toList.map (fun x => Value.int .i64 x.1.1) = [.int .i64 3, .int .i64 1] := by
  rw [ex_arr h]
  show (Sort.insertionSort (ltOf cfV) #[exA, exB] 0 2).toList.map _ = _
  rw [ex_ins]
  rfl

theorem swp_size {α : Type} [Inhabited α] (d : Array α) (i j : Nat) : (Sort.swp d i j).size = d.size := by simp [Sort.swp]
theorem inner_size {α : Type} [Inhabited α] (lt : α → α → Bool) (a : Nat) : ∀ (j : Nat) (d : Array α), (Sort.insInner lt a j d).size = d.size
  | 0, d => rfl
  | j + 1, d => by
    unfold Sort.insInner
    split
    · rw [inner_size lt a j, swp_size]
    · rfl
theorem outer_size {α : Type} [Inhabited α] (lt : α → α → Bool) (a b : Nat) : ∀ (k i : Nat) (d : Array α), b - i = k → (Sort.insOuter lt a b i d).size = d.size := by
  intro k
  induction k with
  | zero => intro i d h; unfold Sort.insOuter; rw [if_neg (by omega)]
  | succ k ih => intro i d h; unfold Sort.insOuter; rw [if_pos (by omega), ih _ _ (by omega), inner_size]
theorem ins_size {α : Type} [Inhabited α] (lt : α → α → Bool) (d : Array α) (a b : Nat) : (Sort.insertionSort lt d a b).size = d.size := outer_size lt a b _ _ _ rfl
theorem ex_ord : FloatKind.f64.format.order 4599075939470750515 4599075939470750515 = some .eq := by decide +kernel
theorem er_nine (w : World) : Er (w.alloc (.cells #[.int .i64 1, .int .i64 10, .int .i64 3, .int .i64 2, .int .i64 4, .int .i64 4, .int .i64 3, .int .i64 6, .int .i64 1] 58)) (some ⟨w.heap.size, 0, none⟩) 3 exR := by
  refine ⟨rfl, fun x hx => may_rng (ex_may x hx), fun i x hi => ⟨w.heap.size, 0, rfl, by simp, ?_⟩⟩
  match i, hi with
  | 0, hi => cases hi; refine ⟨?_, ?_, ?_⟩ <;> (rw [cell_of_row _ _ _ _ _ _ (heap_alloc_new w _)]; rfl)
  | 1, hi => cases hi; refine ⟨?_, ?_, ?_⟩ <;> (rw [cell_of_row _ _ _ _ _ _ (heap_alloc_new w _)]; rfl)
  | 2, hi => cases hi; refine ⟨?_, ?_, ?_⟩ <;> (rw [cell_of_row _ _ _ _ _ _ (heap_alloc_new w _)]; rfl)
theorem Below.of_grown {w0 w w' : World} {row : Option Nat} (hb : Below w0.heap.size w0 w) (hg : w.grownBy w' row) (hr : ∀ k, row = some k → w0.heap.size ≤ k) : Below w0.heap.size w0 w' := hb.grown hg hb.size hr
set_option maxHeartbeats 4000000 in
set_option maxRecDepth 100000 in
theorem awake_any (w : World) : Calls Try.prog 13 #[] w fun e w' => e = .returned (.bool true) ∧ Below w.heap.size w w' := by
  have hnew := new_any w
  have hadd : ∀ w1, Tab w1 (w.heap.size + 1) w.heap.size [] → Calls Try.prog 28 #[.pointer (some ⟨w.heap.size + 1, 0, none⟩), .slice (some ⟨w1.heap.size, 0, none⟩) 3 3] (w1.alloc (.cells #[.int .i64 1, .int .i64 10, .int .i64 3, .int .i64 2, .int .i64 4, .int .i64 4, .int .i64 3, .int .i64 6, .int .i64 1] 58)) fun e w' => e = .returned (.int .i64 0) ∧ Tab w' (w.heap.size + 1) w.heap.size exR ∧ (w1.alloc (.cells #[.int .i64 1, .int .i64 10, .int .i64 3, .int .i64 2, .int .i64 4, .int .i64 4, .int .i64 3, .int .i64 6, .int .i64 1] 58)).grownBy w' (some w.heap.size) := fun w1 h1 => by
    have h := add_any (cap := 3) (h1.later (below_alloc w1 (.cells #[.int .i64 1, .int .i64 10, .int .i64 3, .int .i64 2, .int .i64 4, .int .i64 4, .int .i64 3, .int .i64 6, .int .i64 1] 58))) (er_nine w1) (by simp) (by omega)
    rw [ex_add.1, ex_add.2] at h
    exact h
  have hvic : ∀ w1, Tab w1 (w.heap.size + 1) w.heap.size exR → Calls Try.prog 23 #[.pointer (some ⟨w.heap.size + 1, 0, none⟩), .int .i64 50] w1 fun e w' => ∃ v, e = .returned v ∧ w'.ownsRow w1.heap.size 3 1 v 2 [.int .i64 3, .int .i64 1] ∧ Below w1.heap.size w1 w' := fun w1 h1 => by
    have h := victims_by 50 50 (by omega) h1 ex_may (by show 3 ≤ _; omega) (fun d => Sort.insertionSort (ltOf cfV) d 0 d.size) (fun d => ins_size _ _ _ _) (sortsV_few (by rw [ex_pick]; show 2 < 20; omega))
    refine h.mono fun e w' ⟨v, d, he, hd, hr, hb⟩ => ⟨v, he, ?_, hb⟩
    rw [ex_pick] at hd hr
    rw [ex_sort hd] at hr
    exact hr
  have hpart : ∀ w, Calls Try.prog 26 #[.agg #[.int .i64 1, .int .i64 10, .int .i64 3]] w fun e w' => e = .returned (.float .f64 4599075939470750515) ∧ w' = w.alloc (.cells #[.int .i64 1, .int .i64 10, .int .i64 3] 58) := fun w => by
    have h := part_any 1 10 3 (by omega) (by omega) (by omega) w
    rw [part_03] at h
    exact h
  go_enter Try.func13, Try.ntmps13
  go_wp2_with (go_at_call 11; refine hnew.mono ?_; rintro e w1 ⟨rfl, hT1, hb1⟩; have hadd1 := hadd w1 hT1; clear hadd hnew hT1)
  have HB1 := hide hb1
  clear hb1
  go_wp2_with (go_at_call 28; refine hadd1.mono ?_; rintro e w2 ⟨rfl, hT2, hg2⟩)
  have HB2 := hide (Below.of_grown (HB1.out.alloc HB1.out.size (.cells #[.int .i64 1, .int .i64 10, .int .i64 3, .int .i64 2, .int .i64 4, .int .i64 4, .int .i64 3, .int .i64 6, .int .i64 1] 58)) hg2 (fun k e => by cases e; exact Nat.le_refl _))
  have hv2 := hvic w2 hT2
  clear hvic hT2 hg2 hadd1
  go_wp2_with (go_at_call 23; refine hv2.mono ?_; rintro e w3 ⟨v, rfl, hrow, hb3⟩)
  have HB3 := hide (HB2.out.trans (hb3.mono HB2.out.size))
  obtain ⟨g, cap, rfl, hg⟩ := row_form (own_base hrow (Nat.zero_le _)) (by omega)
  have k0 := (World.ownsRow.cellAt hrow 0 (by omega))
  have k1 := (World.ownsRow.cellAt hrow 1 (by omega))
  simp only [List.getElem?_cons_zero, List.getElem?_cons_succ] at k0 k1
  clear hv2 hb3 hrow
  have hln : ∀ w, (Builtin.len_ #[54] 3 #[.slice (some ⟨g, 0, none⟩) 2 cap]).run Try.prog w = .ok (.int .i64 2) w := fun w => by simp [Builtin.len_, run_underlying Try.underlying54, go_sem, Result.andThen, goInt]
  go_wp2_with (go_at_call 26; refine (hpart _).mono ?_; rintro e w4 ⟨rfl, rfl⟩)
  rw [hln]
  simp only [Result.andThen_ok]
  go_wp2_with (go_at_call 26; refine (hpart _).mono ?_; rintro e w4 ⟨rfl, rfl⟩)
  go_ret
  exact ⟨by simp [ex_ord], HB3.out.alloc HB3.out.size _⟩
end Li
end Go.Proofs.Ytgdfmoehbgmfkaa
