/- slices.Insert at objects, where there is no room; and all of it. -/
import Derived.Test.YthnhapjjgaicdaaWg
namespace Go.Proofs.Ythnhapjjgaicdaa
open Go.RowKit
namespace Wi

theorem wp_append_at {P : Program} (w : World) {o : Oper} {a : Act} {K : Act → World → Prop} {Q : Exit → Act → World → Prop} (s x : Operand) (t tn : TypeId)
    (ho : o.op = .call { callee := .builtin .append, args := #[s, x], argTypes := #[t, tn] }) (v u : Value) (hd : a.eval s = v) (hs : a.eval x = u) {v' : Value} {w' : World}
    (hr : (Builtin.append_ #[t, tn] o.type #[v, u]).run P w = .ok v' w') (h : K (a.put o.dst v') w') : o.wp P a w K Q := by
  unfold Oper.wp execOp
  simp only [ho, resolve, invoke, builtin, Sem.run_bind, Sem.run_pure, Result.andThen_ok, List.map_toArray, List.map_cons, List.map_nil, hd, hs, hr]
  exact h
theorem wpList_append_at {P : Program} (w : World) {ops : Array Oper} {rest : List Oper} {o : Oper} {a : Act} {Q : Exit → Act → World → Prop} (hgd : o.guard = none) (s x : Operand) (t tn : TypeId)
    (ho : o.op = .call { callee := .builtin .append, args := #[s, x], argTypes := #[t, tn] }) (v u : Value) (hd : a.eval s = v) (hs : a.eval x = u) {v' : Value} {w' : World}
    (hr : (Builtin.append_ #[t, tn] o.type #[v, u]).run P w = .ok v' w') (h : wpList P ops Q rest (a.put o.dst v') w') : wpList P ops Q (o :: rest) a w :=
  wpList_plain hgd fun _ hK => wp_append_at w s x t tn ho v u hd hs hr (hK _ _ h)
theorem zeroCells_two (n : Nat) : (Builtin.zeroCells (Value.agg #[.string { data := #[] }, .string { data := #[] }]).cells n).size = n * 2 := by
  rw [size_zeroCells]
  rfl
set_option maxHeartbeats 8000000 in
set_option maxRecDepth 100000 in
theorem insert_grow {w : World} {g off cap : Nat} {objs : List Ob} {i : Nat} (h : Rw w 76 2 (.slice (some ⟨g, off, none⟩) objs.length cap) objs.length (encOs objs)) (hn : objs.length ≤ 1000000) (hi : i < objs.length) (hroom : cap < objs.length + 1) (hnc : objs.length ≤ cap) (o : Ob) (g1 : Nat) (hg : w.heap[g1]? = some (.cells (encO o).toArray 76 (0, 0))) :
    Calls Try.prog 57 #[.slice (some ⟨g, off, none⟩) objs.length cap, .int .i64 (i : Nat), .slice (some ⟨g1, 0, none⟩) 1 1] w fun e w' => ∃ v', e = .returned v' ∧ Grew w 76 2 (.slice (some ⟨g, off, none⟩) objs.length cap) (objs.length + 1) ((encOs objs).take (i * 2) ++ (encO o ++ (encOs objs).drop (i * 2))) w' v' := by
  obtain ⟨i0, hinf, hz0, hz1, hz2⟩ := info_parts info76
  have hxl := encOs_length objs
  have hdl : ((encOs objs).drop (i * 2)).length = (objs.length - i) * 2 := by rw [List.length_drop, hxl]; omega
  have htl : ((encOs objs).take (i * 2)).length = i * 2 := by rw [List.length_take, hxl]; omega
  obtain ⟨k, hk⟩ : ∃ k, k = objs.length + 1 - i := ⟨_, rfl⟩
  have hsum : i + k = objs.length + 1 := by omega
  have hap := run_append_zeros_grow (P := Try.prog) w 66 3 66 76 i0 _ .i64 Try.underlying66 Try.underlying3 hinf hz0 ⟨g, off, none⟩ i cap ((encOs objs).take (i * 2)) (by rw [htl, hz1]) (fun j u hj => by
    have hl := (List.getElem?_eq_some_iff.1 hj).1
    rw [htl] at hl
    rw [List.getElem?_take_of_lt hl] at hj
    exact h.cells j u hj) k (by omega) (by rw [hz1]; omega) (by omega) (by omega) (growslice_fits (by omega) (by rw [hz2]; omega)) (by rw [hz2]; omega)
  rw [hsum] at hap
  have hge := grownCap_ge w (objs.length + 1) cap 76
  have hcm : grownCap w (objs.length + 1) cap 76 ≤ maxLen := grownCap_le_maxLen w (objs.length + 1) cap 76 (by unfold maxLen; omega)
  generalize hC : grownCap w (objs.length + 1) cap 76 = C at *
  obtain ⟨Z, hZ, hZl⟩ : ∃ Z : List Value, Z = (Builtin.zeroCells (Value.agg #[.string { data := #[] }, .string { data := #[] }]).cells k).toList ∧ Z.length = k * 2 := ⟨_, rfl, by rw [Array.length_toList, zeroCells_two]⟩
  obtain ⟨W1, hW1⟩ : ∃ W1, W1 = w.drew.alloc (.cells (((encOs objs).take (i * 2)).toArray ++ Builtin.zeroCells (Value.agg #[.string { data := #[] }, .string { data := #[] }]).cells k ++ Builtin.zeroCells (Value.agg #[.string { data := #[] }, .string { data := #[] }]).cells (C - (objs.length + 1))) 76) := ⟨_, rfl⟩
  rw [← hW1] at hap
  have hR1 : Rw W1 76 2 (.slice (some ⟨w.heap.size, 0, none⟩) (objs.length + 1) C) (objs.length + 1) ((encOs objs).take (i * 2) ++ Z) := by
    refine ⟨by rw [List.length_append, htl, hZl]; omega, .inr ⟨w.heap.size, 0, C, _, rfl, by rw [hW1]; exact heap_alloc_new w.drew _, hge, hcm, ?_, ?_⟩⟩
    · simp only [Array.size_append, List.size_toArray, zeroCells_two, htl]
      omega
    · rw [List.drop_zero, Array.toList_append, Array.toList_append, ← hZ, List.take_append_of_le_length (by rw [List.length_append, htl, hZl]; omega), List.take_of_length_le (by rw [List.length_append, htl, hZl]; omega)]
  have hb1 : Below w.heap.size w W1 := by rw [hW1]; exact ((Below.refl _ _).drew).alloc (Nat.le_refl _) _
  have hg1 : W1.heap[g1]? = some (.cells (encO o).toArray 76 (0, 0)) := (hb1.block g1 (lt_of_block hg)).trans hg
  have hcp1 : ∀ ty dc, (Builtin.copy_ #[66, 66] ty #[.slice (some ⟨w.heap.size, i * 2, none⟩) (objs.length + 1 - i) dc, .slice (some ⟨g1, 0, none⟩) 1 1]).run Try.prog W1 = .ok (goInt (Nat.min 1 (objs.length + 1 - i))) (W1.setCells w.heap.size (i * 2) (encO o)) := fun ty dc =>
    run_copy_sized W1 66 66 ty 76 2 w.heap.size (i * 2) (objs.length + 1 - i) dc ⟨g1, 0, none⟩ 1 1 (encO o) Try.underlying66 info76s (by rw [show Nat.min 1 (objs.length + 1 - i) = 1 from Nat.min_eq_left (by omega)]; rfl)
      (fun j u hj => by rw [Addr.add_mid, Nat.zero_add, cell_of_row _ _ _ _ _ _ hg1]; simpa using hj)
      (fun j hj => by have := (hR1.there (o := i * 2) (m := (encO o).length) (by show _ + 2 ≤ _; omega) j hj).1; rwa [Nat.zero_add] at this) (fun j hj => by have := (hR1.there (o := i * 2) (m := (encO o).length) (by show _ + 2 ≤ _; omega) j hj).2; rwa [Nat.zero_add] at this) (encO_one o)
  have hR2 := hR1.set (o := i * 2) (vs := encO o) (by show _ + 2 ≤ _; omega) (encO_one o)
  rw [Nat.zero_add] at hR2
  have hk2 : Keep (fun k => k = w.heap.size) W1 (W1.setCells w.heap.size (i * 2) (encO o)) := Keep.setCells (X := fun k => k = w.heap.size) w.heap.size rfl _ _ _
  obtain ⟨W2, hW2⟩ : ∃ W2, W2 = W1.setCells w.heap.size (i * 2) (encO o) := ⟨_, rfl⟩
  rw [← hW2] at hcp1 hR2 hk2
  have hb2 : Below w.heap.size w W2 := hb1.trans (hk2.below hb1.size fun k hk e => by omega)
  have hold : Rw W2 76 2 (.slice (some ⟨g, off, none⟩) objs.length cap) objs.length (encOs objs) := h.later hb2
  have hcp2 : ∀ ty dc sc, (Builtin.copy_ #[66, 66] ty #[.slice (some ⟨w.heap.size, (i + 1) * 2, none⟩) (objs.length - i) dc, .slice (some ⟨g, off + i * 2, none⟩) (objs.length - i) sc]).run Try.prog W2.drew = .ok (goInt (Nat.min (objs.length - i) (objs.length - i))) (W2.drew.setCells w.heap.size ((i + 1) * 2) ((encOs objs).drop (i * 2))) := fun ty dc sc =>
    run_copy_sized W2.drew 66 66 ty 76 2 w.heap.size ((i + 1) * 2) (objs.length - i) dc ⟨g, off + i * 2, none⟩ (objs.length - i) sc ((encOs objs).drop (i * 2)) Try.underlying66 info76s (by rw [hdl, show Nat.min (objs.length - i) (objs.length - i) = objs.length - i from Nat.min_self _])
      (hold.drew.src (i * 2)) (fun j hj => by have := (hR2.drew.there (o := (i + 1) * 2) (m := ((encOs objs).drop (i * 2)).length) (by rw [hdl]; omega) j hj).1; rwa [Nat.zero_add] at this) (fun j hj => by have := (hR2.drew.there (o := (i + 1) * 2) (m := ((encOs objs).drop (i * 2)).length) (by rw [hdl]; omega) j hj).2; rwa [Nat.zero_add] at this) (fun u hu => encOs_one objs u (List.mem_of_mem_drop hu))
  have HF : Hid (Grew w 76 2 (.slice (some ⟨g, off, none⟩) objs.length cap) (objs.length + 1) ((encOs objs).take (i * 2) ++ (encO o ++ (encOs objs).drop (i * 2))) (W2.drew.setCells w.heap.size ((i + 1) * 2) ((encOs objs).drop (i * 2))) (.slice (some ⟨w.heap.size, 0, none⟩) (objs.length + 1) C)) := by
    have hfin := hR2.drew.set (o := (i + 1) * 2) (vs := (encOs objs).drop (i * 2)) (by rw [hdl]; omega) (fun u hu => encOs_one objs u (List.mem_of_mem_drop hu))
    have hs := splice_fresh ((encOs objs).take (i * 2)) Z (encO o) ((encOs objs).drop (i * 2)) (by rw [hZl, hdl]; show _ = 2 + _; omega)
    rw [htl, show i * 2 + (encO o).length = (i + 1) * 2 by show i * 2 + 2 = _; omega] at hs
    rw [hs, Nat.zero_add] at hfin
    refine ⟨hfin, ?_, .inr fun k hk => by simp [Value.ownBlock] at hk; omega⟩
    have hk3 := (Keep.refl (fun k => k = w.heap.size) W2).drew.trans (Keep.setCells (X := fun k => k = w.heap.size) w.heap.size rfl ((encOs objs).drop (i * 2)) ((i + 1) * 2) W2.drew) fun _ _ e => e
    exact Keep.of_below (hb2.trans (hk3.below hb2.size fun k hk e => by omega))
  have b1 : ¬ C = i + 1 := by omega
  have b2 : ¬ C = i := by omega
  have b10 : ¬ cap = i := by omega
  have b11 : ¬ cap = 0 := by omega
  have b3 : ¬ (i : Int) = (objs.length : Int) := by omega
  have b4 : IntKind.i64.wrap ((i : Int) + 1) = (i : Int) + 1 := by rw [IntKind.wrap_i64]; omega
  have b5 : ((i : Int) + 1).toNat = i + 1 := by omega
  have b6 : (0 : Int) ≤ (i : Int) + 1 := by omega
  have b7 : (i : Int) + 1 ≤ (objs.length : Int) + 1 := by omega
  have b8 : (i : Int) ≤ (objs.length : Int) + 1 := by omega
  have b9 : (objs.length : Int) + 1 - (i : Int) = (k : Int) := by omega
  have b12 : (i : Int) ≤ (objs.length : Int) := by omega
  have HK := hide hk
  clear h hR1 hR2 hk2 hg1 hg hdl hxl hW1 hW2 hb1 hb2 hold hC hZ hZl htl hk hsum
  go_enter Try.func57, Try.ntmps57
  go_wp2_with (first | (at_builtin; refine wpList_append_at _ rfl (.tmp 34) (.tmp 39) 66 3 rfl _ _ rfl rfl hap ?_) | (at_builtin; refine wpList_copy_at _ rfl (.tmp 43) (.tmp 44) 66 66 rfl _ _ rfl rfl (hcp1 _ _) ?_))
  go_region_law (refine step_copy_at rfl (.tmp 50) (.tmp 53) 66 66 rfl _ _ (by simp [Act.eval, Act.put]) (by simp [Act.eval, Act.put]) (hcp2 _ _ _) ?_)
  go_wp2
  go_ret
  exact ⟨_, rfl, HF.out⟩

end Wi
end Go.Proofs.Ythnhapjjgaicdaa
