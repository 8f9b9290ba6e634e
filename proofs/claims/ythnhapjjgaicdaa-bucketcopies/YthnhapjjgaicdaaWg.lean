/- slices.Insert at objects, ahead of others. -/
import Derived.Test.YthnhapjjgaicdaaWf
namespace Go.Proofs.Ythnhapjjgaicdaa
open Go.RowKit
namespace Wi

theorem wp_copy_run {P : Program} (w : World) {o : Oper} {a : Act} {K : Act → World → Prop} {Q : Exit → Act → World → Prop} (d s : Operand) (t t' : TypeId)
    (ho : o.op = .call { callee := .builtin .copy, args := #[d, s], argTypes := #[t, t'] }) (v u : Value) (hd : a.eval d = v) (hs : a.eval s = u) {v' : Value} {w' : World}
    (hr : (Builtin.copy_ #[t, t'] o.type #[v, u]).run P w = .ok v' w') (h : K (a.put o.dst v') w') : o.wp P a w K Q := by
  unfold Oper.wp execOp
  simp only [ho, resolve, invoke, builtin, Sem.run_bind, Sem.run_pure, Result.andThen_ok, List.map_toArray, List.map_cons, List.map_nil, hd, hs, hr]
  exact h
theorem wpList_copy_at {P : Program} (w : World) {ops : Array Oper} {rest : List Oper} {o : Oper} {a : Act} {Q : Exit → Act → World → Prop} (hgd : o.guard = none) (d s : Operand) (t t' : TypeId)
    (ho : o.op = .call { callee := .builtin .copy, args := #[d, s], argTypes := #[t, t'] }) (v u : Value) (hd : a.eval d = v) (hs : a.eval s = u) {v' : Value} {w' : World}
    (hr : (Builtin.copy_ #[t, t'] o.type #[v, u]).run P w = .ok v' w') (h : wpList P ops Q rest (a.put o.dst v') w') : wpList P ops Q (o :: rest) a w :=
  wpList_plain hgd fun _ hK => wp_copy_run w d s t t' ho v u hd hs hr (hK _ _ h)
theorem step_copy_at {P : Program} {ops : Array Oper} {o : Oper} {a : Act} {w : World} {K : Act → World → Prop} {Q : Exit → Act → World → Prop} {E : Prop}
    (hg : o.guard = none) (d x : Operand) (dT sT : TypeId) (hop : o.op = Op.call { callee := Callee.builtin Builtin.copy, args := #[d, x], argTypes := #[dT, sT] })
    (v u : Value) (hd : a.eval d = v) (hx : a.eval x = u) {v' : Value} {w' : World} (hr : (Builtin.copy_ #[dT, sT] o.type #[v, u]).run P w = .ok v' w') (hK : K (a.put o.dst v') w') :
    if Region.wanted o (yielded ops a.tmps) = true then Oper.wp P o a w K Q else E := by
  have hw : Region.wanted o (yielded ops a.tmps) = true := by simp [Region.wanted, hg]
  rw [if_pos hw]
  unfold Oper.wp
  simp [execOp, hop, resolve, invoke, builtin, hd, hx, hr, Result.andThen]
  exact hK
theorem info76s : (Try.prog.info? 76).map (·.size) = some 2 := by kernel_rfl
theorem size76 (w : World) : (Go.sizeOf 76).run Try.prog w = .ok 2 w := by kernel_rfl
theorem Rw.drew {w : World} {e : TypeId} {size n : Nat} {v : Value} {xs : List Value} (h : Rw w e size v n xs) : Rw w.drew e size v n xs := h.later (Below.refl _ _).drew
theorem encO_one (o : Ob) : ∀ u ∈ encO o, u.oneCell' = true := fun u hu => encOs_one [o] u (by simpa [encOs] using hu)
theorem shape_cells {w : World} {g : Nat} {cs : Array Value} {t : TypeId} {f : Nat × Nat} (h : w.heap[g]? = some (.cells cs t f)) : w.shape? g = some (t, cs.size) := by
  simp [World.shape?, h]
set_option maxHeartbeats 8000000 in
set_option maxRecDepth 100000 in
theorem insert_room {w : World} {g off cap : Nat} {objs : List Ob} {i : Nat} (h : Rw w 76 2 (.slice (some ⟨g, off, none⟩) objs.length cap) objs.length (encOs objs)) (hn : objs.length ≤ 1000000) (hi : i < objs.length) (hroom : objs.length + 1 ≤ cap) (hcm : cap ≤ 9223372036854775807) (o : Ob) (g1 : Nat) (hg : w.heap[g1]? = some (.cells (encO o).toArray 76 (0, 0))) (hne : g1 ≠ g) :
    Calls Try.prog 57 #[.slice (some ⟨g, off, none⟩) objs.length cap, .int .i64 (i : Nat), .slice (some ⟨g1, 0, none⟩) 1 1] w fun e w' => ∃ v', e = .returned v' ∧ Grew w 76 2 (.slice (some ⟨g, off, none⟩) objs.length cap) (objs.length + 1) ((encOs objs).take (i * 2) ++ (encO o ++ (encOs objs).drop (i * 2))) w' v' := by
  obtain ⟨E, hE, hW⟩ := h.widen (m := 1) hroom
  have hxl := encOs_length objs
  have hdl : ((encOs objs).drop (i * 2)).length = (objs.length - i) * 2 := by rw [List.length_drop, hxl]; omega
  have hov : ∀ lb cb, (callFunc 63 #[.slice (some ⟨g1, 0, none⟩) 1 1, .slice (some ⟨g, off + (i + 1) * 2, none⟩) lb cb]).run Try.prog w = .ok (.value (.bool false)) w := fun lb cb => by
    obtain ⟨cur, hcur, hcs⟩ : ∃ cur, w.heap[g]? = some (.cells cur 76 (0, 0)) ∧ cur.size ≠ 0 := by
      rcases h.2 with ⟨hv, _⟩ | ⟨g', off', cap', cur, hv, hgg, k1, k2, k3, k4⟩
      · cases hv
      · cases hv
        exact ⟨cur, hgg, by omega⟩
    rw [run_callFunc_extern Try.func63 (by kernel_rfl) (by kernel_rfl) (by kernel_rfl) (e := Extern.SlicesOverlaps.overlaps #[66, 66] #[4]) (by kernel_rfl),
      Lib.run_overlaps_apart w 66 4 76 Try.underlying66 2 size76 ⟨g1, 0, none⟩ ⟨g, off + (i + 1) * 2, none⟩ 1 1 lb cb hne 76 76 _ _ (shape_cells hg) (shape_cells hcur) hcs (frozen_of_row w _ _ _ _ hg) (frozen_of_row w _ _ _ _ hg)]
    rfl
  have hcp1 : ∀ ty dc sc, (Builtin.copy_ #[66, 66] ty #[.slice (some ⟨g, off + (i + 1) * 2, none⟩) (objs.length - i) dc, .slice (some ⟨g, off + i * 2, none⟩) (objs.length + 1 - i) sc]).run Try.prog w.drew = .ok (goInt (Nat.min (objs.length + 1 - i) (objs.length - i))) (w.drew.setCells g (off + (i + 1) * 2) ((encOs objs).drop (i * 2))) := fun ty dc sc =>
    run_copy_sized w.drew 66 66 ty 76 2 g (off + (i + 1) * 2) (objs.length - i) dc ⟨g, off + i * 2, none⟩ (objs.length + 1 - i) sc ((encOs objs).drop (i * 2)) Try.underlying66 info76s (by rw [hdl, show Nat.min (objs.length + 1 - i) (objs.length - i) = objs.length - i from Nat.min_eq_right (by omega)])
      (h.drew.src (i * 2)) (fun j hj => (hW.drew.there (o := (i + 1) * 2) (m := ((encOs objs).drop (i * 2)).length) (by rw [hdl]; omega) j hj).1) (fun j hj => (hW.drew.there (o := (i + 1) * 2) (m := ((encOs objs).drop (i * 2)).length) (by rw [hdl]; omega) j hj).2) (fun u hu => encOs_one objs u (List.mem_of_mem_drop hu))
  have hW1 := hW.drew.set (o := (i + 1) * 2) (vs := (encOs objs).drop (i * 2)) (by rw [hdl]; omega) (fun u hu => encOs_one objs u (List.mem_of_mem_drop hu))
  have hk1 : Keep (fun k => k = g) w (w.drew.setCells g (off + (i + 1) * 2) ((encOs objs).drop (i * 2))) := ((Keep.refl _ _).drew).trans (Keep.setCells (X := fun k => k = g) g rfl _ _ _) fun _ _ e => e
  obtain ⟨W1, hW1e⟩ : ∃ W1, W1 = w.drew.setCells g (off + (i + 1) * 2) ((encOs objs).drop (i * 2)) := ⟨_, rfl⟩
  rw [← hW1e] at hcp1 hW1 hk1
  have hg1 : W1.heap[g1]? = some (.cells (encO o).toArray 76 (0, 0)) := (hk1.block g1 (lt_of_block hg) hne).trans hg
  have hcp2 : ∀ ty dc, (Builtin.copy_ #[66, 66] ty #[.slice (some ⟨g, off + i * 2, none⟩) (objs.length + 1 - i) dc, .slice (some ⟨g1, 0, none⟩) 1 1]).run Try.prog W1 = .ok (goInt (Nat.min 1 (objs.length + 1 - i))) (W1.setCells g (off + i * 2) (encO o)) := fun ty dc =>
    run_copy_sized W1 66 66 ty 76 2 g (off + i * 2) (objs.length + 1 - i) dc ⟨g1, 0, none⟩ 1 1 (encO o) Try.underlying66 info76s (by rw [show Nat.min 1 (objs.length + 1 - i) = 1 from Nat.min_eq_left (by omega)]; rfl)
      (fun j u hj => by rw [Addr.add_mid, Nat.zero_add, cell_of_row _ _ _ _ _ _ hg1]; simpa using hj)
      (fun j hj => (hW1.there (o := i * 2) (m := (encO o).length) (by show _ + 2 ≤ _; omega) j hj).1) (fun j hj => (hW1.there (o := i * 2) (m := (encO o).length) (by show _ + 2 ≤ _; omega) j hj).2) (encO_one o)
  have HF : Hid (Grew w 76 2 (.slice (some ⟨g, off, none⟩) objs.length cap) (objs.length + 1) ((encOs objs).take (i * 2) ++ (encO o ++ (encOs objs).drop (i * 2))) (W1.setCells g (off + i * 2) (encO o)) (.slice (some ⟨g, off, none⟩) (objs.length + 1) cap)) := by
    have hfin := hW1.set (o := i * 2) (vs := encO o) (by show _ + 2 ≤ _; omega) (encO_one o)
    have hs := splice_shift (encOs objs) E (encO o) (i * 2) (by rw [hxl]; omega) (by rw [hE]; rfl)
    rw [show i * 2 + (encO o).length = (i + 1) * 2 by show i * 2 + 2 = _; omega] at hs
    rw [hs] at hfin
    refine ⟨hfin, ?_, .inl rfl⟩
    have hk := hk1.trans (Keep.setCells (X := fun k => k = g) g rfl (encO o) (off + i * 2) W1) fun _ _ e => e
    exact ⟨hk.os, hk.tape, hk.output, hk.size, fun k hk' hn => hk.block k hk' fun e => hn (by rw [e]; rfl)⟩
  have HE := hide hW1e
  have b1 : ¬ cap = i + 1 := by omega
  have b2 : ¬ cap = i := by omega
  have b3 : ¬ (i : Int) = (objs.length : Int) := by omega
  have b4 : IntKind.i64.wrap ((i : Int) + 1) = (i : Int) + 1 := by rw [IntKind.wrap_i64]; omega
  have b5 : ((i : Int) + 1).toNat = i + 1 := by omega
  have b6 : (0 : Int) ≤ (i : Int) + 1 := by omega
  have b7 : (i : Int) + 1 ≤ (objs.length : Int) + 1 := by omega
  have b8 : (i : Int) ≤ (objs.length : Int) + 1 := by omega
  have b9 : (objs.length : Int) + 1 ≤ cap := by omega
  have HH := hide h
  clear h hW hW1 hk1 hg1 hg hE hdl hxl hW1e
  go_enter Try.func57, Try.ntmps57
  go_wp2_with (simp only [hov])
  go_region_law (refine step_copy_at rfl (.tmp 73) (.tmp 76) 66 66 rfl _ _ (by simp [Act.eval, Act.put]) (by simp [Act.eval, Act.put]) (hcp1 _ _ _) ?_)
  go_wp2_with (at_builtin; refine wpList_copy_at _ rfl (.tmp 80) (.tmp 81) 66 66 rfl _ _ rfl rfl (hcp2 _ _) ?_)
  go_ret
  exact ⟨_, rfl, HF.out⟩

end Wi
end Go.Proofs.Ythnhapjjgaicdaa
