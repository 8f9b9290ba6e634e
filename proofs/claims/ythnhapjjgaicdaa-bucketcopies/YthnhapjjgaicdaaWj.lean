/- slices.Insert and slices.Delete at objects. -/
import Derived.Test.YthnhapjjgaicdaaWh
namespace Go.Proofs.Ythnhapjjgaicdaa
open Go.RowKit
namespace Wi

theorem encOs_take (l : List Ob) (i : Nat) (hi : i ≤ l.length) : (encOs l).take (i * 2) = encOs (l.take i) ∧ (encOs l).drop (i * 2) = encOs (l.drop i) := by
  have e : encOs l = encOs (l.take i) ++ encOs (l.drop i) := by rw [← encOs_append, List.take_append_drop]
  have hl : (encOs (l.take i)).length = i * 2 := by rw [encOs_length, List.length_take, Nat.min_eq_left hi]
  rw [e]
  exact ⟨by rw [← hl, List.take_left], by rw [← hl, List.drop_left]⟩
theorem insert_any {w : World} {v : Value} {objs : List Ob} {i : Nat} (h : Rw w 76 2 v objs.length (encOs objs)) (hn : objs.length ≤ 1000000) (hi : i ≤ objs.length) (o : Ob) (g1 : Nat) (hg : w.heap[g1]? = some (.cells (encO o).toArray 76 (0, 0))) (hne : v.ownBlock ≠ some g1) :
    Calls Try.prog 57 #[v, .int .i64 (i : Nat), .slice (some ⟨g1, 0, none⟩) 1 1] w fun e w' => ∃ v', e = .returned v' ∧ Grew w 76 2 v (objs.length + 1) (encOs (objs.take i ++ o :: objs.drop i)) w' v' := by
  obtain ⟨t1, t2⟩ := encOs_take objs i hi
  have e : encOs (objs.take i ++ o :: objs.drop i) = (encOs objs).take (i * 2) ++ (encO o ++ (encOs objs).drop (i * 2)) := by
    rw [t1, t2, encOs_append]
    rfl
  rw [e]
  by_cases hlt : i < objs.length
  · obtain ⟨g, off, cap, rfl, hgl, hnc, hcm⟩ := h.pos (by omega)
    by_cases hroom : objs.length + 1 ≤ cap
    · exact insert_room h hn hlt hroom (by unfold maxLen at hcm; omega) o g1 hg fun e => hne (by rw [e]; rfl)
    · exact insert_grow h hn hlt (by omega) hnc o g1 hg
  · obtain rfl : i = objs.length := by omega
    have h1 := insert_end h hn o g1 hg
    rw [← encOs_length objs, List.take_length, List.drop_length, List.append_nil]
    exact h1
theorem Rw.narrow {w : World} {e : TypeId} {size n m : Nat} {g off cap : Nat} {xs : List Value} (h : Rw w e size (.slice (some ⟨g, off, none⟩) n cap) n xs) (hm : m ≤ n) : Rw w e size (.slice (some ⟨g, off, none⟩) m cap) m (xs.take (m * size)) := by
  have hle : m * size ≤ n * size := Nat.mul_le_mul_right _ hm
  refine ⟨by rw [List.length_take, h.1]; omega, ?_⟩
  rcases h.2 with ⟨hv, _⟩ | ⟨g', off', cap', cur, hv, hg, k1, k2, k3, k4⟩
  · cases hv
  · cases hv
    exact .inr ⟨g, off, cap, cur, rfl, hg, by omega, k2, k3, by rw [← k4, List.take_take, Nat.min_eq_left hle]⟩
theorem run_clear_sized {P : Program} (w : World) (t e ty : TypeId) (z : Value) (ht : P.underlying t = some (.slice e)) (hz : ∀ w, (zeroValue e).run P w = .ok z w) (g o n c : Nat) (hn : 0 < n) (cs : List Value) (hcs : (Builtin.zeroCells z.cells n).toList = cs)
    (hc : ∀ j, j < cs.length → (w.cell? ⟨g, o + j, none⟩).isSome = true ∧ w.frozen? ⟨g, o + j, none⟩ = false) (h1 : ∀ v ∈ cs, v.oneCell' = true) :
    (Builtin.clear_ #[t] ty #[.slice (some ⟨g, o, none⟩) n c]).run P w = .ok (.tuple #[]) (w.setCells g o cs) := by
  have hst := run_storeCells_cells (P := P) g o cs 0 w (fun j hj => by simpa using (hc j hj).1) (fun j hj => by simpa using (hc j hj).2) h1
  obtain ⟨n, rfl⟩ : ∃ m, n = m + 1 := ⟨n - 1, by omega⟩
  simp [Builtin.clear_, run_underlying ht, hz, hcs]
  simp at hst
  simp [hst]
theorem zero76 (w : World) : (zeroValue 76).run Try.prog w = .ok (.agg #[.string { data := #[] }, .string { data := #[] }]) w := by kernel_rfl
theorem splice_cut {α : Type} (xs : List α) (i : Nat) (hi : i + 2 ≤ xs.length) : (splice xs i (xs.drop (i + 2))).take (xs.length - 2) = xs.take i ++ xs.drop (i + 2) := by
  unfold splice
  rw [← List.append_assoc]
  have hl : (xs.take i ++ xs.drop (i + 2)).length = xs.length - 2 := by rw [List.length_append, List.length_take, List.length_drop]; omega
  rw [← hl, List.take_left]
theorem splice_end {α : Type} (L c : List α) (o : Nat) (ho : o ≤ L.length) : (splice L o c).take o = L.take o := by
  unfold splice
  have hl : (L.take o).length = o := by rw [List.length_take]; omega
  rw [List.take_append_of_le_length (by omega), List.take_take, Nat.min_self]
theorem step_append_at {P : Program} {ops : Array Oper} {o : Oper} {a : Act} {w : World} {K : Act → World → Prop} {Q : Exit → Act → World → Prop} {E : Prop}
    (hg : o.guard = none) (d x : Operand) (dT sT : TypeId) (hop : o.op = Op.call { callee := Callee.builtin Builtin.append, args := #[d, x], argTypes := #[dT, sT] })
    (v u : Value) (hd : a.eval d = v) (hx : a.eval x = u) {v' : Value} {w' : World} (hr : (Builtin.append_ #[dT, sT] o.type #[v, u]).run P w = .ok v' w') (hK : K (a.put o.dst v') w') :
    if Region.wanted o (yielded ops a.tmps) = true then Oper.wp P o a w K Q else E := by
  have hw : Region.wanted o (yielded ops a.tmps) = true := by simp [Region.wanted, hg]
  rw [if_pos hw]
  unfold Oper.wp
  simp [execOp, hop, resolve, invoke, builtin, hd, hx, hr, Result.andThen]
  exact hK
set_option maxHeartbeats 8000000 in
set_option maxRecDepth 100000 in
theorem delete_any {w : World} {v : Value} {objs : List Ob} {i : Nat} (h : Rw w 76 2 v objs.length (encOs objs)) (hn : objs.length ≤ 1000000) (hi : i < objs.length) :
    Calls Try.prog 59 #[v, .int .i64 (i : Nat), .int .i64 ((i : Int) + 1)] w fun e w' => ∃ v', e = .returned v' ∧ Grew w 76 2 v (objs.length - 1) (encOs (objs.take i ++ objs.drop (i + 1))) w' v' := by
  obtain ⟨i0, hinf, hz0, hz1, hz2⟩ := info_parts info76
  obtain ⟨t1, _⟩ := encOs_take objs i (by omega)
  obtain ⟨_, t2⟩ := encOs_take objs (i + 1) (by omega)
  obtain ⟨g, off, cap, rfl, hgl, hnc, hcm⟩ := h.pos (by omega)
  have hcm' : cap ≤ 9223372036854775807 := by unfold maxLen at hcm; omega
  have hxl := encOs_length objs
  obtain ⟨N, hN⟩ : ∃ N, objs.length = N + 1 := ⟨objs.length - 1, by omega⟩
  have hdl : ((encOs objs).drop ((i + 1) * 2)).length = (objs.length - (i + 1)) * 2 := by rw [List.length_drop, hxl]; omega
  have h1d : ∀ u ∈ (encOs objs).drop ((i + 1) * 2), u.oneCell' = true := fun u hu => encOs_one objs u (List.mem_of_mem_drop hu)
  have hA : ∀ a c, ((if cap = i + 1 then (⟨g, off, none⟩ : Addr) else ⟨g, off + (i + 1) * 2, none⟩) = a) → ∀ ty, (Builtin.append_ #[66, 66] ty #[.slice (some ⟨g, off, none⟩) i cap, .slice (some a) (objs.length - (i + 1)) c]).run Try.prog w.drew = .ok (.slice (some ⟨g, off, none⟩) (i + (objs.length - (i + 1))) cap) (w.drew.setCells g (off + i * 2) ((encOs objs).drop ((i + 1) * 2))) := fun a c ha ty => by
    have hr := run_append_room_cells (P := Try.prog) w.drew 66 ty 76 i0 Try.underlying66 hinf g off i cap a (objs.length - (i + 1)) c ((encOs objs).drop ((i + 1) * 2)) (by rw [hdl, hz1]) (fun j u hj => by
      have hl := (List.getElem?_eq_some_iff.1 hj).1
      rw [hdl] at hl
      rw [if_neg (by omega)] at ha
      subst ha
      exact h.drew.src ((i + 1) * 2) j u hj) h1d (by omega)
      (fun j hj => by rw [hz1]; exact (h.drew.there (o := i * 2) (m := ((encOs objs).drop ((i + 1) * 2)).length) (by rw [hdl]; omega) j hj).1) (fun j hj => by rw [hz1]; exact (h.drew.there (o := i * 2) (m := ((encOs objs).drop ((i + 1) * 2)).length) (by rw [hdl]; omega) j hj).2)
    rw [hz1] at hr
    exact hr
  have hR1 := h.drew.set (o := i * 2) (vs := (encOs objs).drop ((i + 1) * 2)) (by rw [hdl]; omega) h1d
  have hk1 : Keep (fun k => k = g) w (w.drew.setCells g (off + i * 2) ((encOs objs).drop ((i + 1) * 2))) := ((Keep.refl _ _).drew).trans (Keep.setCells (X := fun k => k = g) g rfl _ _ _) fun _ _ e => e
  obtain ⟨W1, hW1⟩ : ∃ W1, W1 = w.drew.setCells g (off + i * 2) ((encOs objs).drop ((i + 1) * 2)) := ⟨_, rfl⟩
  rw [← hW1] at hA hR1 hk1
  have hcl : ∀ ty c, (Builtin.clear_ #[66] ty #[.slice (some ⟨g, off + N * 2, none⟩) 1 c]).run Try.prog W1 = .ok (.tuple #[]) (W1.setCells g (off + N * 2) [.string { data := #[] }, .string { data := #[] }]) := fun ty c =>
    run_clear_sized W1 66 76 ty _ Try.underlying66 zero76 g (off + N * 2) 1 c (by omega) [.string { data := #[] }, .string { data := #[] }] (by kernel_rfl) (fun j hj => hR1.there (o := N * 2) (m := 2) (by omega) j hj) (by simp [Value.oneCell'])
  have HF : Hid (Grew w 76 2 (.slice (some ⟨g, off, none⟩) objs.length cap) (objs.length - 1) (encOs (objs.take i ++ objs.drop (i + 1))) (W1.setCells g (off + N * 2) [.string { data := #[] }, .string { data := #[] }]) (.slice (some ⟨g, off, none⟩) N cap)) := by
    have hfin := (hR1.set (o := N * 2) (vs := [.string { data := #[] }, .string { data := #[] }]) (by show _ + 2 ≤ _; omega) (by simp [Value.oneCell'])).narrow (m := N) (by omega)
    rw [splice_end _ _ _ (by rw [length_splice _ _ _ (by rw [hdl, hxl]; omega), hxl]; omega)] at hfin
    have hs := splice_cut (encOs objs) (i * 2) (by rw [hxl]; omega)
    rw [hxl, show objs.length * 2 - 2 = N * 2 by omega, show i * 2 + 2 = (i + 1) * 2 by omega] at hs
    rw [hs, t1, t2, ← encOs_append] at hfin
    rw [show objs.length - 1 = N by omega]
    refine ⟨hfin, ?_, .inl rfl⟩
    have hk := hk1.trans (Keep.setCells (X := fun k => k = g) g rfl [.string { data := #[] }, .string { data := #[] }] (off + N * 2) W1) fun _ _ e => e
    exact ⟨hk.os, hk.tape, hk.output, hk.size, fun k hk' hn => hk.block k hk' fun e => hn (by rw [e]; rfl)⟩
  generalize hM : objs.length = M at *
  have HL : Hid (objs.length = N + 1) := hM.trans hN
  clear hM
  subst hN
  rw [show N + 1 - (i + 1) = N - i by omega] at hA
  rw [show i + (N - i) = N by omega] at hA
  have b3 : ¬ (i : Int) = (i : Int) + 1 := by omega
  have b4 : ((i : Int) + 1).toNat = i + 1 := by omega
  have b5 : (i : Int) + 1 ≤ (N : Int) + 1 := by omega
  have b6 : (0 : Int) ≤ (i : Int) + 1 := by omega
  have b7 : (i : Int) ≤ (i : Int) + 1 := by omega
  have b8 : ¬ cap = N := by omega
  have b9 : ¬ cap = 0 := by omega
  have b10 : ¬ (N + 1 = i) := by omega
  have b11 : i ≤ cap := by omega
  have HH := hide h
  have HW1 := hide hW1
  clear h hR1 hk1 hdl hxl hW1 t1 t2 h1d
  by_cases hc : cap = i + 1
  · obtain rfl : i = N := by omega
    subst hc
    have hW0 : W1 = w.drew := by
      rw [HW1.out, List.drop_eq_nil_of_le (by rw [encOs_length, HL.out]; omega)]
      rfl
    rw [hW0] at hcl HF
    clear hA b8 b9 b10
    have b8 : ¬ i + 1 = i := by omega
    go_enter Try.func59, Try.ntmps59
    go_wp2_with fail
    go_region_law fail
    go_wp2_with (simp only [hcl])
    go_ret
    exact ⟨_, rfl, HF.out⟩
  · have hA := fun c => hA ⟨g, off + (i + 1) * 2, none⟩ c (by rw [if_neg hc])
    go_enter Try.func59, Try.ntmps59
    go_wp2_with fail
    go_region_law (refine step_append_at rfl (.tmp 22) (.tmp 25) 66 66 rfl (.slice (some ⟨g, off, none⟩) i cap) (.slice (some ⟨g, off + (i + 1) * 2, none⟩) (N - i) (cap - (i + 1))) (by simp [Act.eval, Act.put]) (by simp [Act.eval, Act.put]) (hA _ _) ?_)
    go_wp2_with (simp only [hcl])
    go_ret
    exact ⟨_, rfl, HF.out⟩

end Wi
end Go.Proofs.Ythnhapjjgaicdaa
