/- Copies, clears and appends in a row of extents, and parts of it. -/
import Derived.Test.YtjbgojccfkmlnaaWo
import Derived.Lib.Overlaps
import Derived.Laws.IdiomCopy
namespace Go.Proofs.Ytjbgojccfkmlnaa
open Go.RowKit
namespace Wi

/-- copy, of elements of so many cells. -/
theorem run_copy_sized {P : Program} (w : World) (dT sT ty elem : TypeId) (size b o dLen dCap : Nat) (a : Addr) (sLen sCap : Nat) (cs : List Value)
    (hu : P.underlying dT = some (.slice elem)) (hs : (P.info? elem).map (·.size) = some size) (hn : cs.length = Nat.min sLen dLen * size)
    (hsrc : ∀ j v, cs[j]? = some v → w.cell? (a.add j) = some v) (hc : ∀ j, j < cs.length → (w.cell? ⟨b, o + j, none⟩).isSome = true) (hf : ∀ j, j < cs.length → w.frozen? ⟨b, o + j, none⟩ = false) (h1 : ∀ v ∈ cs, v.oneCell' = true) :
    (Builtin.copy_ #[dT, sT] ty #[.slice (some ⟨b, o, none⟩) dLen dCap, .slice (some a) sLen sCap]).run P w = .ok (goInt (Nat.min sLen dLen)) (w.setCells b o cs) := by
  have hl := run_loadCells_list (P := P) w a cs hsrc
  have hst := run_storeCells_cells (P := P) b o cs 0 w (by simpa using hc) (by simpa using hf) h1
  rw [hn] at hl
  cases hq : P.info? elem with
  | none => simp [hq] at hs
  | some i =>
    have hi : i.size = size := by simpa [hq] using hs
    simp [Builtin.copy_, run_underlying hu, Builtin.lenOf, Builtin.firstCells, sizeOf, typeInfo, hq, hi, hl] at hst ⊢
    simp [hst]
/-- append of zero values that do not fit. -/
theorem run_append_zeros_grow {P : Program} (w : World) (t tn ty e : TypeId) (i : TypeInfo) (z : Value) (kn : IntKind) (ht : P.underlying t = some (.slice e)) (htn : P.underlying tn = some (.int kn)) (hi : P.info? e = some i) (hz : i.zero = some z)
    (b : Addr) (sLen sCap : Nat) (olds : List Value) (hlo : olds.length = sLen * i.size) (holds : ∀ j v, olds[j]? = some v → w.cell? (b.add j) = some v)
    (n : Nat) (hn0 : 0 < n) (hsz : 0 < i.size) (hg : sCap < sLen + n) (h63 : ((sLen + n : Nat) : Int) ≤ 9223372036854775807) (hfit : Builtin.nextslicecap (sLen + n) sCap * i.bytes ≤ 281474976710656) (h48 : n * i.bytes ≤ 281474976710656) :
    (Builtin.append_ #[t, tn] ty #[.slice (some b) sLen sCap, .int .i64 n]).run P w =
      .ok (.slice (some ⟨w.heap.size, 0, none⟩) (sLen + n) (grownCap w (sLen + n) sCap e))
        (w.drew.alloc (.cells (olds.toArray ++ Builtin.zeroCells z.cells n ++ Builtin.zeroCells z.cells (grownCap w (sLen + n) sCap e - (sLen + n))) e)) := by
  have hn : ¬ (sLen + n ≤ sCap) := by omega
  have hw : IntKind.i64.wrap (n : Int) = n := by rw [IntKind.wrap_i64]; omega
  have h63' : ¬ (9223372036854775807 < ((sLen : Int) + (n : Int))) := by omega
  have h48' : ¬ (281474976710656 < Builtin.nextslicecap (sLen + n) sCap * i.bytes) := by omega
  have h48i : ¬ (281474976710656 < (n : Int) * (i.bytes : Int)) := by
    rw [← Int.natCast_mul]
    omega
  have hneg : ¬ ((n : Int) < 0) := by omega
  have hns : ¬ (n * i.size = 0) := Nat.mul_ne_zero (by omega) (by omega)
  have hfo := run_firstCells_some (P := P) w.drew i.size sLen b sLen sCap olds hlo (by simpa using holds)
  simp [Builtin.append_, run_underlying ht, run_underlying htn, sizeOf, typeInfo, zeroValue, hi, hz, asInt, asIntOf, hw, hn, hneg, hns, h63', h48', h48i, Question.forced, hfo, newRow, grownCap]
theorem Rw.widen {w : World} {e : TypeId} {size n g off cap m : Nat} {xs : List Value} (h : Rw w e size (.slice (some ⟨g, off, none⟩) n cap) n xs) (hm : n + m ≤ cap) : ∃ E, E.length = m * size ∧ Rw w e size (.slice (some ⟨g, off, none⟩) (n + m) cap) (n + m) (xs ++ E) := by
  rcases h.2 with ⟨hv, _⟩ | ⟨g', off', cap', cur, hv, hg, k1, k2, k3, k4⟩
  · cases hv
  · cases hv
    have hle : (n + m) * size ≤ cap * size := Nat.mul_le_mul_right _ hm
    have hE : (cur.toList.drop off).take ((n + m) * size) = xs ++ ((cur.toList.drop off).drop (n * size)).take (m * size) := by
      rw [Nat.add_mul, List.take_add, k4]
    refine ⟨((cur.toList.drop off).drop (n * size)).take (m * size), ?_, ?_, .inr ⟨g, off, cap, cur, rfl, hg, hm, k2, k3, hE⟩⟩
    · rw [Nat.add_mul] at hle
      rw [List.length_take, List.length_drop, List.length_drop]
      simp
      omega
    · rw [← hE, List.length_take, List.length_drop]
      simp
      omega
/-- What an Insert leaves: the new slice, and what it turned. -/
structure Grew (w : World) (e : TypeId) (size : Nat) (v : Value) (n : Nat) (xs : List Value) (w' : World) (v' : Value) : Prop where
  row : Rw w' e size v' n xs
  keep : Keep (fun k => v.ownBlock = some k) w w'
  moved : Moved w v v'
theorem Rw.there {w : World} {e : TypeId} {size n g off cap : Nat} {xs : List Value} (h : Rw w e size (.slice (some ⟨g, off, none⟩) n cap) n xs) {o m : Nat} (hm : o + m ≤ n * size) : ∀ j, j < m → (w.cell? ⟨g, off + o + j, none⟩).isSome = true ∧ w.frozen? ⟨g, off + o + j, none⟩ = false := fun j hj => by
  have hl : o + j < xs.length := by rw [h.1]; omega
  have := h.cell (List.getElem?_eq_getElem hl)
  rw [Nat.add_assoc, this.1]
  exact ⟨rfl, this.2⟩
theorem Rw.src {w : World} {e : TypeId} {size n g off cap : Nat} {xs : List Value} (h : Rw w e size (.slice (some ⟨g, off, none⟩) n cap) n xs) (o : Nat) : ∀ j u, (xs.drop o)[j]? = some u → w.cell? ((⟨g, off + o, none⟩ : Addr).add j) = some u := fun j u hj => by
  rw [Addr.add_mid, Nat.add_assoc]
  rw [List.getElem?_drop] at hj
  exact (h.cell hj).1
theorem wp_copy_run {P : Program} (w : World) {o : Oper} {a : Act} {K : Act → World → Prop} {Q : Exit → Act → World → Prop} (d s : Operand) (t t' : TypeId)
    (ho : o.op = .call { callee := .builtin .copy, args := #[d, s], argTypes := #[t, t'] }) (v u : Value) (hd : a.eval d = v) (hs : a.eval s = u) {v' : Value} {w' : World}
    (hr : (Builtin.copy_ #[t, t'] o.type #[v, u]).run P w = .ok v' w') (h : K (a.put o.dst v') w') : o.wp P a w K Q := by
  unfold Oper.wp execOp
  simp only [ho, resolve, invoke, builtin, Sem.run_bind, Sem.run_pure, Result.andThen_ok, List.map_toArray, List.map_cons, List.map_nil, hd, hs, hr]
  exact h
theorem wpList_copy_at {P : Program} (w : World) {ops : Array Oper} {rest : List Oper} {o : Oper} {a : Act} {Q : Exit → Act → World → Prop} (hgd : o.guard = none) (d s : Operand) (t t' : TypeId)
    (ho : o.op = .call { callee := .builtin .copy, args := #[d, s], argTypes := #[t, t'] }) (v u : Value) (hd : a.eval d = v) (hs : a.eval s = u) {v' : Value} {w' : World}
    (hr : (Builtin.copy_ #[t, t'] o.type #[v, u]).run P w = .ok v' w') (h : wpList P ops Q rest (a.put o.dst v') w') : wpList P ops Q (o :: rest) a w :=
  wpList_plain hgd fun _ hK => wp_copy_run w d s t t' ho v u hd hs hr (hK _ _ h)
theorem step_copy_at {P : Program} {ops : Array Oper} {o : Oper} {a : Act} {w : World} {K : Act → World → Prop} {Q : Exit → Act → World → Prop} {E : Prop}
    (hg : o.guard = none) (d x : Operand) (dT sT : TypeId) (hop : o.op = Op.call { callee := Callee.builtin Builtin.copy, args := #[d, x], argTypes := #[dT, sT] })
    (v u : Value) (hd : a.eval d = v) (hx : a.eval x = u) {v' : Value} {w' : World} (hr : (Builtin.copy_ #[dT, sT] o.type #[v, u]).run P w = .ok v' w') (hK : K (a.put o.dst v') w') :
    if Region.wanted o (yielded ops a.tmps) = true then Oper.wp P o a w K Q else E := by
  have hw : Region.wanted o (yielded ops a.tmps) = true := by simp [Region.wanted, hg]
  rw [if_pos hw]
  unfold Oper.wp
  simp [execOp, hop, resolve, invoke, builtin, hd, hx, hr, Result.andThen]
  exact hK
theorem Rw.drew {w : World} {e : TypeId} {size n : Nat} {v : Value} {xs : List Value} (h : Rw w e size v n xs) : Rw w.drew e size v n xs := h.later (Below.refl _ _).drew
theorem shape_cells {w : World} {g : Nat} {cs : Array Value} {t : TypeId} {f : Nat × Nat} (h : w.heap[g]? = some (.cells cs t f)) : w.shape? g = some (t, cs.size) := by
  simp [World.shape?, h]
theorem wp_append_at {P : Program} (w : World) {o : Oper} {a : Act} {K : Act → World → Prop} {Q : Exit → Act → World → Prop} (s x : Operand) (t tn : TypeId)
    (ho : o.op = .call { callee := .builtin .append, args := #[s, x], argTypes := #[t, tn] }) (v u : Value) (hd : a.eval s = v) (hs : a.eval x = u) {v' : Value} {w' : World}
    (hr : (Builtin.append_ #[t, tn] o.type #[v, u]).run P w = .ok v' w') (h : K (a.put o.dst v') w') : o.wp P a w K Q := by
  unfold Oper.wp execOp
  simp only [ho, resolve, invoke, builtin, Sem.run_bind, Sem.run_pure, Result.andThen_ok, List.map_toArray, List.map_cons, List.map_nil, hd, hs, hr]
  exact h
theorem wpList_append_at {P : Program} (w : World) {ops : Array Oper} {rest : List Oper} {o : Oper} {a : Act} {Q : Exit → Act → World → Prop} (hgd : o.guard = none) (s x : Operand) (t tn : TypeId)
    (ho : o.op = .call { callee := .builtin .append, args := #[s, x], argTypes := #[t, tn] }) (v u : Value) (hd : a.eval s = v) (hs : a.eval x = u) {v' : Value} {w' : World}
    (hr : (Builtin.append_ #[t, tn] o.type #[v, u]).run P w = .ok v' w') (h : wpList P ops Q rest (a.put o.dst v') w') : wpList P ops Q (o :: rest) a w :=
  wpList_plain hgd fun _ hK => wp_append_at w s x t tn ho v u hd hs hr (hK _ _ h)
theorem Rw.narrow {w : World} {e : TypeId} {size n m : Nat} {g off cap : Nat} {xs : List Value} (h : Rw w e size (.slice (some ⟨g, off, none⟩) n cap) n xs) (hm : m ≤ n) : Rw w e size (.slice (some ⟨g, off, none⟩) m cap) m (xs.take (m * size)) := by
  have hle : m * size ≤ n * size := Nat.mul_le_mul_right _ hm
  refine ⟨by rw [List.length_take, h.1]; omega, ?_⟩
  rcases h.2 with ⟨hv, _⟩ | ⟨g', off', cap', cur, hv, hg, k1, k2, k3, k4⟩
  · cases hv
  · cases hv
    exact .inr ⟨g, off, cap, cur, rfl, hg, by omega, k2, k3, by rw [← k4, List.take_take, Nat.min_eq_left hle]⟩
theorem run_clear_sized {P : Program} (w : World) (t e ty : TypeId) (z : Value) (ht : P.underlying t = some (.slice e)) (hz : ∀ w, (zeroValue e).run P w = .ok z w) (g o n c : Nat) (hn : 0 < n) (cs : List Value) (hcs : (Builtin.zeroCells z.cells n).toList = cs)
    (hc : ∀ j, j < cs.length → (w.cell? ⟨g, o + j, none⟩).isSome = true ∧ w.frozen? ⟨g, o + j, none⟩ = false) (h1 : ∀ v ∈ cs, v.oneCell' = true) :
    (Builtin.clear_ #[t] ty #[.slice (some ⟨g, o, none⟩) n c]).run P w = .ok (.tuple #[]) (w.setCells g o cs) := by
  have hst := run_storeCells_cells (P := P) g o cs 0 w (fun j hj => by simpa using (hc j hj).1) (fun j hj => by simpa using (hc j hj).2) h1
  obtain ⟨n, rfl⟩ : ∃ m, n = m + 1 := ⟨n - 1, by omega⟩
  simp [Builtin.clear_, run_underlying ht, hz, hcs]
  simp at hst
  simp [hst]
theorem splice_end {α : Type} (L c : List α) (o : Nat) (ho : o ≤ L.length) : (splice L o c).take o = L.take o := by
  unfold splice
  have hl : (L.take o).length = o := by rw [List.length_take]; omega
  rw [List.take_append_of_le_length (by omega), List.take_take, Nat.min_self]
theorem step_append_at {P : Program} {ops : Array Oper} {o : Oper} {a : Act} {w : World} {K : Act → World → Prop} {Q : Exit → Act → World → Prop} {E : Prop}
    (hg : o.guard = none) (d x : Operand) (dT sT : TypeId) (hop : o.op = Op.call { callee := Callee.builtin Builtin.append, args := #[d, x], argTypes := #[dT, sT] })
    (v u : Value) (hd : a.eval d = v) (hx : a.eval x = u) {v' : Value} {w' : World} (hr : (Builtin.append_ #[dT, sT] o.type #[v, u]).run P w = .ok v' w') (hK : K (a.put o.dst v') w') :
    if Region.wanted o (yielded ops a.tmps) = true then Oper.wp P o a w K Q else E := by
  have hw : Region.wanted o (yielded ops a.tmps) = true := by simp [Region.wanted, hg]
  rw [if_pos hw]
  unfold Oper.wp
  simp [execOp, hop, resolve, invoke, builtin, hd, hx, hr, Result.andThen]
  exact hK

theorem info40s : (Try.prog.info? 40).map (·.size) = some 4 := by kernel_rfl
theorem zero40 (w : World) : (zeroValue 40).run Try.prog w = .ok (.agg #[.int .i64 0, .int .i64 0, .int .i64 0, .int .i64 0]) w := by kernel_rfl
theorem spl_bc {α : Type} (L B C : List α) (b a : Nat) (ha : a = b + B.length) (h : a + C.length ≤ L.length) : (splice (splice L b B) a C).take (a + C.length) = L.take b ++ (B ++ C) := by
  have e1 : splice L b B = (L.take b ++ B) ++ L.drop (b + B.length) := by unfold splice; simp
  have hl : (L.take b ++ B).length = a := by rw [List.length_append, List.length_take]; omega
  rw [e1, splice_mid _ _ _ a hl]
  have h2 : ((L.take b ++ B) ++ C).length = a + C.length := by rw [List.length_append, hl]
  rw [← h2, List.take_left, List.append_assoc]
theorem spl_cb {α : Type} (L B C : List α) (b a : Nat) (ha : a = b + B.length) (h : a + C.length ≤ L.length) : (splice (splice L a C) b B).take (a + C.length) = L.take b ++ (B ++ C) := by
  have hb : (L.take b).length = b := by rw [List.length_take]; omega
  have e0 : L.take a = L.take b ++ (L.drop b).take B.length := by rw [ha, List.take_add]
  have e1 : splice L a C = L.take b ++ ((L.drop b).take B.length ++ (C ++ L.drop (a + C.length))) := by unfold splice; rw [e0]; simp
  have hq : ((L.drop b).take B.length).length = B.length := by rw [List.length_take, List.length_drop]; omega
  rw [e1, splice_mid _ _ _ b hb]
  have e2 : ((L.drop b).take B.length ++ (C ++ L.drop (a + C.length))).drop B.length = C ++ L.drop (a + C.length) := List.drop_left' hq
  rw [e2, ← List.append_assoc]
  have h2 : ((L.take b ++ B) ++ C).length = a + C.length := by rw [List.length_append, List.length_append, hb, ha]
  rw [← h2, List.take_left, List.append_assoc]
set_option maxRecDepth 20000 in
/-- copy, into a row. -/
theorem copy_in {w : World} {g off N cap : Nat} {xs : List Value} (h : Rw w 40 4 (.slice (some ⟨g, off, none⟩) N cap) N xs) (o dl : Nat) {ad : Option Addr} {sl sc : Nat} {ys : List Value} (hs : Rw w 40 4 (.slice ad sl sc) sl ys) (cnt : Nat) (h1t : ∀ u ∈ ys.take (cnt * 4), u.oneCell' = true) (hc : Nat.min sl dl = cnt) (ho : o + cnt ≤ N) :
    ∃ w', (∀ ty dc, (Builtin.copy_ #[30, 30] ty #[.slice (some ⟨g, off + o * 4, none⟩) dl dc, .slice ad sl sc]).run Try.prog w = .ok (goInt cnt) w') ∧ Rw w' 40 4 (.slice (some ⟨g, off, none⟩) N cap) N (splice xs (o * 4) (ys.take (cnt * 4))) ∧ Keep (fun k => k = g) w w' := by
  have hsl : cnt ≤ sl := by rw [← hc]; exact Nat.min_le_left _ _
  have hyl : (ys.take (cnt * 4)).length = cnt * 4 := by rw [List.length_take, hs.1]; omega
  refine ⟨w.setCells g (off + o * 4) (ys.take (cnt * 4)), fun ty dc => ?_, h.set (by rw [hyl]; omega) h1t, Keep.setCells (X := fun k => k = g) g rfl _ _ _⟩
  rcases hs.2 with ⟨hv, rfl⟩ | ⟨g2, off2, cap2, cur, hv, hg, _⟩
  · injection hv with e1 _ e3
    subst e1 e3
    obtain rfl : cnt = 0 := by omega
    have e : Nat.min 0 dl = 0 := Nat.zero_min _
    simp [Builtin.copy_, run_underlying Try.underlying30, Builtin.lenOf, e, World.setCells, Builtin.firstCells, storeCells]
  · injection hv with e1 _ e3
    subst e1 e3
    rw [← hc]
    rw [← hc] at hyl h1t
    have := run_copy_sized (P := Try.prog) w 30 30 ty 40 4 g (off + o * 4) dl dc ⟨g2, off2, none⟩ sl sc (ys.take (Nat.min sl dl * 4)) Try.underlying30 info40s hyl
      (fun j u hj => hs.cells j u (by
        have hl := (List.getElem?_eq_some_iff.1 hj).1
        rw [hyl] at hl
        rwa [List.getElem?_take_of_lt hl] at hj))
      (fun j hj => (h.there (o := o * 4) (m := (ys.take (Nat.min sl dl * 4)).length) (by rw [hyl, hc]; omega) j hj).1) (fun j hj => (h.there (o := o * 4) (m := (ys.take (Nat.min sl dl * 4)).length) (by rw [hyl, hc]; omega) j hj).2) h1t
    exact this
/-- clear, of the end of a row. -/
theorem clear_in {w : World} {g off N cap : Nat} {xs : List Value} (h : Rw w 40 4 (.slice (some ⟨g, off, none⟩) N cap) N xs) (o n : Nat) (ho : o + n ≤ N) (a : Option Addr) (ha : 0 < n → a = some ⟨g, off + o * 4, none⟩) :
    ∃ w' zs, (∀ ty c, (Builtin.clear_ #[30] ty #[.slice a n c]).run Try.prog w = .ok (.tuple #[]) w') ∧ Rw w' 40 4 (.slice (some ⟨g, off, none⟩) N cap) N (splice xs (o * 4) zs) ∧ Keep (fun k => k = g) w w' := by
  by_cases hn : 0 < n
  · have hz : ((Builtin.zeroCells (Value.agg #[.int .i64 0, .int .i64 0, .int .i64 0, .int .i64 0]).cells n).toList).length = n * 4 := by
      rw [Array.length_toList, size_zeroCells]
      rfl
    have h1 : ∀ u ∈ (Builtin.zeroCells (Value.agg #[.int .i64 0, .int .i64 0, .int .i64 0, .int .i64 0]).cells n).toList, u.oneCell' = true := by
      intro u hu
      rw [Array.mem_toList_iff] at hu
      unfold Builtin.zeroCells at hu
      obtain ⟨q, _, rfl⟩ := Array.mem_map.1 hu
      have hq : q % 4 = 0 ∨ q % 4 = 1 ∨ q % 4 = 2 ∨ q % 4 = 3 := by omega
      have hs : (Value.agg #[.int .i64 0, .int .i64 0, .int .i64 0, .int .i64 0]).cells = #[.int .i64 0, .int .i64 0, .int .i64 0, .int .i64 0] := rfl
      simp only [hs]
      show ((#[Value.int .i64 0, .int .i64 0, .int .i64 0, .int .i64 0] : Array Value)[q % 4]!).oneCell' = true
      rcases hq with e | e | e | e <;> rw [e] <;> rfl
    refine ⟨w.setCells g (off + o * 4) (Builtin.zeroCells (Value.agg #[.int .i64 0, .int .i64 0, .int .i64 0, .int .i64 0]).cells n).toList, _, fun ty c => ?_, h.set (o := o * 4) (by rw [hz]; omega) h1, Keep.setCells (X := fun k => k = g) g rfl _ _ _⟩
    rw [ha hn]
    exact run_clear_sized w 30 40 ty _ Try.underlying30 zero40 g (off + o * 4) n c hn _ rfl (fun j hj => h.there (o := o * 4) (m := n * 4) (by omega) j (by rw [hz] at hj; exact hj)) h1
  · obtain rfl : n = 0 := by omega
    refine ⟨w, [], fun ty c => ?_, ?_, Keep.refl _ _⟩
    · simp [Builtin.clear_, run_underlying Try.underlying30]
      try (cases a <;> simp)
    · have : splice xs (o * 4) [] = xs := by unfold splice; simp
      rw [this]
      exact h

end Wi
end Go.Proofs.Ytjbgojccfkmlnaa
