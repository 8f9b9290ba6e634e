/- Extents one behind the other; what a Change leaves. -/
import Derived.Test.YtgdfmoehbgmfkaaDg
namespace Go.Proofs.Ytgdfmoehbgmfkaa
open Go.RowKit
namespace Li
open Wi
def xc (x : Ix) : List Value := [.int .i64 x.a, .int .i64 x.n, .int .i64 x.q, .int .i64 x.t]
def xcs (l : List Ix) : List Value := l.flatMap xc
theorem xcs_cons (x : Ix) (l : List Ix) : xcs (x :: l) = xc x ++ xcs l := rfl
theorem xcs_append (l m : List Ix) : xcs (l ++ m) = xcs l ++ xcs m := List.flatMap_append
theorem xcs_length : ∀ l : List Ix, (xcs l).length = l.length * 4
  | [] => rfl
  | x :: l => by rw [xcs_cons, List.length_append, xcs_length l, List.length_cons]; show 4 + _ = _; omega
theorem xcs_get : ∀ (l : List Ix) (j : Nat) (x : Ix), l[j / 4]? = some x → (xcs l)[j]? = (xc x)[j % 4]?
  | [], j, x, h => by simp at h
  | y :: l, j, x, h => by
    rw [xcs_cons]
    by_cases hj : j < 4
    · have h0 : j / 4 = 0 := by omega
      rw [h0] at h
      have h : y = x := by simpa using h
      rw [List.getElem?_append_left (by show j < 4; exact hj), show j % 4 = j by omega, h]
    · rw [List.getElem?_append_right (by show 4 ≤ j; omega)]
      have h1 : (xc y).length = 4 := rfl
      rw [h1]
      have h2 : j / 4 = (j - 4) / 4 + 1 := by omega
      rw [h2] at h
      have := xcs_get l (j - 4) x (by simpa using h)
      rw [this, show (j - 4) % 4 = j % 4 by omega]
theorem xcs_ones (xs : List Ix) : ∀ u ∈ xcs xs, u.oneCell' = true := by
  intro u hu
  obtain ⟨x, _, hx⟩ := List.mem_flatMap.1 hu
  simp only [xc, List.mem_cons, List.not_mem_nil, or_false] at hx
  rcases hx with rfl | rfl | rfl | rfl <;> rfl
theorem info51 : (Try.prog.info? 51).map (fun i => (i.zero, i.size, i.bytes)) = some (some (.agg #[.int .i64 0, .int .i64 0, .int .i64 0, .int .i64 0]), 4, 32) := by kernel_rfl
theorem run_append_nil31 {w : World} {base : Nat} {ty : TypeId} {v : Value} {n : Nat} {ys : List Value} (c : Nat) (hown : w.ownsRow base 51 4 v n ys) : (Builtin.append_ #[31, 31] ty #[v, .slice none 0 c]).run Try.prog w = .ok v w := by
  obtain ⟨i, hi, _⟩ := info_parts info51
  rcases hown.2 with ⟨rfl, rfl⟩ | ⟨g, cap, cur, rfl, _, _, hnc, _⟩
  · simp [Builtin.append_, run_underlying Try.underlying31, sizeOf, typeInfo, hi, Builtin.lenOf, Builtin.firstCells]
  · simp [Builtin.append_, run_underlying Try.underlying31, sizeOf, typeInfo, hi, Builtin.lenOf, Builtin.firstCells, hnc, storeCells]
set_option maxRecDepth 100000 in
/-- Extents that are handed in, appended to extents that are owned. -/
theorem wpList_append_xs {w : World} {ops : Array Oper} {rest : List Oper} {o : Oper} {A : Act} {Q : Exit → Act → World → Prop} (hgd : o.guard = none) (s x : Operand)
    (ho : o.op = .call { callee := .builtin .append, args := #[s, x], argTypes := #[31, 31] }) {v : Value} {b0 : Nat} {ys : List Ix} (hs : A.eval s = v) (hown : w.ownsRow b0 51 4 v ys.length (xcs ys))
    {a : Option Addr} {n c : Nat} {xs : List Ix} (hx : A.eval x = .slice a n c) (hE : Ex w a n xs) (hl : ys.length + xs.length ≤ 1000000) (hb : b0 ≤ w.heap.size)
    (h : ∀ v' w', w'.ownsRow b0 51 4 v' (ys ++ xs).length (xcs (ys ++ xs)) → w.grownBy w' v.ownBlock → wpList Try.prog ops Q rest (A.put o.dst v') w') : wpList Try.prog ops Q (o :: rest) A w := by
  obtain ⟨i0, hi, hz0, hz1, hz2⟩ := info_parts info51
  cases a with
  | none =>
    have hxs : xs = [] := by
      cases xs with
      | nil => rfl
      | cons y r => obtain ⟨g, off, e, _⟩ := hE.cells 0 y rfl; cases e
    subst hxs
    have hn : n = 0 := hE.len
    subst hn
    refine wpList_plain hgd fun K hK => ?_
    unfold Oper.wp
    have hrun := fun ty => run_append_nil31 (ty := ty) c hown
    simp only [execOp, ho, resolve, invoke, builtin, Sem.run_bind, Sem.run_pure, Result.andThen_ok, List.map_toArray, List.map_cons, List.map_nil, hs, hx, hrun]
    refine hK _ _ (h v w (by rw [List.append_nil]; exact hown) ⟨rfl, rfl, rfl, Nat.le_refl _, fun _ _ _ => rfl⟩)
  | some ad =>
    have hln := hE.len
    by_cases h0 : xs = []
    · subst h0
      have hn : n = 0 := hE.len
      subst hn
      refine wpList_append_own _ hgd s x 31 ho b0 51 i0 _ 4 32 Try.underlying31 hi hz0 hz1 hz2 rfl (by decide) v _ _ hs hown ad 0 c [] hx rfl (fun j u hj => by simp at hj) (fun u hu => by cases hu) (by simp only [maxLen]; omega) (by omega) hb fun v' w' h1 h2 _ => h v' w' ?_ h2
      rw [List.append_nil]
      rw [List.append_nil] at h1
      exact h1
    · obtain ⟨x0, hx0⟩ : ∃ x0, xs[0]? = some x0 := by
        cases xs with
        | nil => exact absurd rfl h0
        | cons y r => exact ⟨y, rfl⟩
      obtain ⟨g, off, e, _⟩ := hE.cells 0 x0 hx0
      injection e with e
      subst e
      refine wpList_append_own _ hgd s x 31 ho b0 51 i0 _ 4 32 Try.underlying31 hi hz0 hz1 hz2 rfl (by decide) v _ _ hs hown ⟨g, off, none⟩ n c (xcs xs) hx (by rw [xcs_length, hln]) (fun j u hj => ?_) (xcs_ones _) (by simp only [maxLen]; omega) (by omega) hb fun v' w' h1 h2 _ => h v' w' ?_ h2
      · have hjl := (List.getElem?_eq_some_iff.1 hj).1
        rw [xcs_length] at hjl
        have hd : j / 4 < xs.length := by omega
        have hy : xs[j / 4]? = some xs[j / 4] := List.getElem?_eq_getElem hd
        rw [xcs_get xs j _ hy] at hj
        obtain ⟨g', off', e, _, c0, c1, c2, c3⟩ := hE.cells _ _ hy
        injection e with e
        injection e with e1 e2
        subst e1 e2
        rw [Addr.add_lit]
        have hm : j % 4 = 0 ∨ j % 4 = 1 ∨ j % 4 = 2 ∨ j % 4 = 3 := by omega
        rcases hm with hm | hm | hm | hm
        · rw [hm] at hj; injection hj with hj; rw [← hj, show off + j = off + j / 4 * 4 by omega]; exact c0
        · rw [hm] at hj; injection hj with hj; rw [← hj, show off + j = off + j / 4 * 4 + 1 by omega]; exact c1
        · rw [hm] at hj; injection hj with hj; rw [← hj, show off + j = off + j / 4 * 4 + 2 by omega]; exact c2
        · rw [hm] at hj; injection hj with hj; rw [← hj, show off + j = off + j / 4 * 4 + 3 by omega]; exact c3
      · rw [List.length_append, xcs_append, ← hln]
        exact h1
/-- Extents that are owned, as a slice's memory. -/
theorem ex_own {w : World} {n0 : Nat} {a : Option Addr} {n cap : Nat} {xs : List Ix} (h : w.ownsRow n0 51 4 (.slice a n cap) n (xcs xs)) (hn : n = xs.length) (hr : ∀ x ∈ xs, x.Rng) (hm : n ≤ 9223372036854775807) : Ex w a n xs := by
  refine ⟨hn, hm, hr, fun i x hi => ?_⟩
  have hil := (List.getElem?_eq_some_iff.1 hi).1
  rcases h.2 with ⟨_, h0⟩ | ⟨g, cap', cur, hv, hb, hgg, rest⟩
  · omega
  · injection hv with e1 e2 e3
    subst e1
    have c : ∀ j, j < 4 → w.cell? ⟨g, i * 4 + j, none⟩ = (xc x)[j]? := fun j hj => by
      have h9 : xs[(i * 4 + j) / 4]? = some x := by rw [show (i * 4 + j) / 4 = i by omega]; exact hi
      rw [World.ownsRow.cellAt h (i * 4 + j) (by omega), xcs_get xs (i * 4 + j) x h9, show (i * 4 + j) % 4 = j by omega]
    refine ⟨g, 0, rfl, lt_of_block hgg, ?_, ?_, ?_, ?_⟩
    · rw [Nat.zero_add]; exact c 0 (by omega)
    · rw [Nat.zero_add]; exact c 1 (by omega)
    · rw [Nat.zero_add]; exact c 2 (by omega)
    · rw [Nat.zero_add]; exact c 3 (by omega)
/-- Objects that no extent tells of are not counted. -/
theorem cnt_none : ∀ (xs : List Ix) (m : Al Int) (k : Int), getA (xs.foldl stepC m) k = none ↔ getA m k = none ∧ ∀ x ∈ xs, x.q ≠ 0 → x.q ≠ k
  | [], m, k => by simp
  | x :: r, m, k => by
    rw [List.foldl_cons, cnt_none r (stepC m x) k]
    have : getA (stepC m x) k = none ↔ getA m k = none ∧ (x.q ≠ 0 → x.q ≠ k) := by
      unfold stepC
      by_cases e : x.q = 0
      · rw [if_pos e]; simp [e]
      · rw [if_neg e]
        by_cases e2 : k = x.q
        · subst e2; rw [getA_put_same]; simp [e]
        · rw [getA_put_other _ _ e2]; simp [e, Ne.symm e2]
    rw [this]
    constructor
    · rintro ⟨⟨h1, h2⟩, h3⟩
      refine ⟨h1, fun y hy => ?_⟩
      rcases List.mem_cons.1 hy with rfl | hy
      · exact h2
      · exact h3 y hy
    · rintro ⟨h1, h2⟩
      exact ⟨⟨h1, h2 x (by simp)⟩, fun y hy => h2 y (by simp [hy])⟩
theorem cntM_none (xs : List Ix) (k : Int) : getA (cntM xs) k = none ↔ ∀ x ∈ xs, x.q ≠ 0 → x.q ≠ k := by
  have := cnt_none xs [] k
  rw [cntM, this]; simp [getA]
theorem cnt_both {ms ls : List Ix} {k : Int} (h : getA (cntM (ms ++ ls)) k = none) : getA (cntM ms) k = none ∧ getA (cntM ls) k = none := by
  rw [cntM_none] at *
  rw [cntM_none]
  exact ⟨fun x hx => h x (by simp [hx]), fun x hx => h x (by simp [hx])⟩
/-- A Change turns nothing of objects that it does not tell of. -/
theorem apart_facts {rs : Rows} {ms ls : List Ix} (hr : Ris rs) (i : Nat) (x : Ro) (hx : rs[i]? = some x) : ∃ y, (chT rs ms ls)[i]? = some y ∧ y.1 = x.1 ∧ y.2.1 = x.2.1 ∧ (getA (cntM (ms ++ ls)) x.1 = none → y = x) := by
  by_cases h : chE rs ms ls = 0
  · obtain ⟨h1, h2, h3⟩ := chE_zero h
    obtain ⟨hall, _⟩ := chgE_zero h3
    have hT : chT rs ms ls = rs.map (docR (cntM ms) (cntM ls)) := by
      unfold chT
      rw [h1, h2]
      show chgT rs _ = _
      unfold chgT
      rw [if_pos h3, doc_put hr (cntM_ris ms) (cntM_ris ls) hall]
    refine ⟨docR (cntM ms) (cntM ls) x, by rw [hT, List.getElem?_map, hx]; rfl, rfl, rfl, fun hn => ?_⟩
    obtain ⟨n1, n2⟩ := cnt_both hn
    unfold docR
    rw [n1, n2]
    obtain ⟨a, b, c⟩ := x
    simp
  · rw [chT_no h]
    exact ⟨x, hx, rfl, rfl, fun _ => rfl⟩
end Li
end Go.Proofs.Ytgdfmoehbgmfkaa
