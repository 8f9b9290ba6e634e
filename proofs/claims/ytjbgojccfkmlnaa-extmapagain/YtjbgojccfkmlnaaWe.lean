/- Rows of extents in memory: their cells, their parts, a copy of them. -/
import Derived.Lib.SliceRun
import Derived.Test.YtjbgojccfkmlnaaWd
namespace Go.Proofs.Ytjbgojccfkmlnaa
open Go.RowKit
namespace Wi

theorem info40 : (Try.prog.info? 40).map (fun i => (i.zero, i.size, i.bytes)) = some (some (.agg #[.int .i64 0, .int .i64 0, .int .i64 0, .int .i64 0]), 4, 32) := by kernel_rfl
def encX (x : Xt) : List Value := [.int .i64 (x.at_ : Nat), .int .i64 (x.len : Nat), .int .i64 (x.seq : Nat), .int .i64 (x.to : Nat)]
def encXs (l : List Xt) : List Value := l.flatMap encX
theorem encXs_length (l : List Xt) : (encXs l).length = l.length * 4 := flat_len (k := 4) l fun _ _ => rfl
theorem encXs_append (l m : List Xt) : encXs (l ++ m) = encXs l ++ encXs m := List.flatMap_append
theorem encXs_oneCell (l : List Xt) : ∀ u ∈ encXs l, u.oneCell' = true := by
  intro u hu
  obtain ⟨o, _, ho⟩ := List.mem_flatMap.1 hu
  simp only [encX, List.mem_cons, List.not_mem_nil, or_false] at ho
  rcases ho with rfl | rfl | rfl | rfl <;> rfl
theorem encXs_parts (l : List Xt) (i : Nat) (hi : i ≤ l.length) : (encXs l).take (i * 4) = encXs (l.take i) ∧ (encXs l).drop (i * 4) = encXs (l.drop i) := by
  have e : encXs l = encXs (l.take i) ++ encXs (l.drop i) := by rw [← encXs_append, List.take_append_drop]
  have hl : (encXs (l.take i)).length = i * 4 := by rw [encXs_length, List.length_take, Nat.min_eq_left hi]
  rw [e]
  exact ⟨by rw [← hl, List.take_left], by rw [← hl, List.drop_left]⟩
theorem encXs_get {l : List Xt} {i : Nat} {x : Xt} (h : l[i]? = some x) : (encXs l)[i * 4]? = some (.int .i64 (x.at_ : Nat)) ∧ (encXs l)[i * 4 + 1]? = some (.int .i64 (x.len : Nat)) ∧ (encXs l)[i * 4 + 2]? = some (.int .i64 (x.seq : Nat)) ∧ (encXs l)[i * 4 + 3]? = some (.int .i64 (x.to : Nat)) := by
  have hp : ((encXs l).drop (i * 4)).take 4 = encX x := flat_part (f := encX) (k := 4) l i x (fun _ _ => rfl) h
  have e := fun j : Nat => congrArg (fun l : List Value => l[j]?) hp
  refine ⟨?_, ?_, ?_, ?_⟩
  · simpa [encX] using e 0
  · simpa [encX] using e 1
  · simpa [encX] using e 2
  · simpa [encX] using e 3
/-- A slice's memory holds these extents. -/
def Xs (w : World) (v : Value) (l : List Xt) : Prop := Rw w 40 4 v l.length (encXs l)
theorem Xs.later {w w' : World} {v : Value} {l : List Xt} (h : Xs w v l) (hb : Below w.heap.size w w') : Xs w' v l := Rw.later h hb
theorem Xs.nil (w : World) : Xs w (.slice none 0 0) [] := Rw.nil _ _ _
/-- The four cells of an extent, from some place on. -/
structure XCell (w : World) (g o : Nat) (x : Xt) : Prop where
  c0 : w.cell? ⟨g, o, none⟩ = some (.int .i64 (x.at_ : Nat))
  c1 : w.cell? ⟨g, o + 1, none⟩ = some (.int .i64 (x.len : Nat))
  c2 : w.cell? ⟨g, o + 2, none⟩ = some (.int .i64 (x.seq : Nat))
  c3 : w.cell? ⟨g, o + 3, none⟩ = some (.int .i64 (x.to : Nat))
  f : ∀ j, w.frozen? ⟨g, j, none⟩ = false
  lt : g < w.heap.size
theorem XCell.later {w w' : World} {g o : Nat} {x : Xt} (h : XCell w g o x) (hb : Below w.heap.size w w') : XCell w' g o x :=
  ⟨(hb.cell (p := ⟨g, _, none⟩) h.lt).trans h.c0, (hb.cell (p := ⟨g, _, none⟩) h.lt).trans h.c1, (hb.cell (p := ⟨g, _, none⟩) h.lt).trans h.c2, (hb.cell (p := ⟨g, _, none⟩) h.lt).trans h.c3, fun j => (hb.frozen (p := ⟨g, j, none⟩) h.lt).trans (h.f j), Nat.lt_of_lt_of_le h.lt hb.size⟩
theorem Xs.cell {w : World} {g off n cap : Nat} {l : List Xt} (h : Xs w (.slice (some ⟨g, off, none⟩) n cap) l) {i : Nat} {x : Xt} (hi : l[i]? = some x) : XCell w g (off + i * 4) x := by
  obtain ⟨e0, e1, e2, e3⟩ := encXs_get hi
  obtain ⟨a, c, hv⟩ := Rw.form h
  injection hv with h1 h2 h3
  subst h2
  have hR : Rw w 40 4 (.slice (some ⟨g, off, none⟩) l.length cap) l.length (encXs l) := h
  refine ⟨(hR.cell e0).1, by rw [Nat.add_assoc]; exact (hR.cell e1).1, by rw [Nat.add_assoc]; exact (hR.cell e2).1, by rw [Nat.add_assoc]; exact (hR.cell e3).1, fun j => ?_, ?_⟩
  · rcases hR.2 with ⟨hv, _⟩ | ⟨g', off', cap', cur, hv, hg, _⟩
    · cases hv
    · cases hv
      exact frozen_of_row w _ _ _ _ hg
  · exact hR.lt g rfl
/-- Where its elements lie, if there are any. -/
theorem Xs.at {w : World} {a : Option Addr} {n cap : Nat} {l : List Xt} (h : Xs w (.slice a n cap) l) : n = l.length ∧ ∀ i x, l[i]? = some x → ∃ g off, a = some ⟨g, off, none⟩ ∧ XCell w g (off + i * 4) x := by
  obtain ⟨a', c, hv⟩ := Rw.form h
  injection hv with h1 h2 h3
  refine ⟨h2, fun i x hi => ?_⟩
  obtain ⟨g, off, cap', hv', _⟩ := Rw.pos h (by have := (List.getElem?_eq_some_iff.1 hi).1; omega)
  injection hv' with k1 k2 k3
  subst k1
  exact ⟨g, off, rfl, h.cell hi⟩
theorem run_append_rws {P : Program} {w : World} (t ty e : TypeId) (i : TypeInfo) (z : Value) (size bytes : Nat) (ht : P.underlying t = some (.slice e)) (hi : P.info? e = some i) (hz : i.zero = some z)
    (hsize : i.size = size) (hby : i.bytes = bytes) (hzs : z.cells.size = size) (hsz : 0 < size)
    (v : Value) (n : Nat) (xs : List Value) (hown : Rw w e size v n xs)
    (a : Option Addr) (m c : Nat) (news : List Value) (hsrc : Rw w e size (.slice a m c) m news) (h1 : ∀ u ∈ news, u.oneCell' = true)
    (h63 : n + m ≤ maxLen) (hbytes : (n + m) * bytes ≤ 140737488355328) :
    ∃ v' w', (Builtin.append_ #[t, t] ty #[v, .slice a m c]).run P w = .ok v' w' ∧ Rw w' e size v' (n + m) (xs ++ news) ∧ w.grownBy w' v.ownBlock ∧ Moved w v v' := by
  rcases hsrc.2 with ⟨hv, rfl⟩ | ⟨g, off, cap, cur, hv, _⟩
  · injection hv with e1 _ e3
    subst e1 e3
    have hx : news = [] := List.eq_nil_of_length_eq_zero (by simpa using hsrc.1)
    subst hx
    refine ⟨v, w, ?_, by simpa using hown, ⟨rfl, rfl, rfl, Nat.le_refl _, fun _ _ _ => rfl⟩, Moved.refl _ _⟩
    rcases hown.2 with ⟨rfl, rfl⟩ | ⟨g, off, cap, cur, rfl, _, hnc, _⟩
    · simp [Builtin.append_, run_underlying ht, sizeOf, typeInfo, hi, Builtin.lenOf, Builtin.firstCells]
    · simp [Builtin.append_, run_underlying ht, sizeOf, typeInfo, hi, Builtin.lenOf, Builtin.firstCells, hnc, storeCells]
  · injection hv with e1 _ e3
    subst e1
    exact run_append_rw t ty e i z size bytes ht hi hz hsize hby hzs hsz v n xs hown ⟨g, off, none⟩ m c news hsrc.1 hsrc.cells h1 h63 hbytes
theorem wpList_append_rws {P : Program} {w : World} {ops : Array Oper} {rest : List Oper} {o : Oper} {a : Act} {Q : Exit → Act → World → Prop} (hgd : o.guard = none) (s x : Operand) (t : TypeId)
    (ho : o.op = .call { callee := .builtin .append, args := #[s, x], argTypes := #[t, t] })
    (e : TypeId) (i : TypeInfo) (z : Value) (size bytes : Nat) (ht : P.underlying t = some (.slice e)) (hi : P.info? e = some i) (hz : i.zero = some z)
    (hsize : i.size = size) (hby : i.bytes = bytes) (hzs : z.cells.size = size) (hsz : 0 < size)
    (v : Value) (n : Nat) (xs : List Value) (hs : a.eval s = v) (hown : Rw w e size v n xs)
    (ad : Option Addr) (m c : Nat) (news : List Value) (hx : a.eval x = .slice ad m c) (hsrc : Rw w e size (.slice ad m c) m news) (h1 : ∀ u ∈ news, u.oneCell' = true)
    (h63 : n + m ≤ maxLen) (hbytes : (n + m) * bytes ≤ 140737488355328)
    (h : ∀ v' w', Rw w' e size v' (n + m) (xs ++ news) → w.grownBy w' v.ownBlock → Moved w v v' → wpList P ops Q rest (a.put o.dst v') w') : wpList P ops Q (o :: rest) a w := by
  refine wpList_plain hgd fun _ hK => ?_
  obtain ⟨v', w', hr, h2, h3, h4⟩ := run_append_rws (P := P) (w := w) t o.type e i z size bytes ht hi hz hsize hby hzs hsz v n xs hown ad m c news hsrc h1 h63 hbytes
  unfold Oper.wp execOp
  simp only [ho, resolve, invoke, builtin, Sem.run_bind, Sem.run_pure, Result.andThen_ok, List.map_toArray, List.map_cons, List.map_nil, hs, hx, hr]
  exact hK _ _ (h v' w' h2 h3 h4)
/-- New memory that holds a row. -/
structure Fresh (w : World) (e : TypeId) (size n : Nat) (xs : List Value) (w' : World) (v : Value) : Prop where
  row : Rw w' e size v n xs
  new : From w.heap.size v
  below : Below w.heap.size w w'
theorem empty_row (w : World) (e : TypeId) (size : Nat) : Rw (w.alloc (.cells #[] e)) e size (.slice (some ⟨w.heap.size, 0, none⟩) 0 0) 0 [] :=
  ⟨by simp, .inr ⟨w.heap.size, 0, 0, _, rfl, heap_alloc_new w _, Nat.le_refl _, Nat.zero_le _, by simp, by simp⟩⟩
theorem fresh_of {w w1 w2 : World} {e : TypeId} {size n : Nat} {xs : List Value} {v2 : Value} {a c : Nat} (hb : Below w.heap.size w w1) (g1 : Rw w2 e size v2 (0 + n) ([] ++ xs)) (g2 : w1.grownBy w2 (Value.slice (some ⟨w.heap.size, 0, none⟩) a c).ownBlock) (g3 : Moved w1 (.slice (some ⟨w.heap.size, 0, none⟩) a c) v2) : Fresh w e size n xs w2 v2 := by
  have hf : From w.heap.size (Value.slice (some ⟨w.heap.size, 0, none⟩) a c) := fun k hk => by simp [Value.ownBlock] at hk; omega
  exact ⟨by simpa using g1, hf.moved g3 hb.size, below_grown hb g2 hb.size hf⟩

theorem append30 {w : World} {ops : Array Oper} {rest : List Oper} {o : Oper} {a : Act} {Q : Exit → Act → World → Prop} (hgd : o.guard = none) (s x : Operand)
    (ho : o.op = .call { callee := .builtin .append, args := #[s, x], argTypes := #[30, 30] })
    (v : Value) (n : Nat) (xs : List Value) (hs : a.eval s = v) (hown : Rw w 40 4 v n xs)
    (ad : Option Addr) (m c : Nat) (news : List Value) (hx : a.eval x = .slice ad m c) (hsrc : Rw w 40 4 (.slice ad m c) m news) (h1 : ∀ u ∈ news, u.oneCell' = true)
    (h63 : n + m ≤ maxLen) (hbytes : (n + m) * 32 ≤ 140737488355328)
    (h : ∀ v' w', Rw w' 40 4 v' (n + m) (xs ++ news) → w.grownBy w' v.ownBlock → Moved w v v' → wpList Try.prog ops Q rest (a.put o.dst v') w') : wpList Try.prog ops Q (o :: rest) a w := by
  obtain ⟨i0, hi, hz0, hz1, hz2⟩ := info_parts info40
  exact wpList_append_rws hgd s x 30 ho 40 i0 _ 4 32 Try.underlying30 hi hz0 hz1 hz2 rfl (by decide) v n xs hs hown ad m c news hx hsrc h1 h63 hbytes h

set_option maxHeartbeats 2000000 in
set_option maxRecDepth 20000 in
theorem clone39 {w : World} {v : Value} {n : Nat} {xs : List Value} (h : Rw w 40 4 v n xs) (h1 : ∀ u ∈ xs, u.oneCell' = true) (hn : n ≤ 1000000) : Calls Try.prog 39 #[v] w fun e w' => ∃ v', e = .returned v' ∧ Fresh w 40 4 n xs w' v' := by
  have qT : ∀ (w : World) (a : Option Addr) (n c n' c' : Nat), (binOp .eql 30 (.slice a n c) (.slice none n' c')).run Try.prog w = .ok (.bool a.isNone) w := fun w a n c n' c' => Lib.run_eql_slice_nil w _ _ a n c n' c' Try.underlying30
  rcases h.2 with ⟨rfl, rfl⟩ | ⟨g, off, cap, cur, rfl, _⟩
  · have hx : xs = [] := List.eq_nil_of_length_eq_zero (by simpa using h.1)
    subst hx
    have HF : Hid (Fresh w 40 4 0 [] w (.slice none 0 0)) := ⟨Rw.nil _ _ _, From.nil _ _ _, Below.refl _ _⟩
    clear h h1
    go_enter Try.func39, Try.ntmps39
    go_wp2
    go_ret
    exact ⟨_, rfl, HF.out⟩
  · have HR := hide (h.later (below_alloc w (.cells #[] 40)))
    have HE := hide (empty_row w 40 4)
    have H1 := hide h1
    have HB := hide (below_alloc w (.cells #[] 40))
    have hx1 : 0 + n ≤ maxLen := by unfold maxLen; omega
    have hx2 : (0 + n) * 32 ≤ 140737488355328 := by omega
    clear h h1
    go_enter Try.func39, Try.ntmps39
    go_wp2_with (at_builtin; refine append30 rfl (.tmp 5) (.tmp 6) rfl _ 0 [] rfl HE.out _ n cap _ rfl HR.out H1.out hx1 hx2 ?_; intro v2 w2 g1 g2 g3; replace g1 := hide g1; replace g2 := hide g2; replace g3 := hide g3)
    have HF : Hid (Fresh w 40 4 n xs w2 v2) := fresh_of HB.out g1.out g2.out g3.out
    clear g1 g2 g3
    go_ret
    exact ⟨_, rfl, HF.out⟩

/-- A part of a slice. -/
theorem Rw.sub {w : World} {e : TypeId} {size n lo hi mx cap : Nat} {a : Option Addr} {xs : List Value} (h : Rw w e size (.slice a n cap) n xs) (h1 : lo ≤ hi) (h2 : hi ≤ n) (h3 : hi ≤ mx) (h4 : mx ≤ cap) : Rw w e size (.slice (if mx = lo then a else a.map (·.add (lo * size))) (hi - lo) (mx - lo)) (hi - lo) ((xs.drop (lo * size)).take ((hi - lo) * size)) := by
  have hle : lo * size + (hi - lo) * size ≤ n * size := by rw [← Nat.add_mul]; exact Nat.mul_le_mul_right _ (by omega)
  refine ⟨by rw [List.length_take, List.length_drop, h.1]; omega, ?_⟩
  rcases h.2 with ⟨hv, rfl⟩ | ⟨g, off, cap', cur, hv, hg, k1, k2, k3, k4⟩
  · cases hv
    obtain rfl : lo = 0 := by omega
    obtain rfl : hi = 0 := by omega
    obtain rfl : mx = 0 := by omega
    exact .inl ⟨by simp, rfl⟩
  · cases hv
    by_cases hc : mx = lo
    · subst hc
      obtain rfl : hi = mx := by omega
      refine .inr ⟨g, off, 0, cur, by simp, hg, by omega, by omega, by omega, by simp⟩
    · refine .inr ⟨g, off + lo * size, mx - lo, cur, by rw [if_neg hc]; simp [Addr.add_mid], hg, by omega, by omega, ?_, ?_⟩
      · have : lo * size + (mx - lo) * size ≤ cap * size := by rw [← Nat.add_mul]; exact Nat.mul_le_mul_right _ (by omega)
        omega
      · rw [← k4, List.drop_take, List.take_take, Nat.min_eq_left (by omega), List.drop_drop]
theorem sub_own {a : Option Addr} {k m n c n' c' : Nat} {p : Prop} [Decidable p] : (Value.slice (if p then a else a.map (·.add (k * m))) n c).ownBlock = (Value.slice a n' c').ownBlock := by
  split
  · cases a <;> rfl
  · cases a with
    | none => rfl
    | some a => simp [Value.ownBlock, Addr.add]; split <;> rfl

end Wi
end Go.Proofs.Ytjbgojccfkmlnaa
