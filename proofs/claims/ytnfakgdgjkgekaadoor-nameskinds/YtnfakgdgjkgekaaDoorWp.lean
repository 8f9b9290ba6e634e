/- Numbers that follow one another: Run; two lists that are the same. -/
import Derived.Lib.SliceRun
import Derived.Test.YtnfakgdgjkgekaaDoorWo
namespace Go.Proofs.YtnfakgdgjkgekaaDoor
open Go.RowKit
namespace Wi

/-- The numbers of a slice that is handed in. -/
structure Is (w : World) (a : Option Addr) (n : Nat) (l : List Int) : Prop where
  len : l.length = n
  num : ∀ x ∈ l, Num x
  cells : ∀ i x, l[i]? = some x → ∃ g off, a = some ⟨g, off, none⟩ ∧ g < w.heap.size ∧ w.cell? ⟨g, off + i, none⟩ = some (.int .i64 x)
theorem Is.later {w w' : World} {a : Option Addr} {n : Nat} {l : List Int} (h : Is w a n l) (hb : Below w.heap.size w w') : Is w' a n l :=
  ⟨h.len, h.num, fun i x hi => by
    obtain ⟨g, off, ha, hg, c0⟩ := h.cells i x hi
    exact ⟨g, off, ha, Nat.lt_of_lt_of_le hg hb.size, (hb.cell (p := ⟨g, off + i, none⟩) hg).trans c0⟩⟩
theorem Rw.is {w : World} {a : Option Addr} {n c : Nat} {l : List Int} (h : Rw w 3 1 (.slice a n c) n (encI l)) (hl : l.length = n) (hn : ∀ x ∈ l, Num x) : Is w a n l :=
  ⟨hl, hn, fun i x hi => by
    have hlt := (List.getElem?_eq_some_iff.1 hi).1
    obtain ⟨g, off, c', hv, hg, _⟩ := h.pos (by omega)
    injection hv with e1 e2 e3
    subst e1 e3
    exact ⟨g, off, rfl, hg, (h.cell (encI_get hi)).1⟩⟩
theorem info3 : (Tryd.prog.info? 3).map (fun i => (i.zero, i.size, i.bytes)) = some (some (.int .i64 0), 1, 8) := by kernel_rfl
set_option maxRecDepth 20000 in
theorem run_append_is {w : World} (ty : TypeId) (v : Value) (n : Nat) (xs : List Value) (hown : Rw w 3 1 v n xs) (a : Option Addr) (m c : Nat) (l : List Int) (hI : Is w a m l) (h63 : n + m ≤ maxLen) (hbytes : (n + m) * 8 ≤ 140737488355328) :
    ∃ v' w', (Builtin.append_ #[38, 38] ty #[v, .slice a m c]).run Tryd.prog w = .ok v' w' ∧ Rw w' 3 1 v' (n + m) (xs ++ encI l) ∧ w.grownBy w' v.ownBlock ∧ Moved w v v' := by
  obtain ⟨i0, hi, hz0, hz1, hz2⟩ := info_parts info3
  have hlen := hI.len
  cases a with
  | none =>
    have hl : l = [] := by
      cases l with
      | nil => rfl
      | cons x r =>
        obtain ⟨g, off, e, _⟩ := hI.cells 0 x rfl
        cases e
    subst hl
    obtain rfl : m = 0 := hlen.symm
    refine ⟨v, w, ?_, by simpa [encI] using hown, ⟨rfl, rfl, rfl, Nat.le_refl _, fun _ _ _ => rfl⟩, Moved.refl _ _⟩
    rcases hown.2 with ⟨rfl, rfl⟩ | ⟨g, off, cap, cur, rfl, _, hnc, _⟩
    · simp [Builtin.append_, run_underlying Tryd.underlying38, sizeOf, typeInfo, hi, Builtin.lenOf, Builtin.firstCells]
    · simp [Builtin.append_, run_underlying Tryd.underlying38, sizeOf, typeInfo, hi, Builtin.lenOf, Builtin.firstCells, hnc, storeCells]
  | some ad =>
    refine run_append_rw 38 ty 3 i0 _ 1 8 Tryd.underlying38 hi hz0 hz1 hz2 rfl (by decide) v n xs hown ad m c (encI l) (by rw [encI_length]; omega) (fun j u hj => ?_) (encI_one l) h63 hbytes
    obtain ⟨x, hx, rfl⟩ : ∃ x, l[j]? = some x ∧ u = .int .i64 x := by
      simp only [encI, List.getElem?_map, Option.map_eq_some_iff] at hj
      obtain ⟨x, h1, h2⟩ := hj
      exact ⟨x, h1, h2.symm⟩
    obtain ⟨g, off, e, _, c0⟩ := hI.cells j x hx
    injection e with e
    subst e
    rw [Addr.add_mid]
    exact c0
theorem append38 {w : World} {ops : Array Oper} {rest : List Oper} {o : Oper} {a : Act} {Q : Exit → Act → World → Prop} (hgd : o.guard = none) (s x : Operand)
    (ho : o.op = .call { callee := .builtin .append, args := #[s, x], argTypes := #[38, 38] })
    (v : Value) (n : Nat) (xs : List Value) (hs : a.eval s = v) (hown : Rw w 3 1 v n xs)
    (ad : Option Addr) (m c : Nat) (l : List Int) (hx : a.eval x = .slice ad m c) (hI : Is w ad m l)
    (h63 : n + m ≤ maxLen) (hbytes : (n + m) * 8 ≤ 140737488355328)
    (h : ∀ v' w', Rw w' 3 1 v' (n + m) (xs ++ encI l) → w.grownBy w' v.ownBlock → Moved w v v' → wpList Tryd.prog ops Q rest (a.put o.dst v') w') : wpList Tryd.prog ops Q (o :: rest) a w := by
  refine wpList_plain hgd fun _ hK => ?_
  obtain ⟨v', w', hr, h2, h3, h4⟩ := run_append_is (w := w) o.type v n xs hown ad m c l hI h63 hbytes
  unfold Oper.wp execOp
  simp only [ho, resolve, invoke, builtin, Sem.run_bind, Sem.run_pure, Result.andThen_ok, List.map_toArray, List.map_cons, List.map_nil, hs, hx, hr]
  exact hK _ _ (h v' w' h2 h3 h4)
/-- New memory that holds numbers. -/
structure NewI (w : World) (l : List Int) (n : Nat) (w' : World) (v : Value) : Prop where
  len : l.length = n
  row : Rw w' 3 1 v n (encI l)
  new : From w.heap.size v
  below : Below w.heap.size w w'
theorem NewI.later {w w1 w2 : World} {l : List Int} {n : Nat} {v : Value} (h : NewI w l n w1 v) (hb : Below w1.heap.size w1 w2) : NewI w l n w2 v := ⟨h.len, h.row.later hb, h.new, h.below.trans (hb.mono h.below.size)⟩
theorem NewI.nil {w w' : World} (hb : Below w.heap.size w w') : NewI w [] 0 w' (.slice none 0 0) := ⟨rfl, Rw.nil _ _ _, From.nil _ _ _, hb⟩
theorem NewI.grow {w w1 w2 w3 : World} {l m : List Int} {n k : Nat} {v v2 : Value} (h : NewI w l n w1 v) (hb : Below w1.heap.size w1 w2) (hk : m.length = k) (g1 : Rw w3 3 1 v2 (n + k) (encI l ++ encI m)) (g2 : w2.grownBy w3 v.ownBlock) (g3 : Moved w2 v v2) : NewI w (l ++ m) (n + k) w3 v2 := by
  have hb2 : Below w.heap.size w w2 := h.below.trans (hb.mono h.below.size)
  exact ⟨by rw [List.length_append, h.len, hk], by rw [encI_append]; exact g1, h.new.moved g3 hb2.size, below_grown hb2 g2 hb2.size h.new⟩
theorem empty_new (w : World) : NewI w [] 0 (w.alloc (.cells #[] 3)) (.slice (some ⟨w.heap.size, 0, none⟩) 0 0) :=
  ⟨rfl, ⟨by simp [encI], .inr ⟨w.heap.size, 0, 0, _, rfl, heap_alloc_new w _, Nat.le_refl _, Nat.zero_le _, by simp, by simp [encI]⟩⟩, fun k hk => by simp [Value.ownBlock] at hk; omega, below_alloc _ _⟩
set_option maxHeartbeats 2000000 in
set_option maxRecDepth 20000 in
theorem clone_any {w : World} {a : Option Addr} {n cap : Nat} {l : List Int} (h : Is w a n l) (hn : n ≤ 1000000) : Calls Tryd.prog 33 #[.slice a n cap] w fun e w' => ∃ v', e = .returned v' ∧ NewI w l n w' v' := by
  have qT : ∀ (w : World) (a : Option Addr) (n c n' c' : Nat), (binOp .eql 38 (.slice a n c) (.slice none n' c')).run Tryd.prog w = .ok (.bool a.isNone) w := fun w a n c n' c' => Lib.run_eql_slice_nil w _ _ a n c n' c' Tryd.underlying38
  cases a with
  | none =>
    have hl : l = [] := by
      cases l with
      | nil => rfl
      | cons x r =>
        obtain ⟨g, off, e, _⟩ := h.cells 0 x rfl
        cases e
    subst hl
    obtain rfl : n = 0 := h.len.symm
    have HF := hide (NewI.nil (Below.refl w.heap.size w))
    clear h
    go_enter Tryd.func33, Tryd.ntmps33
    go_wp2
    go_ret
    exact ⟨_, rfl, HF.out⟩
  | some ad =>
    have HI := hide (h.later (below_alloc w (.cells #[] 3)))
    have HE := hide (empty_new w)
    have hx1 : 0 + n ≤ maxLen := by unfold maxLen; omega
    have hx2 : (0 + n) * 8 ≤ 140737488355328 := by omega
    have HL := hide h.len
    clear h
    go_enter Tryd.func33, Tryd.ntmps33
    go_wp2_with (at_builtin; refine append38 rfl (.tmp 5) (.tmp 6) rfl _ 0 _ rfl HE.out.row _ n cap l rfl HI.out hx1 hx2 ?_; intro v2 w2 g1 g2 g3; replace g1 := hide g1; replace g2 := hide g2; replace g3 := hide g3)
    have HF : Hid (NewI w l n w2 v2) := by
      have := HE.out.grow (Below.refl _ _) HL.out g1.out g2.out g3.out
      show NewI _ _ _ _ _
      simpa using this
    clear g1 g2 g3
    go_ret
    exact ⟨_, rfl, HF.out⟩
set_option maxHeartbeats 2000000 in
theorem ints_same {w : World} {a b : Option Addr} {c d n : Nat} {l : List Int} (h1 : Is w a n l) (h2 : Is w b n l) (hl : n ≤ 1000000) : Calls Tryd.prog 20 #[.slice a n c, .slice b n d] w fun e w' => e = .returned (.bool true) ∧ Below w.heap.size w w' := by
  have HB0 : Hid (Below w.heap.size w w) := Below.refl _ _
  have hlen := hide h1.len
  go_enter Tryd.func20, Tryd.ntmps20
  go_wp2
  go_loopw [5] (fun i wr => ∃ k : Nat, k ≤ n ∧ i = .int .i64 k ∧ Below w.heap.size w wr) (fun i _ => n - (intOf i).toNat)
  case atStart => exact ⟨0, Nat.zero_le _, rfl, HB0.out⟩
  case round =>
    obtain ⟨k, hk, rfl, hb⟩ := hrel
    by_cases hlt : k < n
    · obtain ⟨s, hs⟩ : ∃ s, l[k]? = some s := ⟨_, List.getElem?_eq_getElem (by rw [hlen.out]; exact hlt)⟩
      obtain ⟨g1, o1, rfl, hg1, r1⟩ := (h1.later hb).cells k s hs
      obtain ⟨g2, o2, rfl, hg2, r2⟩ := (h2.later hb).cells k s hs
      have k1 : ∀ p : Later wr, p.val.cell? ⟨g1, o1 + k, none⟩ = some (.int .i64 s) := fun p => (p.below.cell (p := ⟨g1, o1 + k, none⟩) hg1).trans r1
      have k2 : ∀ p : Later wr, p.val.cell? ⟨g2, o2 + k, none⟩ = some (.int .i64 s) := fun p => (p.below.cell (p := ⟨g2, o2 + k, none⟩) hg2).trans r2
      have hne := later_ne wr
      have HB := hide hb
      clear r1 r2 hs h1 h2 hb
      go_wp2
      refine wp_region_later (by kernel_rfl) (by kernel_rfl) ?_
      (repeat (first | go_big_quiet_skip | (go_big_quiet_want; go_big_quiet_op; go_big_quiet_on)))
      refine wpQuiet_nil ?_
      rintro _ ⟨p, rfl⟩
      have HB2 := hide (HB.out.trans (p.below.mono HB.out.size))
      clear k1 k2 hne
      generalize p.val = w3 at *
      go_wp2
      go_roundw
      case rel => exact ⟨k + 1, by omega, by go_num, HB2.out⟩
      case measure => simp [intOf]; omega
    · have HB := hide hb
      clear hb
      go_wp2
      go_ret
      exact ⟨rfl, HB.out⟩

end Wi
end Go.Proofs.YtnfakgdgjkgekaaDoor
