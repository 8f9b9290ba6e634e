/- Package bucket: a copy of a bucket. -/
import Derived.Lib.SliceRun
import Derived.Test.YthnhapjjgaicdaaRc
import Derived.Test.YthnhapjjgaicdaaWt
namespace Go.Proofs.Ythnhapjjgaicdaa
open Go.RowKit
namespace Wi

/-- New memory that holds a row. -/
structure Fresh (w : World) (e : TypeId) (size n : Nat) (xs : List Value) (w' : World) (v : Value) : Prop where
  row : Rw w' e size v n xs
  new : From w.heap.size v
  below : Below w.heap.size w w'
theorem empty_row (w : World) (e : TypeId) (size : Nat) : Rw (w.alloc (.cells #[] e)) e size (.slice (some ⟨w.heap.size, 0, none⟩) 0 0) 0 [] :=
  ⟨by simp, .inr ⟨w.heap.size, 0, 0, _, rfl, heap_alloc_new w _, Nat.le_refl _, Nat.zero_le _, by simp, by simp⟩⟩
theorem fresh_of {w w1 w2 : World} {e : TypeId} {size n : Nat} {xs : List Value} {v2 : Value} {a c : Nat} (hb : Below w.heap.size w w1) (g1 : Rw w2 e size v2 (0 + n) ([] ++ xs)) (g2 : w1.grownBy w2 (Value.slice (some ⟨w.heap.size, 0, none⟩) a c).ownBlock) (g3 : Moved w1 (.slice (some ⟨w.heap.size, 0, none⟩) a c) v2) : Fresh w e size n xs w2 v2 := by
  have hf : From w.heap.size (Value.slice (some ⟨w.heap.size, 0, none⟩) a c) := fun k hk => by simp [Value.ownBlock] at hk; omega
  exact ⟨by simpa using g1, hf.moved g3 hb.size, below_grown hb g2 hb.size hf⟩

theorem append39 {w : World} {ops : Array Oper} {rest : List Oper} {o : Oper} {a : Act} {Q : Exit → Act → World → Prop} (hgd : o.guard = none) (s x : Operand)
    (ho : o.op = .call { callee := .builtin .append, args := #[s, x], argTypes := #[66, 66] })
    (v : Value) (n : Nat) (xs : List Value) (hs : a.eval s = v) (hown : Rw w 76 2 v n xs)
    (ad : Option Addr) (m c : Nat) (news : List Value) (hx : a.eval x = .slice ad m c) (hsrc : Rw w 76 2 (.slice ad m c) m news) (h1 : ∀ u ∈ news, u.oneCell' = true)
    (h63 : n + m ≤ maxLen) (hbytes : (n + m) * 32 ≤ 140737488355328)
    (h : ∀ v' w', Rw w' 76 2 v' (n + m) (xs ++ news) → w.grownBy w' v.ownBlock → Moved w v v' → wpList Try.prog ops Q rest (a.put o.dst v') w') : wpList Try.prog ops Q (o :: rest) a w := by
  obtain ⟨i0, hi, hz0, hz1, hz2⟩ := info_parts info76
  exact wpList_append_rws hgd s x 66 ho 76 i0 _ 2 32 Try.underlying66 hi hz0 hz1 hz2 rfl (by decide) v n xs hs hown ad m c news hx hsrc h1 h63 hbytes h

theorem append40 {w : World} {ops : Array Oper} {rest : List Oper} {o : Oper} {a : Act} {Q : Exit → Act → World → Prop} (hgd : o.guard = none) (s x : Operand)
    (ho : o.op = .call { callee := .builtin .append, args := #[s, x], argTypes := #[31, 31] })
    (v : Value) (n : Nat) (xs : List Value) (hs : a.eval s = v) (hown : Rw w 3 1 v n xs)
    (ad : Option Addr) (m c : Nat) (news : List Value) (hx : a.eval x = .slice ad m c) (hsrc : Rw w 3 1 (.slice ad m c) m news) (h1 : ∀ u ∈ news, u.oneCell' = true)
    (h63 : n + m ≤ maxLen) (hbytes : (n + m) * 8 ≤ 140737488355328)
    (h : ∀ v' w', Rw w' 3 1 v' (n + m) (xs ++ news) → w.grownBy w' v.ownBlock → Moved w v v' → wpList Try.prog ops Q rest (a.put o.dst v') w') : wpList Try.prog ops Q (o :: rest) a w := by
  obtain ⟨i0, hi, hz0, hz1, hz2⟩ := info_parts info3
  exact wpList_append_rws hgd s x 31 ho 3 i0 _ 1 8 Try.underlying31 hi hz0 hz1 hz2 rfl (by decide) v n xs hs hown ad m c news hx hsrc h1 h63 hbytes h

theorem append41 {w : World} {ops : Array Oper} {rest : List Oper} {o : Oper} {a : Act} {Q : Exit → Act → World → Prop} (hgd : o.guard = none) (s x : Operand)
    (ho : o.op = .call { callee := .builtin .append, args := #[s, x], argTypes := #[67, 67] })
    (v : Value) (n : Nat) (xs : List Value) (hs : a.eval s = v) (hown : Rw w 81 3 v n xs)
    (ad : Option Addr) (m c : Nat) (news : List Value) (hx : a.eval x = .slice ad m c) (hsrc : Rw w 81 3 (.slice ad m c) m news) (h1 : ∀ u ∈ news, u.oneCell' = true)
    (h63 : n + m ≤ maxLen) (hbytes : (n + m) * 40 ≤ 140737488355328)
    (h : ∀ v' w', Rw w' 81 3 v' (n + m) (xs ++ news) → w.grownBy w' v.ownBlock → Moved w v v' → wpList Try.prog ops Q rest (a.put o.dst v') w') : wpList Try.prog ops Q (o :: rest) a w := by
  obtain ⟨i0, hi, hz0, hz1, hz2⟩ := info_parts info81
  exact wpList_append_rws hgd s x 67 ho 81 i0 _ 3 40 Try.underlying67 hi hz0 hz1 hz2 rfl (by decide) v n xs hs hown ad m c news hx hsrc h1 h63 hbytes h

set_option maxHeartbeats 2000000 in
set_option maxRecDepth 20000 in
theorem clone39 {w : World} {v : Value} {n : Nat} {xs : List Value} (h : Rw w 76 2 v n xs) (h1 : ∀ u ∈ xs, u.oneCell' = true) (hn : n ≤ 1000000) : Calls Try.prog 39 #[v] w fun e w' => ∃ v', e = .returned v' ∧ Fresh w 76 2 n xs w' v' := by
  have qT : ∀ (w : World) (a : Option Addr) (n c n' c' : Nat), (binOp .eql 66 (.slice a n c) (.slice none n' c')).run Try.prog w = .ok (.bool a.isNone) w := fun w a n c n' c' => Lib.run_eql_slice_nil w _ _ a n c n' c' Try.underlying66
  rcases h.2 with ⟨rfl, rfl⟩ | ⟨g, off, cap, cur, rfl, _⟩
  · have hx : xs = [] := List.eq_nil_of_length_eq_zero (by simpa using h.1)
    subst hx
    have HF : Hid (Fresh w 76 2 0 [] w (.slice none 0 0)) := ⟨Rw.nil _ _ _, From.nil _ _ _, Below.refl _ _⟩
    clear h h1
    go_enter Try.func39, Try.ntmps39
    go_wp2
    go_ret
    exact ⟨_, rfl, HF.out⟩
  · have HR := hide (h.later (below_alloc w (.cells #[] 76)))
    have HE := hide (empty_row w 76 2)
    have H1 := hide h1
    have HB := hide (below_alloc w (.cells #[] 76))
    have hx1 : 0 + n ≤ maxLen := by unfold maxLen; omega
    have hx2 : (0 + n) * 32 ≤ 140737488355328 := by omega
    clear h h1
    go_enter Try.func39, Try.ntmps39
    go_wp2_with (at_builtin; refine append39 rfl (.tmp 5) (.tmp 6) rfl _ 0 [] rfl HE.out _ n cap _ rfl HR.out H1.out hx1 hx2 ?_; intro v2 w2 g1 g2 g3; replace g1 := hide g1; replace g2 := hide g2; replace g3 := hide g3)
    have HF : Hid (Fresh w 76 2 n xs w2 v2) := fresh_of HB.out g1.out g2.out g3.out
    clear g1 g2 g3
    go_ret
    exact ⟨_, rfl, HF.out⟩

set_option maxHeartbeats 2000000 in
set_option maxRecDepth 20000 in
theorem clone40 {w : World} {v : Value} {n : Nat} {xs : List Value} (h : Rw w 3 1 v n xs) (h1 : ∀ u ∈ xs, u.oneCell' = true) (hn : n ≤ 1000000) : Calls Try.prog 40 #[v] w fun e w' => ∃ v', e = .returned v' ∧ Fresh w 3 1 n xs w' v' := by
  have qT : ∀ (w : World) (a : Option Addr) (n c n' c' : Nat), (binOp .eql 31 (.slice a n c) (.slice none n' c')).run Try.prog w = .ok (.bool a.isNone) w := fun w a n c n' c' => Lib.run_eql_slice_nil w _ _ a n c n' c' Try.underlying31
  rcases h.2 with ⟨rfl, rfl⟩ | ⟨g, off, cap, cur, rfl, _⟩
  · have hx : xs = [] := List.eq_nil_of_length_eq_zero (by simpa using h.1)
    subst hx
    have HF : Hid (Fresh w 3 1 0 [] w (.slice none 0 0)) := ⟨Rw.nil _ _ _, From.nil _ _ _, Below.refl _ _⟩
    clear h h1
    go_enter Try.func40, Try.ntmps40
    go_wp2
    go_ret
    exact ⟨_, rfl, HF.out⟩
  · have HR := hide (h.later (below_alloc w (.cells #[] 3)))
    have HE := hide (empty_row w 3 1)
    have H1 := hide h1
    have HB := hide (below_alloc w (.cells #[] 3))
    have hx1 : 0 + n ≤ maxLen := by unfold maxLen; omega
    have hx2 : (0 + n) * 8 ≤ 140737488355328 := by omega
    clear h h1
    go_enter Try.func40, Try.ntmps40
    go_wp2_with (at_builtin; refine append40 rfl (.tmp 5) (.tmp 6) rfl _ 0 [] rfl HE.out _ n cap _ rfl HR.out H1.out hx1 hx2 ?_; intro v2 w2 g1 g2 g3; replace g1 := hide g1; replace g2 := hide g2; replace g3 := hide g3)
    have HF : Hid (Fresh w 3 1 n xs w2 v2) := fresh_of HB.out g1.out g2.out g3.out
    clear g1 g2 g3
    go_ret
    exact ⟨_, rfl, HF.out⟩

set_option maxHeartbeats 2000000 in
set_option maxRecDepth 20000 in
theorem clone41 {w : World} {v : Value} {n : Nat} {xs : List Value} (h : Rw w 81 3 v n xs) (h1 : ∀ u ∈ xs, u.oneCell' = true) (hn : n ≤ 1000000) : Calls Try.prog 41 #[v] w fun e w' => ∃ v', e = .returned v' ∧ Fresh w 81 3 n xs w' v' := by
  have qT : ∀ (w : World) (a : Option Addr) (n c n' c' : Nat), (binOp .eql 67 (.slice a n c) (.slice none n' c')).run Try.prog w = .ok (.bool a.isNone) w := fun w a n c n' c' => Lib.run_eql_slice_nil w _ _ a n c n' c' Try.underlying67
  rcases h.2 with ⟨rfl, rfl⟩ | ⟨g, off, cap, cur, rfl, _⟩
  · have hx : xs = [] := List.eq_nil_of_length_eq_zero (by simpa using h.1)
    subst hx
    have HF : Hid (Fresh w 81 3 0 [] w (.slice none 0 0)) := ⟨Rw.nil _ _ _, From.nil _ _ _, Below.refl _ _⟩
    clear h h1
    go_enter Try.func41, Try.ntmps41
    go_wp2
    go_ret
    exact ⟨_, rfl, HF.out⟩
  · have HR := hide (h.later (below_alloc w (.cells #[] 81)))
    have HE := hide (empty_row w 81 3)
    have H1 := hide h1
    have HB := hide (below_alloc w (.cells #[] 81))
    have hx1 : 0 + n ≤ maxLen := by unfold maxLen; omega
    have hx2 : (0 + n) * 40 ≤ 140737488355328 := by omega
    clear h h1
    go_enter Try.func41, Try.ntmps41
    go_wp2_with (at_builtin; refine append41 rfl (.tmp 5) (.tmp 6) rfl _ 0 [] rfl HE.out _ n cap _ rfl HR.out H1.out hx1 hx2 ?_; intro v2 w2 g1 g2 g3; replace g1 := hide g1; replace g2 := hide g2; replace g3 := hide g3)
    have HF : Hid (Fresh w 81 3 n xs w2 v2) := fresh_of HB.out g1.out g2.out g3.out
    clear g1 g2 g3
    go_ret
    exact ⟨_, rfl, HF.out⟩

end Wi
end Go.Proofs.Ythnhapjjgaicdaa
