/- The sectors of positions in a row, as the program finds them. -/
import Derived.Test.YtbgadcofjhgmiaaWa
import Derived.Test.YtbgadcofjhgmiaaMa
namespace Go.Proofs.Ytbgadcofjhgmiaa
open Go.RowKit
namespace Sp

theorem app28 {w : World} {ops : Array Oper} {rest : List Oper} {o : Oper} {a : Act} {Q : Exit → Act → World → Prop} (hgd : o.guard = none) (s x : Operand)
    (ho : o.op = .call { callee := .builtin .append, args := #[s, x], argTypes := #[28, 28] }) (v : Value) (L : List (Int × Int)) (hs : a.eval s = v) (hown : Own w v L) (g : Nat) (u1 u2 : Int) (hx : a.eval x = .slice (some ⟨g, 0, none⟩) 1 1)
    (hg : w.heap[g]? = some (.cells #[.int .i64 u1, .int .i64 u2] 43 (0, 0))) (hl : L.length ≤ 1000000)
    (h : ∀ v' w', Own w' v' (L ++ [(u1, u2)]) → w.grownBy w' v.ownBlock → Moved w v v' → wpList Try.prog ops Q rest (a.put o.dst v') w') : wpList Try.prog ops Q (o :: rest) a w := by
  obtain ⟨i0, hi, hz0, hz1, hz2⟩ := info_parts info27
  refine wpList_append_moved hgd s x 28 ho 43 i0 _ 2 16 Try.underlying28 hi hz0 hz1 hz2 rfl (by decide) v L.length (enc2 L) hs hown ⟨g, 0, none⟩ 1 1 [.int .i64 u1, .int .i64 u2] hx rfl (cells_two (by rw [cell_of_row _ _ _ _ _ _ hg]; rfl) (by rw [cell_of_row _ _ _ _ _ _ hg]; rfl)) (enc2_oneCell [(u1, u2)]) (by unfold maxLen; omega) (by omega) fun v' w' h1 h2 h3 => h v' w' ?_ h2 h3
  unfold Own
  rw [enc2_append, List.length_append]
  exact h1
set_option maxRecDepth 100000 in
set_option maxHeartbeats 4000000 in
theorem sectors_any (s p n : Nat) (h t : Int) (hs : 1 ≤ s) (hs2 : s ≤ 65536) (hp : p ≤ 1099511627776) (hn : n ≤ s) (w : World) :
    Calls Try.prog 22 #[.agg #[.int .i64 (s : Nat), .int .i64 h, .int .i64 t], .int .i64 (p : Nat), .int .i64 (n : Nat)] w fun e w' => ∃ v, e = .returned v ∧ Own w' v (secL s p n) ∧ From w.heap.size v ∧ Below w.heap.size w w' := by
  have HX := hide (Rc.new w s h t)
  have HB := hide (below_alloc w (.cells #[.int .i64 (s : Nat), .int .i64 h, .int .i64 t] 23))
  have h1 := Nat.mod_lt p (show 0 < s by omega)
  have hr : (p : Int).tmod (s : Int) = ((p % s : Nat) : Int) := by rw [Int.tmod_eq_emod_of_nonneg (by omega)]; omega
  have hs0 : ¬ (s : Int) = 0 := by omega
  have HSEC : Hid (secL s p n = (if 0 < min n (s - p % s) then [(((p % s : Nat) : Int), ((min n (s - p % s) : Nat) : Int))] else []) ++ (if min n (s - p % s) < n then [((0 : Int), ((n - min n (s - p % s) : Nat) : Int))] else [])) := rfl
  have hrw : IntKind.i64.wrap ((p % s : Nat) : Int) = ((p % s : Nat) : Int) := by rw [IntKind.wrap_i64]; omega
  generalize hq : p % s = a at *
  have HQ := hide hq
  clear hq
  obtain ⟨c0, c1, c2, _⟩ := HX.out
  have hw1 : IntKind.i64.wrap ((s : Int) - (a : Int)) = (s : Int) - (a : Int) := by rw [IntKind.wrap_i64]; omega
  have hmin : ∀ w, (Builtin.min_ #[3, 3] 3 #[.int .i64 (n : Nat), .int .i64 ((s : Int) - (a : Int))]).run Try.prog w = .ok (.int .i64 ((min n (s - a) : Nat) : Int)) w := fun w => by
    show Result.ok (Value.int .i64 (if (s : Int) - (a : Int) < (n : Int) then (s : Int) - (a : Int) else (n : Int))) w = _
    rw [show (if (s : Int) - (a : Int) < (n : Int) then (s : Int) - (a : Int) else (n : Int)) = ((min n (s - a) : Nat) : Int) by split <;> omega]
  generalize hk : min n (s - a) = k at *
  have hk1 : k ≤ n := by omega
  have hk2 : k ≤ s := by omega
  have hk3 : ¬ 0 < k → ¬ k < n := by omega
  have hw2 : IntKind.i64.wrap ((n : Int) - (k : Int)) = ((n - k : Nat) : Int) := by rw [IntKind.wrap_i64]; omega
  clear hk
  by_cases h0 : 0 < k
  · have hd0 : decide ((0 : Int) < (k : Int)) = true := decide_eq_true (by omega)
    have HB0 := hide (HB.out.alloc HB.out.size (.cells #[.int .i64 (a : Nat), .int .i64 (k : Nat)] 43))
    have hg1 := heap_alloc_new (w.alloc (.cells #[.int .i64 (s : Nat), .int .i64 h, .int .i64 t] 23)) (.cells #[.int .i64 (a : Nat), .int .i64 (k : Nat)] 43)
    rw [show (w.alloc (.cells #[.int .i64 (s : Nat), .int .i64 h, .int .i64 t] 23)).heap.size = w.heap.size + 1 by simp] at hg1
    have HG1 := hide hg1
    clear hg1
    by_cases h2 : k < n
    · have hd1 : decide ((k : Int) < (n : Int)) = true := decide_eq_true (by omega)
      rw [if_pos h0, if_pos h2] at HSEC
      rw [HSEC.out]
      clear HSEC hk3 HQ
      go_enter Try.func22, Try.ntmps22
      go_wp2_with (at_builtin; first | (refine app28 rfl (.tmp 22) (.tmp 26) rfl _ _ rfl (Own.nil _) _ _ _ rfl HG1.out (by simp) ?_; intro v1 w1 f1 f2 f3; replace f1 := hide f1; have HB1 := hide (below_grown HB0.out f2 HB0.out.size (From.nil _ _ _)); have HF1 : Hid (From w.heap.size v1) := (From.nil w.heap.size 0 0).moved f3 HB0.out.size; clear f2 f3) | (refine app28 rfl (.tmp 31) (.tmp 36) rfl _ _ rfl (f1.out.later (below_alloc _ _)) _ _ _ rfl (heap_alloc_new w1 _) (by simp) ?_; intro v2 w2 e1 e2 e3; replace e1 := hide e1; have HB2 := hide (below_grown (HB1.out.alloc HB1.out.size _) e2 (HB1.out.alloc HB1.out.size _).size HF1.out); have HF2 : Hid (From w.heap.size v2) := HF1.out.moved e3 (HB1.out.alloc HB1.out.size _).size; clear e2 e3))
      go_ret
      exact ⟨_, rfl, e1.out, HF2.out, HB2.out⟩
    · have hd1 : decide ((k : Int) < (n : Int)) = false := decide_eq_false (by omega)
      rw [if_pos h0, if_neg h2, List.append_nil] at HSEC
      rw [HSEC.out]
      clear HSEC hk3 HQ
      go_enter Try.func22, Try.ntmps22
      go_wp2_with (at_builtin; refine app28 rfl (.tmp 22) (.tmp 26) rfl _ _ rfl (Own.nil _) _ _ _ rfl HG1.out (by simp) ?_; intro v1 w1 f1 f2 f3; replace f1 := hide f1; have HB1 := hide (below_grown HB0.out f2 HB0.out.size (From.nil _ _ _)); have HF1 : Hid (From w.heap.size v1) := (From.nil w.heap.size 0 0).moved f3 HB0.out.size; clear f2 f3)
      go_ret
      exact ⟨_, rfl, f1.out, HF1.out, HB1.out⟩
  · have hd0 : decide ((0 : Int) < (k : Int)) = false := decide_eq_false (by omega)
    have h2 := hk3 h0
    have hd1 : decide ((k : Int) < (n : Int)) = false := decide_eq_false (by omega)
    rw [if_neg h0, if_neg h2] at HSEC
    rw [HSEC.out]
    clear HSEC hk3 HQ
    go_enter Try.func22, Try.ntmps22
    go_wp2
    go_ret
    exact ⟨_, rfl, Own.nil _, From.nil _ _ _, HB.out⟩

end Sp
end Go.Proofs.Ytbgadcofjhgmiaa
