/- A part of the proofs about package span: what its functions answer, call by call. -/
import Derived.Test.YthbgniclplfpgaaWu
import Derived.Test.YthbgniclplfpgaaPg
import Derived.Laws.AppendOwnNone
namespace Go.Proofs.Ythbgniclplfpgaa
open Go.RowKit
namespace Sp

theorem few_len {xs : List (Int × Int)} (h : fewB xs = true) : xs.length ≤ 40 := by
  simp only [fewB, Bool.and_eq_true, decide_eq_true_eq] at h
  exact h.2
theorem few_wi {xs : List (Int × Int)} (h : fewB xs = true) (ha : allB xs = true) {i : Int} (hi : wi xs i = true) : 0 ≤ i ∧ i < 400 := by
  obtain ⟨k, hk, hh⟩ := wi_iff.1 hi
  have hm := allB_at ha hk
  simp only [fewB, Bool.and_eq_true, List.all_eq_true] at h
  have := h.1 _ (nth_mem hk)
  simp only [hm, Bool.true_and, Bool.not_eq_true', decide_eq_false_iff_not] at this
  have := mayB_iff.1 hm
  unfold Has1 at hh
  omega

/-- What is known of a slice's capacity. -/
def Cap (a : Option Addr) (n cap : Nat) : Prop := n ≤ cap ∧ (a = none → cap = 0)
/-- What is owned, as a slice to be read, with its capacity. -/
theorem Own.slc {w : World} {v : Value} {xs : List (Int × Int)} (h : Own w v xs) (hf : ∀ x ∈ xs, Fit x) : ∃ a cap, v = .slice a xs.length cap ∧ Cap a xs.length cap ∧ Sl w a xs.length xs := by
  obtain ⟨a, cap, hv, hc, hs⟩ := h.sl' hf
  refine ⟨a, cap, hv, ⟨hc, fun ha => ?_⟩, hs⟩
  rcases id h with ⟨_, ⟨hv', hn⟩ | ⟨g, cap', cur, hv', _, _, hnc, _⟩⟩
  · rw [hv] at hv'
    simp only [Value.slice.injEq] at hv'
    exact hv'.2.2
  · rw [hv, ha] at hv'
    simp at hv'

/-- A box holds a span. -/
structure Bx (w : World) (b : Nat) (s : Int × Int) : Prop where
  lt : b < w.heap.size
  c0 : w.cell? ⟨b, 0, none⟩ = some (.int .i64 s.1)
  c1 : w.cell? ⟨b, 1, none⟩ = some (.int .i64 s.2)
theorem Bx.later {w w' : World} {b : Nat} {s : Int × Int} (h : Bx w b s) (hb : Below w.heap.size w w') : Bx w' b s :=
  ⟨Nat.lt_of_lt_of_le h.lt hb.size, (hb.cell h.lt).trans h.c0, (hb.cell h.lt).trans h.c1⟩
theorem Bx.new (w : World) (s : Int × Int) : Bx (w.alloc (.cells #[.int .i64 s.1, .int .i64 s.2] 27)) w.heap.size s := ⟨by simp, by simp, by simp⟩

/-- Spans that can be read, appended to spans that are owned. -/
theorem wpList_append_sl {w : World} {ops : Array Oper} {rest : List Oper} {o : Oper} {a : Act} {Q : Exit → Act → World → Prop} (hgd : o.guard = none) (s x : Operand)
    (ho : o.op = .call { callee := .builtin .append, args := #[s, x], argTypes := #[22, 22] }) (v : Value) (xs ys : List (Int × Int)) (hs : a.eval s = v) (hown : Own w v xs)
    (ao : Option Addr) (n c : Nat) (hx : a.eval x = .slice ao n c) (hS : Sl w ao n ys) (hc : Cap ao n c) (hl : xs.length + ys.length ≤ 1000000)
    (h : ∀ v' w', Own w' v' (xs ++ ys) → w.grownBy w' v.ownBlock → Moved w v v' → wpList Try.prog ops Q rest (a.put o.dst v') w') : wpList Try.prog ops Q (o :: rest) a w := by
  obtain ⟨i0, hi, hz0, hz1, hz2⟩ := info_parts info27
  cases ao with
  | none =>
    obtain ⟨rfl, rfl⟩ := hS.isNil
    obtain rfl := hc.2 rfl
    refine wpList_append_own_none hgd s x 22 ho 0 27 i0 2 Try.underlying22 hi v xs.length (enc2 xs) hs hown hx ?_
    exact h v w (by simpa using hown) ⟨rfl, rfl, rfl, Nat.le_refl _, fun _ _ _ => rfl⟩ (Moved.refl _ _)
  | some ad =>
    have hln := hS.len
    refine wpList_append_moved hgd s x 22 ho 27 i0 _ 2 16 Try.underlying22 hi hz0 hz1 hz2 rfl (by decide) v _ _ hs hown ad n c (enc2 ys) hx (by rw [enc2_length, hln]) hS.news (enc2_oneCell ys) (by unfold maxLen; omega) (by omega) fun v' w' h1 h2 h3 => h v' w' ?_ h2 h3
    unfold Own
    rw [enc2_append, List.length_append, ← hln]
    exact h1

end Sp
end Go.Proofs.Ythbgniclplfpgaa
