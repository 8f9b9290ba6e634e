/- What the operations of a turn of RingBack leave. -/
import Derived.Test.YtbgadcofjhgmiaaLm
import Derived.Test.YtbgadcofjhgmiaaSm
namespace Go.Proofs.Ytbgadcofjhgmiaa
open Go.RowKit
namespace Sp

/-- Spans that lie in memory of their own, behind B. -/
def ownS (B : Nat) (L : List (Int × Int)) : Wi.Spec := ⟨fun v w => Own w v L ∧ From B v, fun _ _ _ h hb => ⟨h.1.later hb, h.2⟩⟩
/-- What Push and Pop answer. -/
def tupS (B : Nat) (L : List (Int × Int)) (r : Value) (er : Int) : Wi.Spec := ⟨fun v w => ∃ u, v = .tuple #[r, u, .int .i64 er] ∧ Own w u L ∧ From B u, fun _ _ _ ⟨u, h1, h2, h3⟩ hb => ⟨u, h1, h2.later hb, h3⟩⟩
/-- A new box. -/
def boxS (B : Nat) : Wi.Spec := ⟨fun v w => ∃ b, v = .pointer (some ⟨b, 0, none⟩) ∧ B ≤ b ∧ w.heap[b]? = some (.cells #[.int .i64 0, .int .i64 0, .int .i64 0] 23 (0, 0)), fun _ _ _ ⟨b, h1, h2, h3⟩ hb => ⟨b, h1, h2, (hb.block b (lt_of_block h3)).trans h3⟩⟩
/-- A new box that holds a ring. -/
def ringS (B : Nat) (s h t : Int) : Wi.Spec := ⟨fun v w => ∃ b, v = .pointer (some ⟨b, 0, none⟩) ∧ B ≤ b ∧ Rc w b s h t, fun _ _ _ ⟨b, h1, h2, h3⟩ hb => ⟨b, h1, h2, h3.later hb⟩⟩
theorem not_needed {e : Bool} {p : Prop} (hf : e = false) : e = true → p := fun h => by rw [hf] at h; cases h
theorem goes_pred {P : Program} {Gi : Value → World → Prop} {w : World} {r : Result Next} {f : FuncId} {args : Array Value} (h : r = .ok (.enter f args) w) (hc : Calls P f args w fun e w' => ∃ v, e = .returned v ∧ Gi v w' ∧ Below w.heap.size w w') : Wi.GoesTo P Gi w r := by
  rw [h]
  exact hc
/-- A ring is stored in a new box: all else stays. -/
theorem ring_store {w0 w : World} {b : Nat} (hB : w0.heap.size ≤ b) (hb : Below w0.heap.size w0 w) (hblk : w.heap[b]? = some (.cells #[.int .i64 0, .int .i64 0, .int .i64 0] 23 (0, 0))) (s h t : Int) {A : Act} {x y : Operand} (hx : A.eval x = .pointer (some ⟨b, 0, none⟩)) (hy : A.eval y = .agg #[.int .i64 s, .int .i64 h, .int .i64 t]) :
    ∃ w', (∀ op : Oper, op.op = .store 23 x y → (execOp A.eval op).run Try.prog w = .ok .skip w') ∧ Below w0.heap.size w0 w' ∧ Rc w' b s h t ∧ ∀ v L, Own w v L → Own w' v L := by
  have hk := Wi.Keep.setCells (X := fun k => k = b) b rfl [.int .i64 s, .int .i64 h, .int .i64 t] 0 w
  have hlt := lt_of_block hblk
  have ht : w.there b 0 (#[Value.int .i64 s, .int .i64 h, .int .i64 t] : Array Value).size := fun j hj => by
    have hj2 : j < 3 := hj
    refine ⟨?_, frozen_of_row w _ _ _ _ hblk⟩
    rw [cell_of_row _ _ _ _ _ _ hblk]
    have hj3 : j = 0 ∨ j = 1 ∨ j = 2 := by omega
    rcases hj3 with rfl | rfl | rfl <;> rfl
  refine ⟨w.setCells b 0 [.int .i64 s, .int .i64 h, .int .i64 t], fun op ho => ?_, hb.trans (hk.below hb.size fun k hk2 e => by omega), ?_, fun v L ho => Own.keep ho hk fun i hi e => ?_⟩
  · unfold execOp
    simp only [ho, hx, hy, Sem.run_bind, Sem.run_pure, run_storeAt_mid (P := Try.prog) w b 0 23 #[.int .i64 s, .int .i64 h, .int .i64 t] ht (by kernel_rfl) (by simp [Value.oneCell']), Result.andThen_ok]
  · have hh : (w.setCells b 0 [.int .i64 s, .int .i64 h, .int .i64 t]).heap[b]? = some (.cells #[.int .i64 s, .int .i64 h, .int .i64 t] 23 (0, 0)) := by
      rw [Wi.setCells_eq_setRow hblk (by simp) (by simp [Value.oneCell'])]
      exact setRow_heap w b _ _ 23 _ hblk
    refine ⟨?_, ?_, ?_, lt_of_block hh⟩ <;> (rw [cell_of_row _ _ _ _ _ _ hh]; rfl)
  · subst e
    rcases ho.2 with ⟨rfl, _⟩ | ⟨g, cap, cur, hv, _, hg, _⟩
    · simp [Value.ownBlock] at hi
    · rw [hv] at hi
      simp [Value.ownBlock] at hi
      subst hi
      rw [hblk] at hg
      cases hg
/-- Push, whatever it is asked for: what it answers is settled ahead. -/
theorem push_fix (S H T : Nat) (x : Int) (hm : mayR S H T = true) : ∃ (X : Nat) (er : Int), X ≤ S - (H - T) ∧ (er = 0 ∨ ¬ er = 0 ∧ X = 0) ∧ ∀ w,
    Calls Try.prog 18 #[.agg #[.int .i64 (S : Nat), .int .i64 (H : Nat), .int .i64 (T : Nat)], .int .i64 x] w fun e w' => ∃ v, e = .returned (.tuple #[.agg #[.int .i64 (S : Nat), .int .i64 ((H + X : Nat) : Int), .int .i64 (T : Nat)], v, .int .i64 er]) ∧ Own w' v (secL S H X) ∧ From w.heap.size v ∧ Below w.heap.size w w' := by
  obtain ⟨m1, m2, m3, m4, m5, m6⟩ := mayR_get hm
  by_cases h1 : x < 0 ∨ 1099511627776 - (H : Int) ≤ x
  · refine ⟨0, 1, by omega, .inr ⟨by decide, rfl⟩, fun w => (push_no S H T x ⟨by omega, by omega⟩ ⟨by omega, by omega⟩ (.inr h1) w).mono fun e w' ⟨he, hb⟩ => ⟨_, he, ?_, From.nil _ _ _, hb⟩⟩
    rw [sec_zero]
    exact Own.nil _
  · by_cases h2 : (S : Int) - (H - T) < x
    · refine ⟨0, 32, by omega, .inr ⟨by decide, rfl⟩, fun w => (push_full S H T x ⟨by omega, by omega⟩ ⟨by omega, by omega⟩ hm (by omega) (by omega) (by omega) w).mono fun e w' ⟨he, hb⟩ => ⟨_, he, ?_, From.nil _ _ _, hb⟩⟩
      rw [sec_zero]
      exact Own.nil _
    · obtain ⟨X, rfl⟩ : ∃ X : Nat, x = X := ⟨x.toNat, by omega⟩
      exact ⟨X, 0, by omega, .inl rfl, fun w => (push_ok S H T X hm (by omega) (by omega) w).mono fun e w' ⟨v, he, h3, h4, hb⟩ => ⟨v, he, h3, h4, hb⟩⟩
/-- Pop, likewise. -/
theorem pop_fix (S H T : Nat) (x : Int) (hm : mayR S H T = true) : ∃ (X : Nat) (er : Int), X ≤ H - T ∧ (er = 0 ∨ ¬ er = 0 ∧ X = 0) ∧ ∀ w,
    Calls Try.prog 19 #[.agg #[.int .i64 (S : Nat), .int .i64 (H : Nat), .int .i64 (T : Nat)], .int .i64 x] w fun e w' => ∃ v, e = .returned (.tuple #[.agg #[.int .i64 (S : Nat), .int .i64 (H : Nat), .int .i64 ((T + X : Nat) : Int)], v, .int .i64 er]) ∧ Own w' v (secL S T X) ∧ From w.heap.size v ∧ Below w.heap.size w w' := by
  obtain ⟨m1, m2, m3, m4, m5, m6⟩ := mayR_get hm
  by_cases h1 : x < 0
  · refine ⟨0, 1, by omega, .inr ⟨by decide, rfl⟩, fun w => (pop_no S H T x ⟨by omega, by omega⟩ ⟨by omega, by omega⟩ (.inr h1) w).mono fun e w' ⟨he, hb⟩ => ⟨_, he, ?_, From.nil _ _ _, hb⟩⟩
    rw [sec_zero]
    exact Own.nil _
  · by_cases h2 : (H : Int) - T < x
    · refine ⟨0, 31, by omega, .inr ⟨by decide, rfl⟩, fun w => (pop_full S H T x ⟨by omega, by omega⟩ ⟨by omega, by omega⟩ hm (by omega) (by omega) w).mono fun e w' ⟨he, hb⟩ => ⟨_, he, ?_, From.nil _ _ _, hb⟩⟩
      rw [sec_zero]
      exact Own.nil _
    · obtain ⟨X, rfl⟩ : ∃ X : Nat, x = X := ⟨x.toNat, by omega⟩
      exact ⟨X, 0, by omega, .inl rfl, fun w => (pop_ok S H T X hm (by omega) w).mono fun e w' ⟨v, he, h3, h4, hb⟩ => ⟨v, he, h3, h4, hb⟩⟩

end Sp
end Go.Proofs.Ytbgadcofjhgmiaa
