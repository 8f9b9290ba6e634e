/- The law RingBack: Push and Pop whatever they are asked for; what is taken, in memory. -/
import Derived.Test.YtbgadcofjhgmiaaLd
import Derived.Test.YtbgadcofjhgmiaaKw
import Derived.Test.YtbgadcofjhgmiaaMk
namespace Go.Proofs.Ytbgadcofjhgmiaa
open Go.RowKit
namespace Sp

/-- The numbers of a slice that is handed in. -/
structure Is (w : World) (a : Option Addr) (n : Nat) (l : List Int) : Prop where
  len : l.length = n
  num : ∀ x ∈ l, I64 x
  cells : ∀ i x, l[i]? = some x → ∃ g off, a = some ⟨g, off, none⟩ ∧ g < w.heap.size ∧ w.cell? ⟨g, off + i, none⟩ = some (.int .i64 x)
theorem sec_zero (s p : Nat) : secL s p 0 = [] := by simp [secL]
theorem new_ex (s : Int) (w : World) : Calls Try.prog 9 #[.int .i64 s] w fun e w' => ∃ q0 q1 q2 er, e = .returned (.tuple #[.agg #[.int .i64 q0, .int .i64 q1, .int .i64 q2], .int .i64 er]) ∧ Below w.heap.size w w' := by
  refine (new_any s w).mono fun e w' ⟨he, hb⟩ => ?_
  by_cases hm : mayR s 0 0 = true
  · rw [if_pos hm] at he
    exact ⟨_, _, _, _, he, hb⟩
  · rw [if_neg hm] at he
    exact ⟨_, _, _, _, he, hb⟩
/-- Push, whatever it is asked for. -/
theorem push_all (S H T : Nat) (x : Int) (hm : mayR S H T = true) (w : World) :
    Calls Try.prog 18 #[.agg #[.int .i64 (S : Nat), .int .i64 (H : Nat), .int .i64 (T : Nat)], .int .i64 x] w fun e w' => ∃ (X : Nat) (v : Value) (er : Int), e = .returned (.tuple #[.agg #[.int .i64 (S : Nat), .int .i64 ((H + X : Nat) : Int), .int .i64 (T : Nat)], v, .int .i64 er]) ∧ Own w' v (secL S H X) ∧ From w.heap.size v ∧ Below w.heap.size w w' ∧ X ≤ S - (H - T) ∧ (er = 0 ∨ ¬ er = 0 ∧ X = 0) := by
  obtain ⟨m1, m2, m3, m4, m5, m6⟩ := mayR_get hm
  by_cases h1 : x < 0 ∨ 1099511627776 - (H : Int) ≤ x
  · refine (push_no S H T x ⟨by omega, by omega⟩ ⟨by omega, by omega⟩ (.inr h1) w).mono fun e w' ⟨he, hb⟩ => ⟨0, _, 1, he, ?_, From.nil _ _ _, hb, by omega, .inr ⟨by decide, rfl⟩⟩
    rw [sec_zero]
    exact Own.nil _
  · by_cases h2 : (S : Int) - (H - T) < x
    · refine (push_full S H T x ⟨by omega, by omega⟩ ⟨by omega, by omega⟩ hm (by omega) (by omega) (by omega) w).mono fun e w' ⟨he, hb⟩ => ⟨0, _, 32, he, ?_, From.nil _ _ _, hb, by omega, .inr ⟨by decide, rfl⟩⟩
      rw [sec_zero]
      exact Own.nil _
    · obtain ⟨X, rfl⟩ : ∃ X : Nat, x = X := ⟨x.toNat, by omega⟩
      exact (push_ok S H T X hm (by omega) (by omega) w).mono fun e w' ⟨v, he, h3, h4, hb⟩ => ⟨X, v, 0, he, h3, h4, hb, by omega, .inl rfl⟩
/-- Pop, whatever it is asked for. -/
theorem pop_all (S H T : Nat) (x : Int) (hm : mayR S H T = true) (w : World) :
    Calls Try.prog 19 #[.agg #[.int .i64 (S : Nat), .int .i64 (H : Nat), .int .i64 (T : Nat)], .int .i64 x] w fun e w' => ∃ (X : Nat) (v : Value) (er : Int), e = .returned (.tuple #[.agg #[.int .i64 (S : Nat), .int .i64 (H : Nat), .int .i64 ((T + X : Nat) : Int)], v, .int .i64 er]) ∧ Own w' v (secL S T X) ∧ From w.heap.size v ∧ Below w.heap.size w w' ∧ X ≤ H - T ∧ (er = 0 ∨ ¬ er = 0 ∧ X = 0) := by
  obtain ⟨m1, m2, m3, m4, m5, m6⟩ := mayR_get hm
  by_cases h1 : x < 0
  · refine (pop_no S H T x ⟨by omega, by omega⟩ ⟨by omega, by omega⟩ (.inr h1) w).mono fun e w' ⟨he, hb⟩ => ⟨0, _, 1, he, ?_, From.nil _ _ _, hb, by omega, .inr ⟨by decide, rfl⟩⟩
    rw [sec_zero]
    exact Own.nil _
  · by_cases h2 : (H : Int) - T < x
    · refine (pop_full S H T x ⟨by omega, by omega⟩ ⟨by omega, by omega⟩ hm (by omega) (by omega) w).mono fun e w' ⟨he, hb⟩ => ⟨0, _, 31, he, ?_, From.nil _ _ _, hb, by omega, .inr ⟨by decide, rfl⟩⟩
      rw [sec_zero]
      exact Own.nil _
    · obtain ⟨X, rfl⟩ : ∃ X : Nat, x = X := ⟨x.toNat, by omega⟩
      exact (pop_ok S H T X hm (by omega) w).mono fun e w' ⟨v, he, h3, h4, hb⟩ => ⟨X, v, 0, he, h3, h4, hb, by omega, .inl rfl⟩
/-- Where a run of the law stands: the ring in its box, what is taken. -/
structure BK (W : World) (g S k H T : Nat) (v : Value) (w : World) : Prop where
  may : T ≤ H ∧ H - T ≤ S ∧ H ≤ 300 * k
  row : Wi.Rw w 3 1 v (H - T) (tkV S T (H - T))
  fr : Wi.From (g + 1) v
  box : w.heap[g]? = some (.cells #[.int .i64 (S : Nat), .int .i64 (H : Nat), .int .i64 (T : Nat)] 23 (0, 0))
  below : Below W.heap.size W w
theorem Rc.of_blk {w : World} {g : Nat} {s h t : Int} (hh : w.heap[g]? = some (.cells #[.int .i64 s, .int .i64 h, .int .i64 t] 23 (0, 0))) : Rc w g s h t := by
  refine ⟨?_, ?_, ?_, lt_of_block hh⟩ <;> (rw [cell_of_row _ _ _ _ _ _ hh]; rfl)
theorem Rc.keep {X : Nat → Prop} {w w' : World} {g : Nat} {s h t : Int} (x : Rc w g s h t) (k : Wi.Keep X w w') (hx : ¬ X g) : Rc w' g s h t :=
  ⟨(Wi.keep_cell k x.lt hx).trans x.c0, (Wi.keep_cell k x.lt hx).trans x.c1, (Wi.keep_cell k x.lt hx).trans x.c2, Nat.lt_of_lt_of_le x.lt k.size⟩
theorem Own.keep {X : Nat → Prop} {w w' : World} {v : Value} {xs : List (Int × Int)} (h : Own w v xs) (k : Wi.Keep X w w') (hx : ∀ i, v.ownBlock = some i → ¬ X i) : Own w' v xs := Wi.row_keep h k hx
theorem info3' : (Try.prog.info? 3).map (fun i => (i.zero, i.size, i.bytes)) = some (some (.int .i64 0), 1, 8) := by kernel_rfl

end Sp
end Go.Proofs.Ytbgadcofjhgmiaa
