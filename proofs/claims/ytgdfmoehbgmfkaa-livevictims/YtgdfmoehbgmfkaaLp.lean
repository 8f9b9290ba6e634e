/- Rows of the document's answer: a row's place, and rows with one more. -/
import Derived.Test.YtgdfmoehbgmfkaaLo
import Derived.Deep.AppendSrc
namespace Go.Proofs.Ytgdfmoehbgmfkaa
open Go.RowKit
namespace Li
open Wi
theorem er_own35 {w : World} {n0 : Nat} {a : Option Addr} {n cap : Nat} {xs : List Ro} (h : w.ownsRow n0 35 3 (.slice a n cap) n (rcs xs)) (hn : n = xs.length) (hr : ∀ x ∈ xs, I64 x.1 ∧ I64 x.2.1 ∧ I64 x.2.2) : Er w a n xs := by
  refine ⟨hn, hr, fun i x hi => ?_⟩
  have hil := (List.getElem?_eq_some_iff.1 hi).1
  rcases h.2 with ⟨_, h0⟩ | ⟨g, cap', cur, hv, hb, hgg, rest⟩
  · omega
  · injection hv with e1 e2 e3
    subst e1
    have hx : xs[i]! = x := by rw [getElem!_pos xs i hil]; exact (List.getElem?_eq_some_iff.1 hi).2
    have c : ∀ j, j < 3 → w.cell? ⟨g, i * 3 + j, none⟩ = (rc x)[j]? := fun j hj => by
      rw [World.ownsRow.cellAt h (i * 3 + j) (by omega), rcs_get xs (i * 3 + j) (by omega), show (i * 3 + j) / 3 = i by omega, show (i * 3 + j) % 3 = j by omega, hx]
      match j, hj with
      | 0, _ => rfl
      | 1, _ => rfl
      | 2, _ => rfl
    refine ⟨g, 0, rfl, lt_of_block hgg, ?_, ?_, ?_⟩
    · rw [Nat.zero_add]; exact c 0 (by omega)
    · rw [Nat.zero_add]; exact c 1 (by omega)
    · rw [Nat.zero_add]; exact c 2 (by omega)
set_option maxHeartbeats 8000000 in
set_option maxRecDepth 100000 in
/-- A row's place. -/
theorem find_any {w : World} {a : Option Addr} {n cap : Nat} {xs : List Ro} {q : Int} (hE : Er w a n xs) (hn : n ≤ 1000000) : Calls Try.prog 33 #[.slice a n cap, .int .i64 q] w fun e w' => Below w.heap.size w w' ∧
    ((e = .returned (.int .i64 (-1)) ∧ ∀ (i : Nat) (x : Ro), xs[i]? = some x → x.1 ≠ q) ∨ (∃ (i : Nat) (x : Ro), xs[i]? = some x ∧ x.1 = q ∧ e = .returned (.int .i64 i))) := by
  have HE := hide hE
  have HL := hide hE.len
  clear hE
  go_enter Try.func33, Try.ntmps33
  go_wp2
  go_loopw [5] (fun i wr => ∃ k : Nat, k ≤ n ∧ i = .int .i64 k ∧ (∀ (j : Nat) (x : Ro), j < k → xs[j]? = some x → x.1 ≠ q) ∧ Below w.heap.size w wr) (fun i _ => n - (intOf i).toNat)
  case atStart => exact ⟨0, Nat.zero_le _, rfl, fun j o h => by omega, Below.refl _ _⟩
  case round =>
    obtain ⟨k, hk, rfl, hall, hb⟩ := hrel
    by_cases hlt : k < n
    · obtain ⟨x, hx⟩ : ∃ x, xs[k]? = some x := ⟨_, List.getElem?_eq_getElem (by have := HL.out; omega)⟩
      obtain ⟨g, off, rfl, hg, c0, c1, c2⟩ := (HE.out.later hb).cells k x hx
      have HB := hide hb
      have HX := hide hx
      have HA := hide hall
      obtain ⟨x1, x2, x3⟩ := x
      simp only at *
      clear hx hb hall
      by_cases hq : x1 = q
      · have hd : decide (x1 = q) = true := decide_eq_true hq
        go_wp2
        go_ret
        exact ⟨HB.out, .inr ⟨k, _, HX.out, hq, rfl⟩⟩
      · have hd : decide (x1 = q) = false := decide_eq_false hq
        go_wp2
        go_roundw
        case rel => exact ⟨k + 1, by omega, by go_num, fun j y hj hy => by
          by_cases e : j = k
          · subst e
            have := HX.out
            rw [hy] at this
            injection this with this
            rw [this]
            exact hq
          · exact HA.out j y (by omega) hy, HB.out⟩
        case measure => simp [intOf]; omega
    · obtain rfl : k = n := by omega
      have HB := hide hb
      have HA := hide hall
      clear hall hb
      go_wp2
      go_ret
      exact ⟨HB.out, .inl ⟨rfl, fun i x hx => HA.out i x (by have := HL.out; have := (List.getElem?_eq_some_iff.1 hx).1; omega) hx⟩⟩
def insR (xs : List Ro) (r : Ro) : List Ro := xs.takeWhile (fun x => decide (x.1 < r.1)) ++ r :: xs.dropWhile (fun x => decide (x.1 < r.1))
theorem ins_at {r : Ro} : ∀ {xs : List Ro} {k : Nat}, k ≤ xs.length → (∀ (j : Nat) (x : Ro), j < k → xs[j]? = some x → x.1 < r.1) → (∀ x, xs[k]? = some x → ¬ x.1 < r.1) → insR xs r = xs.take k ++ r :: xs.drop k
  | [], k, hk, _, _ => by
    have : k = 0 := by simpa using hk
    subst this
    rfl
  | x :: xs, 0, _, _, h => by
    have := h x rfl
    simp [insR, List.takeWhile, List.dropWhile, this]
  | x :: xs, k + 1, hk, h1, h2 => by
    have hx := h1 0 x (by omega) rfl
    have ih := ins_at (r := r) (xs := xs) (k := k) (by simpa using hk) (fun j y hj hy => h1 (j + 1) y (by omega) (by simpa using hy)) (fun y hy => h2 y (by simpa using hy))
    unfold insR at ih ⊢
    simp only [List.takeWhile_cons, List.dropWhile_cons, decide_eq_true hx, if_true, List.cons_append, List.take_succ_cons, List.drop_succ_cons, ih]
theorem rcs_snoc (xs : List Ro) (x : Ro) : rcs (xs ++ [x]) = rcs xs ++ [.int .i64 x.1, .int .i64 x.2.1, .int .i64 x.2.2] := by
  rw [rcs_append]; rfl
theorem run_append_empty27 {w : World} {ty : TypeId} {v : Value} {n0 n : Nat} {ys : List Value} (p : Option Addr) (c : Nat) (h : w.ownsRow n0 35 3 v n ys) (hn : 0 < n) : (Builtin.append_ #[27, 27] ty #[v, .slice p 0 c]).run Try.prog w = .ok v w := by
  obtain ⟨i0, hi, hz0, hz1, hz2⟩ := info_parts info35
  rcases h.2 with ⟨_, h0⟩ | ⟨g, cap, cur, hv, hb, hg, hnc, rest⟩
  · omega
  · subst hv
    have hs : Src Try.prog i0.size 27 (.slice p 0 c) 0 [] w := by
      cases p with
      | none => exact Src.ofNil w Try.underlying27 c
      | some ad => exact Src.ofSlice w Try.underlying27 ad 0 c [] (by simp) (fun j u hj => by cases hj) (fun u hu => by cases hu)
    have := run_append_room_src (P := Try.prog) w 27 27 ty 35 i0 Try.underlying27 hi g 0 n cap (.slice p 0 c) 0 [] hs (by omega) (fun j hj => by cases hj) (fun j hj => by cases hj)
    simpa [World.setCells] using this
theorem wpList_append_empty27 {ops : Array Oper} {rest : List Oper} {o : Oper} {a : Act} {w : World} {Q : Exit → Act → World → Prop} (hgd : o.guard = none) (s x : Operand) (ho : o.op = .call { callee := .builtin .append, args := #[s, x], argTypes := #[27, 27] })
    {v : Value} {n0 n : Nat} {ys : List Value} (p : Option Addr) (c : Nat) (hs : a.eval s = v) (hx : a.eval x = .slice p 0 c) (h : w.ownsRow n0 35 3 v n ys) (hn : 0 < n) (hK : wpList Try.prog ops Q rest (a.put o.dst v) w) : wpList Try.prog ops Q (o :: rest) a w := by
  refine wpList_plain hgd fun K hk => ?_
  unfold Oper.wp execOp
  simp only [ho, resolve, invoke, builtin, Sem.run_bind, Sem.run_pure, Result.andThen_ok, List.map_toArray, List.map_cons, List.map_nil, hs, hx, run_append_empty27 p c h hn]
  exact hk _ _ hK
end Li
end Go.Proofs.Ytgdfmoehbgmfkaa
