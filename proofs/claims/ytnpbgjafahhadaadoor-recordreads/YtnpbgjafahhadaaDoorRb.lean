/- What the checks of a record answer, call by call. -/
import Derived.Test.YtnpbgjafahhadaaDoorRa
namespace Go.Proofs.YtnpbgjafahhadaaDoor
open Go.RowKit
namespace Re
open Cr
/-- A record in block b (or what begins so). -/
structure BoxR (w : World) (b : Nat) (ep nu ki : Int) (sl : Value) (da tx : ByteArray) : Prop where
  lt : b < w.heap.size
  c0 : w.cell? ⟨b, 0, none⟩ = some (.int .i64 ep)
  c1 : w.cell? ⟨b, 1, none⟩ = some (.int .i64 nu)
  c2 : w.cell? ⟨b, 2, none⟩ = some (.int .i64 ki)
  c3 : w.cell? ⟨b, 3, none⟩ = some sl
  c4 : w.cell? ⟨b, 4, none⟩ = some (.string da)
  c5 : w.cell? ⟨b, 5, none⟩ = some (.string tx)
theorem BoxR.later {w w' : World} {b : Nat} {ep nu ki : Int} {sl : Value} {da tx : ByteArray} (h : BoxR w b ep nu ki sl da tx) (hb : Below (b + 1) w w') : BoxR w' b ep nu ki sl da tx :=
  ⟨Nat.lt_of_lt_of_le h.lt hb.size, (hb.cell (by simp)).trans h.c0, (hb.cell (by simp)).trans h.c1, (hb.cell (by simp)).trans h.c2, (hb.cell (by simp)).trans h.c3, (hb.cell (by simp)).trans h.c4, (hb.cell (by simp)).trans h.c5⟩
def oR (ep nu ki : Int) (sl : Value) (da tx : ByteArray) (t : TypeId) : Obj := .cells #[.int .i64 ep, .int .i64 nu, .int .i64 ki, sl, .string da, .string tx] t
theorem boxR (w : World) (ep nu ki : Int) (sl : Value) (da tx : ByteArray) (t : TypeId) : BoxR (w.alloc (.cells #[.int .i64 ep, .int .i64 nu, .int .i64 ki, sl, .string da, .string tx] t)) w.heap.size ep nu ki sl da tx :=
  ⟨by simp, by simp, by simp, by simp, by simp, by simp, by simp⟩
theorem noData_any (ep nu ki : Int) (sl : Value) (da tx : ByteArray) (w : World) :
    Calls Tryd.prog 53 #[.agg #[.int .i64 ep, .int .i64 nu, .int .i64 ki, sl, .string da, .string tx]] w fun e w' => e = .returned (.int .i64 0) ∧ Below w.heap.size w w' := by
  go_enter Tryd.func53, Tryd.ntmps53
  go_wp2
  go_ret
  exact ⟨rfl, below_alloc _ _⟩
theorem noKind_any (ep nu ki : Int) (sl : Value) (da tx : ByteArray) (w : World) :
    Calls Tryd.prog 59 #[.agg #[.int .i64 ep, .int .i64 nu, .int .i64 ki, sl, .string da, .string tx]] w fun e w' => e = .returned (.int .i64 14) ∧ Below w.heap.size w w' := by
  go_enter Tryd.func59, Tryd.ntmps59
  go_wp2
  go_ret
  exact ⟨rfl, below_alloc _ _⟩
theorem total_any (ep nu ki : Int) (a : Option Addr) (n cap : Nat) (xs : List (Int × Int)) (da tx : ByteArray) (w : World) (h : Sl w a n xs) (hx : allB xs = true) (hn : n ≤ 1000) :
    Calls Tryd.prog 49 #[.agg #[.int .i64 ep, .int .i64 nu, .int .i64 ki, .slice a n cap, .string da, .string tx]] w fun e w' => e = .returned (.int .i64 (total xs)) ∧ Below w.heap.size w w' := by
  have HL := hide h.len
  have hS := h
  clear h
  go_enter Tryd.func49, Tryd.ntmps49
  go_wp2
  go_loopw [3, 5, 9] (fun s u i wr => ∃ k : Nat, k ≤ n ∧ i = .int .i64 k ∧ s = .int .i64 (sumTo xs k) ∧ Below w.heap.size w wr) (fun _ _ i _ => n - (intOf i).toNat)
  case atStart => exact ⟨0, Nat.zero_le _, rfl, rfl, below_alloc _ _⟩
  case round =>
    obtain ⟨k, hk, rfl, rfl, hb⟩ := hrel
    have hp := sumTo_pos hx k (by have := HL.out; omega)
    by_cases hlt : k < n
    · obtain ⟨b, off, rfl, hbl, c0, c1⟩ := (hS.later hb).cells k (by have := HL.out; omega)
      have hm := mayB_iff.1 (allB_at hx (k := k) (by have := HL.out; omega))
      have HS : Hid (sumTo xs (k + 1) = sumTo xs k + (nth xs k).2) := rfl
      generalize sumTo xs k = S at *
      generalize nth xs k = x at *
      obtain ⟨x1, x2⟩ := x
      simp only at hm c0 c1
      clear hS hx
      go_wp2
      go_roundw
      case rel => exact ⟨k + 1, by omega, by go_num, by rw [HS.out], hb.alloc (by exact hb.size) _⟩
      case measure => simp [intOf]; omega
    · have HT : Hid (k = xs.length) := by have := HL.out; show k = xs.length; omega
      have HS : Hid (sumTo xs k = total xs) := by unfold total; rw [← HT.out]; rfl
      clear hS hx
      go_wp2
      go_ret
      exact ⟨ret_int HS.out, hb⟩

set_option maxRecDepth 20000 in
theorem checkTrim_any (ep nu ki : Int) (a : Option Addr) (n cap : Nat) (xs : List (Int × Int)) (da tx : ByteArray) (w : World) (h : Sl w a n xs) (ht : tx.size ≤ 9223372036854775807) :
    Calls Tryd.prog 52 #[.agg #[.int .i64 ep, .int .i64 nu, .int .i64 ki, .slice a n cap, .string da, .string tx]] w fun e w' => e = .returned (.int .i64 (tB ⟨ep, nu, ki, xs, da, tx⟩)) ∧ Below w.heap.size w w' := by
  have HL := hide h.len
  have hS := h
  have hn := h.most
  clear h
  by_cases h0 : 0 < tx.size
  · have e1 : tB ⟨ep, nu, ki, xs, da, tx⟩ = 1 := by unfold tB; exact if_pos (by simp only; omega)
    rw [e1]
    have hne := isEmpty_no h0
    have hnt := not_empty h0
    clear hS e1
    go_enter Tryd.func52, Tryd.ntmps52
    go_wp2
    go_ret
    exact ⟨rfl, below_alloc _ _⟩
  · have htx : tx = ⟨#[]⟩ := empty_tx (by omega)
    subst htx
    by_cases h1 : n < 1
    · have e1 : tB ⟨ep, nu, ki, xs, da, ⟨#[]⟩⟩ = 1 := by unfold tB; exact if_pos (by simp only; have := HL.out; omega)
      rw [e1]
      clear hS e1
      go_enter Tryd.func52, Tryd.ntmps52
      go_wp2
      go_ret
      exact ⟨rfl, below_alloc _ _⟩
    · by_cases h2 : 64 < n
      · have e1 : tB ⟨ep, nu, ki, xs, da, ⟨#[]⟩⟩ = 1 := by unfold tB; exact if_pos (by simp only; have := HL.out; omega)
        rw [e1]
        clear hS e1
        go_enter Tryd.func52, Tryd.ntmps52
        go_wp2
        go_ret
        exact ⟨rfl, below_alloc _ _⟩
      · have e1 : tB ⟨ep, nu, ki, xs, da, ⟨#[]⟩⟩ = if allB xs then 0 else 1 := by unfold tB; exact if_neg (by simp only; have := HL.out; rw [← this]; show ¬ (0 < 0 ∨ _); omega)
        rw [e1]
        clear e1
        obtain ⟨X, hX⟩ : ∃ X : Int, Hid (X = if allB xs then 0 else 1) := ⟨_, rfl⟩
        rw [← hX.out]
        go_enter Tryd.func52, Tryd.ntmps52
        go_wp2
        go_loopw [4, 5, 24] (fun u v i wr => ∃ k : Nat, k ≤ n ∧ i = .int .i64 k ∧ (∀ j, j < k → mayB (nth xs j) = true) ∧ Below w.heap.size w wr) (fun _ _ i _ => n - (intOf i).toNat)
        case atStart => exact ⟨0, Nat.zero_le _, rfl, by intro j hj; omega, below_alloc _ _⟩
        case round =>
          obtain ⟨k, hk, rfl, hok, hb⟩ := hrel
          by_cases hlt : k < n
          · obtain ⟨b, off, rfl, hbl, c0, c1⟩ := (hS.later hb).cells k (by have := HL.out; omega)
            have hr := fun W => may_b (nth xs k) W (hS.fit _ (nth_mem (k := k) (by have := HL.out; omega)))
            cases hm : mayB (nth xs k) with
            | true =>
              have Hok := ext_lt hok hm
              rw [errMay_ok hm] at hr
              clear hok hS hm
              generalize nth xs k = x at c0 c1 hr
              go_wp2_with fail
              refine (hr _).mono ?_
              rintro e w1 ⟨rfl, hb1⟩
              have hbb := hb.trans ((below_alloc _ _).trans (hb1.mono (by simp)) |>.mono hb.size)
              go_wp2
              go_roundw
              case rel => exact ⟨k + 1, by omega, by go_num, Hok, hbb⟩
              case measure => simp [intOf]; omega
            | false =>
              have Hf : Hid (allB xs = false) := allB_no (k := k) (by have := HL.out; omega) hm
              rw [errMay_no hm] at hr
              clear hok hS hm
              generalize nth xs k = x at c0 c1 hr
              go_wp2_with fail
              refine (hr _).mono ?_
              rintro e w1 ⟨rfl, hb1⟩
              have hbb := hb.trans ((below_alloc _ _).trans (hb1.mono (by simp)) |>.mono hb.size)
              go_wp2
              go_ret
              exact ⟨ret_int (by rw [hX.out, Hf.out]; rfl), hbb⟩
          · have Ht : Hid (allB xs = true) := allB_of fun j hj => hok j (by have := HL.out; omega)
            clear hok hS
            go_wp2
            go_ret
            exact ⟨ret_int (by rw [hX.out, Ht.out]; rfl), hb⟩
end Re
end Go.Proofs.YtnpbgjafahhadaaDoor
