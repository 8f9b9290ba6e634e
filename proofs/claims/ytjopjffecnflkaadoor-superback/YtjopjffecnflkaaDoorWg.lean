/- A part of the proofs about package crc: what its functions answer, call by call. -/
import Derived.Test.YtjopjffecnflkaaDoorWk
namespace Go.Proofs.YtjopjffecnflkaaDoor
open Go.RowKit
namespace Cr

theorem four_cells (M : Nat) (hM : M < 4294967296) (w : World) : ∀ i x, (four M)[i]? = some x →
    (w.alloc (.cells #[.int .u8 ((M : Int) % 256), .int .u8 ((M : Int) / 256 % 256), .int .u8 ((M : Int) / 65536 % 256), .int .u8 ((M : Int) / 16777216)] 5)).cell? ⟨w.heap.size, 0 + i, none⟩ = some (.int .u8 (x : Nat)) := by
  intro i x h
  match i, h with
  | 0, h => simp [four] at h; subst h; simp
  | 1, h => simp [four] at h; subst h; simp
  | 2, h => simp [four] at h; subst h; simp
  | 3, h => simp [four] at h; subst h; simp; omega
  | i + 4, h => simp [four] at h
set_option maxHeartbeats 1000000 in
theorem seal_any (s : ByteArray) (hsz : s.size ≤ 1000) (w : World) (T : Tab w) :
    Calls Tryd.prog 33 #[.string s] w fun e w' => e = .returned (.string (s ++ str (four (more 0 (bs s))))) ∧ Below w.heap.size w w' := by
  have hm := more_lt 0 (bs s)
  have hs := sum_any (some ⟨w.heap.size, 0, none⟩) 1 1 [s] (w.alloc (.cells #[.string s] 9)) (T.later (below_alloc _ _)) (Ss.one w s (by omega) 9)
  rw [show jn [s] = bs s by simp [jn]] at hs
  generalize more 0 (bs s) = M at *
  have hl : (str (four M)).size = 4 := by rw [str_size]; rfl
  have hcv := conv_bytes ((w.alloc (.cells #[.string s] 9)).alloc (.cells #[.int .u8 ((M : Int) % 256), .int .u8 ((M : Int) / 256 % 256), .int .u8 ((M : Int) / 65536 % 256), .int .u8 ((M : Int) / 16777216)] 5)) (w.heap.size + 1) 0 4 4 (four M) rfl (by
    have := four_cells M hm (w.alloc (.cells #[.string s] 9))
    rwa [World.size_alloc] at this)
  generalize str (four M) = F at *
  go_enter Tryd.func33, Tryd.ntmps33
  go_wp2_with fail
  refine hs.mono ?_
  rintro e w' ⟨rfl, hw⟩
  subst hw
  go_wp2
  go_ret
  exact ⟨rfl, (below_alloc _ _).trans ((below_alloc _ _).mono (by simp))⟩
/-- What Open answers: the bytes, and what is wrong. -/
def opened (s : ByteArray) : ByteArray × Int :=
  if s.size < 4 then (ByteArray.empty, 10) else if s.extract 0 (s.size - 4) ++ str (four (more 0 (bs (s.extract 0 (s.size - 4))))) = s then (s.extract 0 (s.size - 4), 0) else (ByteArray.empty, 13)
theorem beq_lists {a b : ByteArray} (h : a = b) : (a.toList == b.toList) = true := by rw [h]; simp
theorem bne_lists {a b : ByteArray} (h : ¬ a = b) : (a.toList == b.toList) = false := by
  rw [beq_eq_false_iff_ne]
  intro e
  rw [ByteArray.toList_eq, ByteArray.toList_eq] at e
  exact h (ByteArray.ext (Array.toList_inj.1 e))
theorem opened_short {s : ByteArray} (h4 : s.size < 4) : opened s = (ByteArray.empty, 10) := by unfold opened; rw [if_pos h4]
theorem opened_ok {s : ByteArray} (h4 : ¬ s.size < 4) (h : s.extract 0 (s.size - 4) ++ str (four (more 0 (bs (s.extract 0 (s.size - 4))))) = s) : opened s = (s.extract 0 (s.size - 4), 0) := by unfold opened; rw [if_neg h4, if_pos h]
theorem opened_no {s : ByteArray} (h4 : ¬ s.size < 4) (h : ¬ s.extract 0 (s.size - 4) ++ str (four (more 0 (bs (s.extract 0 (s.size - 4))))) = s) : opened s = (ByteArray.empty, 13) := by unfold opened; rw [if_neg h4, if_neg h]
set_option maxHeartbeats 1000000 in
theorem open_any (s : ByteArray) (hsz : s.size ≤ 1000) (w : World) (T : Tab w) :
    Calls Tryd.prog 27 #[.string s] w fun e w' => e = .returned (.tuple #[.string (opened s).1, .int .i64 (opened s).2]) ∧ Below w.heap.size w w' := by
  by_cases h4 : s.size < 4
  · have HO := hide (opened_short h4)
    go_enter Tryd.func27, Tryd.ntmps27
    go_wp2
    go_ret2
    exact ⟨by rw [HO.out]; rfl, Below.refl _ _⟩
  · have hs := seal_any (s.extract 0 (s.size - 4)) (by simp; omega) w T
    by_cases he : s.extract 0 (s.size - 4) ++ str (four (more 0 (bs (s.extract 0 (s.size - 4))))) = s
    · have hb := beq_lists he
      have HO := hide (opened_ok h4 he)
      clear he
      generalize s.extract 0 (s.size - 4) ++ str (four (more 0 (bs (s.extract 0 (s.size - 4))))) = F at *
      go_enter Tryd.func27, Tryd.ntmps27
      go_wp2_with fail
      refine hs.mono ?_
      rintro e w' ⟨rfl, hbe⟩
      go_wp2
      go_ret2
      exact ⟨by rw [HO.out]; rfl, hbe⟩
    · have hb := bne_lists he
      have HO := hide (opened_no h4 he)
      clear he
      generalize s.extract 0 (s.size - 4) ++ str (four (more 0 (bs (s.extract 0 (s.size - 4))))) = F at *
      go_enter Tryd.func27, Tryd.ntmps27
      go_wp2_with fail
      refine hs.mono ?_
      rintro e w' ⟨rfl, hbe⟩
      go_wp2
      go_ret2
      exact ⟨by rw [HO.out]; rfl, hbe⟩
theorem cut_data (s : ByteArray) (n : Nat) (hn : n ≤ s.size) : bs s = bs (s.extract 0 n) ++ bs (s.extract n s.size) := by
  simp only [bs, ByteArray.data_extract, ← List.map_append]
  congr 1
  rw [Array.toList_extract, Array.toList_extract]
  have hl : s.data.toList.length = s.size := by rw [Array.length_toList]; rfl
  have e1 : s.data.toList.extract 0 n = s.data.toList.take n := by rw [List.extract_eq_take_drop, List.drop_zero, Nat.sub_zero]
  have e2 : s.data.toList.extract n s.size = s.data.toList.drop n := by
    rw [List.extract_eq_take_drop]
    exact List.take_of_length_le (by rw [List.length_drop]; omega)
  rw [e1, e2, List.take_append_drop]
theorem cut_eq {s : ByteArray} {n : Nat} {F : ByteArray} (hn : n ≤ s.size) : s.extract 0 n ++ F = s ↔ F = s.extract n s.size := by
  have h := cut_data s n hn
  constructor
  · intro e
    have e2 := congrArg bs e
    rw [bs_append, h] at e2
    exact bs_inj (List.append_cancel_left e2)
  · intro e
    apply bs_inj
    rw [bs_append, e, ← h]
theorem rmore0 (s : ByteArray) (hsz : s.size ≤ 9223372036854775807) (w : World) :
    Calls Tryd.prog 26 #[.int .u32 0, .string s] w fun e w' => e = .returned (.int .u32 (more 0 (bs s) : Nat)) ∧ Below w.heap.size w w' :=
  (rmore_any 0 (by omega) s hsz w).mono fun _ _ ⟨h1, h2⟩ => ⟨h1, by rw [h2]; exact Below.refl _ _⟩
end Cr
end Go.Proofs.YtjopjffecnflkaaDoor
