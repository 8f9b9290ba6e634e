/- What a head is sealed with, and what stands at its end. -/
import Derived.Test.YtnpbgjafahhadaaDoorRf
import Derived.Test.YtnpbgjafahhadaaDoorSh
namespace Go.Proofs.YtnpbgjafahhadaaDoor
open Go.RowKit
namespace Re
open Cr
theorem seal_big (s : ByteArray) (hsz : s.size ≤ 1000000) (w : World) (T : Tab w) :
    Calls Tryd.prog 46 #[.string s] w fun e w' => e = .returned (.string (s ++ str (four (more 0 (bs s))))) ∧ Below w.heap.size w w' := by
  have hm := more_lt 0 (bs s)
  have hs := sum_any (some ⟨w.heap.size, 0, none⟩) 1 1 [s] (w.alloc (.cells #[.string s] 9)) (T.later (below_alloc _ _)) (Ss.one w s (by omega) 9)
  rw [show jn [s] = bs s by simp [jn]] at hs
  generalize more 0 (bs s) = M at *
  have hl : (str (four M)).size = 4 := by rw [str_size]; rfl
  have hcv := conv_bytes ((w.alloc (.cells #[.string s] 9)).alloc (.cells #[.int .u8 ((M : Int) % 256), .int .u8 ((M : Int) / 256 % 256), .int .u8 ((M : Int) / 65536 % 256), .int .u8 ((M : Int) / 16777216)] 5)) (w.heap.size + 1) 0 4 4 (four M) rfl (by
    have := four_cells M hm (w.alloc (.cells #[.string s] 9))
    rwa [World.size_alloc] at this)
  generalize str (four M) = F at *
  go_enter Tryd.func46, Tryd.ntmps46
  go_wp2_with fail
  refine hs.mono ?_
  rintro e w' ⟨rfl, hw⟩
  subst hw
  go_wp2
  go_ret
  exact ⟨rfl, (below_alloc _ _).trans ((below_alloc _ _).mono (by simp))⟩
theorem open_big (s : ByteArray) (hsz : s.size ≤ 1000000) (w : World) (T : Tab w) :
    Calls Tryd.prog 84 #[.string s] w fun e w' => e = .returned (.tuple #[.string (opened s).1, .int .i64 (opened s).2]) ∧ Below w.heap.size w w' := by
  by_cases h4 : s.size < 4
  · have HO := hide (opened_short h4)
    go_enter Tryd.func84, Tryd.ntmps84
    go_wp2
    go_ret2
    exact ⟨by rw [HO.out]; rfl, Below.refl _ _⟩
  · have hs := seal_big (s.extract 0 (s.size - 4)) (by simp; omega) w T
    by_cases he : s.extract 0 (s.size - 4) ++ str (four (more 0 (bs (s.extract 0 (s.size - 4))))) = s
    · have hb := beq_lists he
      have HO := hide (opened_ok h4 he)
      clear he
      generalize s.extract 0 (s.size - 4) ++ str (four (more 0 (bs (s.extract 0 (s.size - 4))))) = F at *
      go_enter Tryd.func84, Tryd.ntmps84
      go_wp2_with fail
      refine hs.mono ?_
      rintro e w' ⟨rfl, hbe⟩
      go_wp2
      go_ret2
      exact ⟨by rw [HO.out]; rfl, hbe⟩
    · have hb := bne_lists he
      have HO := hide (opened_no h4 he)
      clear he
      generalize s.extract 0 (s.size - 4) ++ str (four (more 0 (bs (s.extract 0 (s.size - 4))))) = F at *
      go_enter Tryd.func84, Tryd.ntmps84
      go_wp2_with fail
      refine hs.mono ?_
      rintro e w' ⟨rfl, hbe⟩
      go_wp2
      go_ret2
      exact ⟨by rw [HO.out]; rfl, hbe⟩

theorem sectors_any (m : Nat) (hm : m ≤ 1000000) (w : World) : Calls Tryd.prog 30 #[.int .i64 (m : Int)] w fun e w' => e = .returned (.int .i64 (((m + 63) / 64 : Nat) : Int)) ∧ w' = w := by
  go_enter Tryd.func30, Tryd.ntmps30
  go_wp2
  go_ret
  exact ⟨ret_int (by omega), rfl⟩
theorem repeat_str (c : Nat) : (⟨(Lib.repeatL [0] c).toArray⟩ : ByteArray) = str (List.replicate c 0) := by
  have : ∀ c, Lib.repeatL [0] c = (List.replicate c 0).map UInt8.ofNat := by
    intro c
    induction c with
    | zero => rfl
    | succ c ih => rw [Lib.repeatL, ih, List.replicate_succ, List.map_cons]; rfl
  rw [this]
  rfl
theorem zeros_any (c : Nat) (hc : c ≤ 100000) (w : World) : Calls Tryd.prog 45 #[.string ⟨#[0]⟩, .int .i64 (c : Int)] w fun e w' => e = .returned (.string (str (List.replicate c 0))) ∧ Below w.heap.size w w' := by
  have h := Tryd.strings_Repeat ⟨#[0]⟩ c w (by omega) (by show 1 * c ≤ _; omega)
  rw [← repeat_str]
  exact h
theorem Sl.off {w : World} {a : Option Addr} {n b : Nat} {v : Value} {xs : List (Int × Int)} (h : Sl w a n xs) (h1 : 1 ≤ n) (hb : w.heap.size ≤ b) (hv : v.ownBlock = none) : Off a b v := by
  intro ad e x
  obtain ⟨g, off, ha, hg, _⟩ := h.cells 0 (by have := h.len; omega)
  rw [ha] at e
  simp only [Option.some.injEq] at e
  subst e
  rcases x with x | x
  · simp only at x; omega
  · rw [hv] at x; simp at x
theorem raw_two (b : Nat) (v : Value) (l : List Nat) (s t : ByteArray) (hs : s.size ≤ 9223372036854775807) (ht : t.size ≤ 9223372036854775807) (w : World) (h : OutAt w b v l) (hl : l.length + s.size + t.size ≤ 800000000) :
    Calls Tryd.prog 43 #[.pointer (some ⟨b, 0, none⟩), .slice (some ⟨w.heap.size, 0, none⟩) 2 2] (w.alloc (.cells #[.string s, .string t] 9)) fun e w' => e = .returned (.tuple #[]) ∧ ∃ v', Wrote w b v (l ++ (bs s ++ bs t)) w' v' := by
  have hc := raw_any b v l (some ⟨w.heap.size, 0, none⟩) 2 2 [s, t] (w.alloc (.cells #[.string s, .string t] 9)) (Ss.two w s t hs ht 9) (h.later (below_alloc _ _)) (off_new h) (by simp only [jn, List.length_append, bs_length, List.length_nil]; omega)
  rw [show jn [s, t] = bs s ++ bs t by simp [jn]] at hc
  exact hc.mono fun e w' ⟨h1, v', h2⟩ => ⟨h1, v', h2.first (below_alloc _ _)⟩
end Re
end Go.Proofs.YtnpbgjafahhadaaDoor
