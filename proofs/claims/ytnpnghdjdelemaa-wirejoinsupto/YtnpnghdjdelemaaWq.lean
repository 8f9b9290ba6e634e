/- A part of the proofs about package wire: what its functions answer, call by call. -/
import Derived.Test.YtnpnghdjdelemaaWp
namespace Go.Proofs.Ytnpnghdjdelemaa
open Go.RowKit
namespace Wi

set_option maxHeartbeats 2000000 in
theorem textf_any (k : Int) (x : Nat) (s : ByteArray) (n : Int) (hx : x < 18446744073709551616) (hs : s.size ≤ 300) (hn : Num n) (w : World) :
    Calls Try.prog 13 #[.agg #[.int .i64 k, .int .u64 (x : Nat), .string s, .int .i64 n]] w fun e w' => e = .returned (.string (str (wT k x s n))) ∧ Below w.heap.size w w' := by
  have B := below_alloc w (.cells #[.int .i64 k, .int .u64 (x : Nat), .string s, .int .i64 n] 33)
  obtain ⟨hn1, hn2⟩ := hn
  rcases kinds k with rfl | rfl | rfl | rfl | hk
  · have HT := hide (wT0 (x := x) (s := s) (n := n)).1
    by_cases hd : 1 ≤ n ∧ n ≤ 8
    · have HF : Hid (fixW x n = be x n.toNat) := by show _ = _; rw [fixW, if_pos hd]
      obtain ⟨m, rfl⟩ := Int.eq_ofNat_of_zero_le (show 0 ≤ n by omega)
      have hc : ∀ w, _ := fun w => rfixed_any x m hx (by omega) w
      obtain ⟨hd1, hd2⟩ := hd
      go_enter Try.func13, Try.ntmps13
      go_wp2_with fail
      refine (hc _).mono ?_
      rintro e w2 ⟨rfl, hw2⟩
      go_wp2
      go_ret
      rw [HT.out, HF.out]
      exact ⟨rfl, B.trans (hw2.mono B.size)⟩
    · have HF : Hid (fixW x n = []) := by show _ = _; rw [fixW, if_neg hd]
      by_cases h1 : n < 1
      · go_enter Try.func13, Try.ntmps13
        go_wp2
        go_ret
        rw [HT.out, HF.out]
        exact ⟨rfl, B⟩
      · have h8 : 8 < n := by omega
        clear hd
        go_enter Try.func13, Try.ntmps13
        go_wp2
        go_ret
        rw [HT.out, HF.out]
        exact ⟨rfl, B⟩
  · have HT := hide (wT1 (x := x) (s := s) (n := n)).1
    have hc : ∀ w, _ := fun w => rvar_any x hx w
    go_enter Try.func13, Try.ntmps13
    go_wp2_with fail
    refine (hc _).mono ?_
    rintro e w2 ⟨rfl, hw2⟩
    go_wp2
    go_ret
    rw [HT.out]
    exact ⟨rfl, B.trans (hw2.mono B.size)⟩
  · have HT := hide (wT4 (x := x) (s := s) (n := n)).1
    have hc : ∀ w, _ := fun w => rvar_any x hx w
    go_enter Try.func13, Try.ntmps13
    go_wp2_with fail
    refine (hc _).mono ?_
    rintro e w2 ⟨rfl, hw2⟩
    go_wp2
    go_ret
    rw [HT.out]
    exact ⟨rfl, B.trans (hw2.mono B.size)⟩
  · have HT : Hid (wT 2 x s n = vr s.size ++ bs s) := (wT2 (x := x) (s := s) (n := n)).1
    have hc : ∀ w, _ := fun w => rvar_any s.size (by omega) w
    have HA : Hid (str (vr s.size) ++ s = str (vr s.size ++ bs s)) := by show _ = _; rw [str_append, str_bs]
    have hl : (str (vr s.size)).size ≤ 9 := by rw [str_size]; exact vr_len9 _
    generalize str (vr s.size) = V at *
    have hne := later_ne (w.alloc (.cells #[.int .i64 2, .int .u64 (x : Nat), .string s, .int .i64 n] 33))
    have cc : ∀ p : Later (w.alloc (.cells #[.int .i64 2, .int .u64 (x : Nat), .string s, .int .i64 n] 33)), p.val.cell? ⟨w.heap.size, 2, none⟩ = some (.string s) := fun p => by
      rw [p.below.cell (by simp)]
      simp
    go_enter Try.func13, Try.ntmps13
    go_wp2
    refine wp_region_later (by kernel_rfl) (by kernel_rfl) ?_
    (repeat (first | go_big_quiet_skip | (go_big_quiet_want; go_big_quiet_op; go_big_quiet_on)))
    (go_big_quiet_want; go_big_quiet_op; apply Exists.intro; refine ⟨fun p => ?_, ?_⟩; (· exact later_of (hc _)); go_big_quiet_on)
    (repeat (first | go_big_quiet_skip | (go_big_quiet_want; go_big_quiet_op; go_big_quiet_on)))
    refine wpQuiet_nil ?_
    rintro _ ⟨p, rfl⟩
    go_wp2
    go_ret
    rw [HT.out, ← HA.out]
    exact ⟨rfl, B.trans (p.below.mono B.size)⟩
  · have HT := hide (wTr (x := x) (s := s) (n := n) hk).1
    have HS := hide (str_bs s)
    obtain ⟨k0, k1, k4, k2⟩ := hk
    go_enter Try.func13, Try.ntmps13
    go_wp2
    go_ret
    rw [HT.out, HS.out]
    exact ⟨rfl, B⟩
/-- What a call reads of bytes: a number, a text, how many bytes, what is wrong. -/
def rN (l : List Nat) (k n : Int) : Nat := if k = 0 then (fixR l n).1 else if k = 1 then (few 12 l).1 else if k = 4 then (intR l n).1 else 0
def rT (l : List Nat) (k n : Int) : List Nat := if k = 0 ∨ k = 1 ∨ k = 4 then [] else if k = 2 then (txtR l n).1 else (rawR l n).1
def rP (l : List Nat) (k n : Int) : Nat × Int := if k = 0 then (fixR l n).2 else if k = 1 then (few 12 l).2 else if k = 4 then (intR l n).2 else if k = 2 then (txtR l n).2 else (rawR l n).2
theorem r0 (l : List Nat) (n : Int) : rN l 0 n = (fixR l n).1 ∧ rT l 0 n = [] ∧ rP l 0 n = (fixR l n).2 := by simp [rN, rT, rP]
theorem r1 (l : List Nat) (n : Int) : rN l 1 n = (few 12 l).1 ∧ rT l 1 n = [] ∧ rP l 1 n = (few 12 l).2 := by simp [rN, rT, rP]
theorem r4 (l : List Nat) (n : Int) : rN l 4 n = (intR l n).1 ∧ rT l 4 n = [] ∧ rP l 4 n = (intR l n).2 := by simp [rN, rT, rP]
theorem r2 (l : List Nat) (n : Int) : rN l 2 n = 0 ∧ rT l 2 n = (txtR l n).1 ∧ rP l 2 n = (txtR l n).2 := by simp [rN, rT, rP]
theorem rr {k : Int} (hk : Rest k) (l : List Nat) (n : Int) : rN l k n = 0 ∧ rT l k n = (rawR l n).1 ∧ rP l k n = (rawR l n).2 := by
  obtain ⟨h0, h1, h4, h2⟩ := hk
  simp only [beq_eq_false_iff_ne] at h0 h1 h4 h2
  simp [rN, rT, rP, h0, h1, h2, h4]
theorem Did.first {w w1 w2 : World} {b at_ : Nat} {s : ByteArray} {e : Int} (hb : Below w.heap.size w w1) (h : Did w1 b s at_ e w2) : Did w b s at_ e w2 :=
  ⟨h.inn, (Keep.of_below (X := fun k => k = b) hb).trans h.keep fun _ _ x => x⟩
theorem intR_small (l : List Nat) (n : Int) (hn : n ≤ 9223372036854775807) : ((intR l n).1 : Int) ≤ 9223372036854775807 := by
  obtain ⟨h1, h2, _⟩ := intR_facts l n hn
  by_cases h : (intR l n).2.2 = 0
  · exact h1 h
  · rw [(h2 h).1]; decide
set_option maxHeartbeats 2000000 in
theorem readf_ok {b at_ : Nat} {t : ByteArray} (k : Int) (x : Nat) (s : ByteArray) (n : Int) (hn : Num n) (w : World) (h : InAt w b t at_ 0) (ht : t.size ≤ 9223372036854775807) (ha : at_ ≤ t.size) :
    Calls Try.prog 18 #[.pointer (some ⟨b, 0, none⟩), .agg #[.int .i64 k, .int .u64 (x : Nat), .string s, .int .i64 n]] w fun e w' => e = .returned (.tuple #[.int .u64 (rN ((bs t).drop at_) k n : Nat), .string (str (rT ((bs t).drop at_) k n))]) ∧ Did w b t (at_ + (rP ((bs t).drop at_) k n).1) (rP ((bs t).drop at_) k n).2 w' := by
  have B := below_alloc w (.cells #[.int .i64 k, .int .u64 (x : Nat), .string s, .int .i64 n] 33)
  have h2 := h.later B
  rcases kinds k with rfl | rfl | rfl | rfl | hk
  · have HR := hide (r0 ((bs t).drop at_) n)
    have hc := rfix_ok n h2 ht ha hn
    go_enter Try.func18, Try.ntmps18
    go_wp2_with fail
    refine hc.mono ?_
    rintro e w2 ⟨rfl, hw2⟩
    go_wp2
    go_ret2
    rw [HR.out.1, HR.out.2.1, HR.out.2.2]
    exact ⟨rfl, hw2.first B⟩
  · have HR := hide (r1 ((bs t).drop at_) n)
    have hc := rvar_ok h2 ht ha
    go_enter Try.func18, Try.ntmps18
    go_wp2_with fail
    refine hc.mono ?_
    rintro e w2 ⟨rfl, hw2⟩
    go_wp2
    go_ret2
    rw [HR.out.1, HR.out.2.1, HR.out.2.2]
    exact ⟨rfl, hw2.first B⟩
  · have HR := hide (r4 ((bs t).drop at_) n)
    have hc := rint_ok n h2 ht ha hn
    have hsm := intR_small ((bs t).drop at_) n hn.2
    go_enter Try.func18, Try.ntmps18
    go_wp2_with fail
    refine hc.mono ?_
    rintro e w2 ⟨rfl, hw2⟩
    go_wp2
    go_ret2
    rw [HR.out.1, HR.out.2.1, HR.out.2.2]
    exact ⟨rfl, hw2.first B⟩
  · have HR := hide (r2 ((bs t).drop at_) n)
    have hc := rtxt_ok n h2 ht ha hn
    go_enter Try.func18, Try.ntmps18
    go_wp2_with fail
    refine hc.mono ?_
    rintro e w2 ⟨rfl, hw2⟩
    go_wp2
    go_ret2
    rw [HR.out.1, HR.out.2.1, HR.out.2.2]
    exact ⟨rfl, hw2.first B⟩
  · have HR := hide (rr hk ((bs t).drop at_) n)
    have hc := rraw_ok n h2 ht ha hn
    obtain ⟨k0, k1, k4, k2⟩ := hk
    go_enter Try.func18, Try.ntmps18
    go_wp2_with fail
    refine hc.mono ?_
    rintro e w2 ⟨rfl, hw2⟩
    go_wp2
    go_ret2
    rw [HR.out.1, HR.out.2.1, HR.out.2.2]
    exact ⟨rfl, hw2.first B⟩
set_option maxHeartbeats 2000000 in
theorem readf_no {b at_ : Nat} {t : ByteArray} {e : Int} (k : Int) (x : Nat) (s : ByteArray) (n : Int) (w : World) (h : InAt w b t at_ e) (he : (e == 0) = false) :
    Calls Try.prog 18 #[.pointer (some ⟨b, 0, none⟩), .agg #[.int .i64 k, .int .u64 (x : Nat), .string s, .int .i64 n]] w fun e w' => e = .returned (.tuple #[.int .u64 0, .string ⟨#[]⟩]) ∧ Below w.heap.size w w' := by
  have B := below_alloc w (.cells #[.int .i64 k, .int .u64 (x : Nat), .string s, .int .i64 n] 33)
  have h2 := h.later B
  rcases kinds k with rfl | rfl | rfl | rfl | hk
  · have hc := rfix_no n h2 he
    go_enter Try.func18, Try.ntmps18
    go_wp2_with fail
    refine hc.mono ?_
    rintro e w2 ⟨rfl, hw2⟩
    subst hw2
    go_wp2
    go_ret2
    exact ⟨rfl, B⟩
  · have hc := rvar_no h2 he
    go_enter Try.func18, Try.ntmps18
    go_wp2_with fail
    refine hc.mono ?_
    rintro e w2 ⟨rfl, hw2⟩
    subst hw2
    go_wp2
    go_ret2
    exact ⟨rfl, B⟩
  · have hc := rint_no n h2 he
    go_enter Try.func18, Try.ntmps18
    go_wp2_with fail
    refine hc.mono ?_
    rintro e w2 ⟨rfl, hw2⟩
    subst hw2
    go_wp2
    go_ret2
    exact ⟨rfl, B⟩
  · have hc := rtxt_no n h2 he
    go_enter Try.func18, Try.ntmps18
    go_wp2_with fail
    refine hc.mono ?_
    rintro e w2 ⟨rfl, hw2⟩
    subst hw2
    go_wp2
    go_ret2
    exact ⟨rfl, B⟩
  · have hc := rraw_no n h2 he
    obtain ⟨k0, k1, k4, k2⟩ := hk
    go_enter Try.func18, Try.ntmps18
    go_wp2_with fail
    refine hc.mono ?_
    rintro e w2 ⟨rfl, hw2⟩
    subst hw2
    go_wp2
    go_ret2
    exact ⟨rfl, B⟩
set_option maxHeartbeats 2000000 in
theorem readf_nil (k : Int) (x : Nat) (s : ByteArray) (n : Int) (w : World) :
    Calls Try.prog 18 #[.pointer none, .agg #[.int .i64 k, .int .u64 (x : Nat), .string s, .int .i64 n]] w fun e w' => e = .returned (.tuple #[.int .u64 0, .string ⟨#[]⟩]) ∧ Below w.heap.size w w' := by
  have B := below_alloc w (.cells #[.int .i64 k, .int .u64 (x : Nat), .string s, .int .i64 n] 33)
  rcases kinds k with rfl | rfl | rfl | rfl | hk
  · have hc := rfix_nil n (w.alloc (.cells #[.int .i64 0, .int .u64 (x : Nat), .string s, .int .i64 n] 33))
    go_enter Try.func18, Try.ntmps18
    go_wp2_with fail
    refine hc.mono ?_
    rintro e w2 ⟨rfl, hw2⟩
    subst hw2
    go_wp2
    go_ret2
    exact ⟨rfl, B⟩
  · have hc := rvar_nil (w.alloc (.cells #[.int .i64 1, .int .u64 (x : Nat), .string s, .int .i64 n] 33))
    go_enter Try.func18, Try.ntmps18
    go_wp2_with fail
    refine hc.mono ?_
    rintro e w2 ⟨rfl, hw2⟩
    subst hw2
    go_wp2
    go_ret2
    exact ⟨rfl, B⟩
  · have hc := rint_nil n (w.alloc (.cells #[.int .i64 4, .int .u64 (x : Nat), .string s, .int .i64 n] 33))
    go_enter Try.func18, Try.ntmps18
    go_wp2_with fail
    refine hc.mono ?_
    rintro e w2 ⟨rfl, hw2⟩
    subst hw2
    go_wp2
    go_ret2
    exact ⟨rfl, B⟩
  · have hc := rtxt_nil n (w.alloc (.cells #[.int .i64 2, .int .u64 (x : Nat), .string s, .int .i64 n] 33))
    go_enter Try.func18, Try.ntmps18
    go_wp2_with fail
    refine hc.mono ?_
    rintro e w2 ⟨rfl, hw2⟩
    subst hw2
    go_wp2
    go_ret2
    exact ⟨rfl, B⟩
  · have hc := rraw_nil n (w.alloc (.cells #[.int .i64 k, .int .u64 (x : Nat), .string s, .int .i64 n] 33))
    obtain ⟨k0, k1, k4, k2⟩ := hk
    go_enter Try.func18, Try.ntmps18
    go_wp2_with fail
    refine hc.mono ?_
    rintro e w2 ⟨rfl, hw2⟩
    subst hw2
    go_wp2
    go_ret2
    exact ⟨rfl, B⟩

end Wi
end Go.Proofs.Ytnpnghdjdelemaa
