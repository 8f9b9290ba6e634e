/- A part of the proofs about package wire: what its functions answer, call by call. -/
import Derived.Test.YtnpnghdjdelemaaWh
import Derived.Test.YtnpnghdjdelemaaWo
import Derived.Test.YtnpnghdjdelemaaWm
namespace Go.Proofs.Ytnpnghdjdelemaa
open Go.RowKit
namespace Wi

set_option maxHeartbeats 2000000 in
theorem rtext_any (s : ByteArray) (hs : s.size ≤ 9223372036854775807) (m : Int) (hm : -9223372036854775808 ≤ m ∧ m ≤ 9223372036854775807) (w : World) :
    Calls Try.prog 38 #[.string s, .int .i64 m] w fun e w' => e = .returned (.tuple #[.string (str (txtR (bs s) m).1), .int .i64 ((txtR (bs s) m).2.1 : Nat), .int .i64 (txtR (bs s) m).2.2]) ∧ Below w.heap.size w w' := by
  obtain ⟨hm1, hm2⟩ := hm
  have hf := rfew_any s hs w
  have hx := few_bound (bs_lt s)
  have hle := (few_facts (bs s)).2
  rw [bs_length] at hle
  by_cases he : (few 12 (bs s)).2.2 = 0
  · have he2 : ((few 12 (bs s)).2.2 == 0) = true := by rw [he]; rfl
    by_cases h2 : m < 0 ∨ m < ((few 12 (bs s)).1 : Nat)
    · have HT : Hid (txtR (bs s) m = ([], 0, 12)) := by
        have hi := intR_form he h2
        show _ = _
        rw [txtR_bad (by rw [hi]; decide), hi]
      rw [he] at hf
      generalize few 12 (bs s) = F at *
      by_cases h0 : m < 0
      · go_enter Try.func38, Try.ntmps38
        go_wp2_with fail
        refine hf.mono ?_
        rintro e w2 ⟨rfl, hb⟩
        go_wp2
        go_ret3
        rw [HT.out]
        exact ⟨rfl, hb⟩
      · have h3 : m < (F.1 : Int) := by omega
        clear h2
        go_enter Try.func38, Try.ntmps38
        go_wp2_with fail
        refine hf.mono ?_
        rintro e w2 ⟨rfl, hb⟩
        go_wp2
        go_ret3
        rw [HT.out]
        exact ⟨rfl, hb⟩
    · have hi := intR_ok h2
      have HI := hide hi
      by_cases h3 : s.size - (few 12 (bs s)).2.1 < (few 12 (bs s)).1
      · have HT : Hid (txtR (bs s) m = ([], 0, 10)) := txtR_short (by rw [hi]; exact he) (by rw [hi, bs_length]; exact h3)
        rw [he] at hf
        clear hi HI
        generalize few 12 (bs s) = F at *
        have h4 : (F.1 : Int) ≤ m := by omega
        have h5 : 0 ≤ m := by omega
        have h6 : (s.size : Int) - (F.2.1 : Int) < (F.1 : Int) := by omega
        clear h2 h3
        go_enter Try.func38, Try.ntmps38
        go_wp2_with fail
        refine hf.mono ?_
        rintro e w2 ⟨rfl, hb⟩
        go_wp2
        go_ret3
        rw [HT.out]
        exact ⟨rfl, hb⟩
      · have HT := hide (txtR_ok (l := bs s) (m := m) (by rw [hi]; exact he) (by rw [hi, bs_length]; exact h3))
        rw [hi] at HT
        rw [he] at hf
        have HX := hide (extract_str s (few 12 (bs s)).2.1 (few 12 (bs s)).1)
        clear hi HI
        generalize few 12 (bs s) = F at *
        have h4 : (F.1 : Int) ≤ m := by omega
        have h5 : 0 ≤ m := by omega
        have h6 : (F.1 : Int) ≤ (s.size : Int) - (F.2.1 : Int) := by omega
        clear h2 h3
        go_enter Try.func38, Try.ntmps38
        go_wp2_with fail
        refine hf.mono ?_
        rintro e w2 ⟨rfl, hb⟩
        go_wp2
        go_ret3
        rw [HT.out]
        refine ⟨?_, hb⟩
        rw [← HX.out]
        first | rfl | (congr 4 <;> first | rfl | omega)
  · have he2 : ((few 12 (bs s)).2.2 == 0) = false := by rw [beq_eq_false_iff_ne]; exact he
    have HT : Hid (txtR (bs s) m = ([], 0, (few 12 (bs s)).2.2)) := by
      have hi := intR_bad (m := m) he
      show _ = _
      rw [txtR_bad (by rw [hi]; exact he), hi]
    clear he
    generalize few 12 (bs s) = F at *
    go_enter Try.func38, Try.ntmps38
    go_wp2_with fail
    refine hf.mono ?_
    rintro e w2 ⟨rfl, hb⟩
    go_wp2
    go_ret3
    rw [HT.out]
    exact ⟨rfl, hb⟩
/-- What a call writes, and what it answers. -/
def wT (k : Int) (x : Nat) (s : ByteArray) (n : Int) : List Nat := if k = 0 then fixW x n else if k = 1 ∨ k = 4 then vr x else if k = 2 then tx s else bs s
def wE (k : Int) (n : Int) : Int := if k = 0 then fixE n else 0
theorem wT0 {x : Nat} {s : ByteArray} {n : Int} : wT 0 x s n = fixW x n ∧ wE 0 n = fixE n := ⟨by simp [wT], by simp [wE]⟩
theorem wT1 {x : Nat} {s : ByteArray} {n : Int} : wT 1 x s n = vr x ∧ wE 1 n = 0 := ⟨by simp [wT], by simp [wE]⟩
theorem wT4 {x : Nat} {s : ByteArray} {n : Int} : wT 4 x s n = vr x ∧ wE 4 n = 0 := ⟨by simp [wT], by simp [wE]⟩
theorem wT2 {x : Nat} {s : ByteArray} {n : Int} : wT 2 x s n = tx s ∧ wE 2 n = 0 := ⟨by simp [wT], by simp [wE]⟩
/-- A call of another kind. -/
def Rest (k : Int) : Prop := (k == 0) = false ∧ (k == 1) = false ∧ (k == 4) = false ∧ (k == 2) = false
theorem wTr {k : Int} {x : Nat} {s : ByteArray} {n : Int} (h : Rest k) : wT k x s n = bs s ∧ wE k n = 0 := by
  obtain ⟨h0, h1, h4, h2⟩ := h
  simp only [beq_eq_false_iff_ne] at h0 h1 h4 h2
  simp [wT, wE, h0, h1, h2, h4]
theorem kinds (k : Int) : k = 0 ∨ k = 1 ∨ k = 4 ∨ k = 2 ∨ Rest k := by
  unfold Rest
  simp only [beq_eq_false_iff_ne]
  omega
def Num (k : Int) : Prop := -9223372036854775808 ≤ k ∧ k ≤ 9223372036854775807
set_option maxHeartbeats 2000000 in
theorem write_any (b : Nat) (v : Value) (l : List Nat) (k : Int) (x : Nat) (s : ByteArray) (n : Int) (hx : x < 18446744073709551616) (hs : s.size ≤ 300) (hn : Num n) (w : World) (h : OutAt w b v l) (hl : l.length ≤ 1000000) :
    Calls Try.prog 12 #[.pointer (some ⟨b, 0, none⟩), .agg #[.int .i64 k, .int .u64 (x : Nat), .string s, .int .i64 n]] w fun e w' => e = .returned (.int .i64 (wE k n)) ∧ ∃ v', Wrote w b v (l ++ wT k x s n) w' v' := by
  have B := below_alloc w (.cells #[.int .i64 k, .int .u64 (x : Nat), .string s, .int .i64 n] 33)
  have h2 := h.later B
  have hs2 : s.size ≤ 9223372036854775807 := by omega
  rcases kinds k with rfl | rfl | rfl | rfl | hk
  · have HT := hide (wT0 (x := x) (s := s) (n := n))
    have hc := fixed_any b v l x n hx hn _ h2 (by omega)
    go_enter Try.func12, Try.ntmps12
    go_wp2_with fail
    refine hc.mono ?_
    rintro e w2 ⟨rfl, v2, hw2⟩
    go_wp2
    go_ret
    rw [HT.out.1, HT.out.2]
    exact ⟨rfl, v2, hw2.first B⟩
  · have HT := hide (wT1 (x := x) (s := s) (n := n))
    have hc := var_one b v l x hx _ h2 (by omega)
    simp only [World.size_alloc] at hc
    go_enter Try.func12, Try.ntmps12
    go_wp2_with fail
    refine hc.mono ?_
    rintro e w2 ⟨rfl, v2, hw2⟩
    go_wp2
    go_ret
    rw [HT.out.1, HT.out.2]
    exact ⟨rfl, v2, hw2.first B⟩
  · have HT := hide (wT4 (x := x) (s := s) (n := n))
    have hc := var_one b v l x hx _ h2 (by omega)
    simp only [World.size_alloc] at hc
    go_enter Try.func12, Try.ntmps12
    go_wp2_with fail
    refine hc.mono ?_
    rintro e w2 ⟨rfl, v2, hw2⟩
    go_wp2
    go_ret
    rw [HT.out.1, HT.out.2]
    exact ⟨rfl, v2, hw2.first B⟩
  · have HT := hide (wT2 (x := x) (s := s) (n := n))
    have hc := text_one b v l s hs2 _ h2 (by omega)
    simp only [World.size_alloc] at hc
    go_enter Try.func12, Try.ntmps12
    go_wp2_with fail
    refine hc.mono ?_
    rintro e w2 ⟨rfl, v2, hw2⟩
    go_wp2
    go_ret
    rw [HT.out.1, HT.out.2]
    exact ⟨rfl, v2, hw2.first B⟩
  · have HT := hide (wTr (x := x) (s := s) (n := n) hk)
    obtain ⟨k0, k1, k4, k2⟩ := hk
    have hc := raw_one b v l s hs2 _ h2 (by omega)
    simp only [World.size_alloc] at hc
    go_enter Try.func12, Try.ntmps12
    go_wp2_with fail
    refine hc.mono ?_
    rintro e w2 ⟨rfl, v2, hw2⟩
    go_wp2
    go_ret
    rw [HT.out.1, HT.out.2]
    exact ⟨rfl, v2, hw2.first B⟩
def nE (k : Int) : Int := if k = 0 then 2 else 0
theorem nE_rest {k : Int} (h : Rest k) : nE k = 0 := by
  have := h.1
  rw [beq_eq_false_iff_ne] at this
  simp [nE, this]
set_option maxHeartbeats 2000000 in
theorem write_nil (k : Int) (x : Nat) (s : ByteArray) (n : Int) (hs : s.size ≤ 300) (w : World) :
    Calls Try.prog 12 #[.pointer none, .agg #[.int .i64 k, .int .u64 (x : Nat), .string s, .int .i64 n]] w fun e w' => e = .returned (.int .i64 (nE k)) ∧ Below w.heap.size w w' := by
  have B := below_alloc w (.cells #[.int .i64 k, .int .u64 (x : Nat), .string s, .int .i64 n] 33)
  have B2 : ∀ o, Below w.heap.size w ((w.alloc (.cells #[.int .i64 k, .int .u64 (x : Nat), .string s, .int .i64 n] 33)).alloc o) := fun o => B.trans ((below_alloc _ _).mono B.size)
  have hs2 : s.size ≤ 9223372036854775807 := by omega
  rcases kinds k with rfl | rfl | rfl | rfl | hk
  · go_enter Try.func12, Try.ntmps12
    go_wp2_with fail
    refine (fixed_nil _ _ _).mono ?_
    rintro e w2 ⟨rfl, hw⟩
    subst hw
    go_wp2
    go_ret
    exact ⟨rfl, B⟩
  · go_enter Try.func12, Try.ntmps12
    go_wp2_with fail
    refine (var_nil _ _).mono ?_
    rintro e w2 ⟨rfl, hw⟩
    subst hw
    go_wp2
    go_ret
    exact ⟨rfl, B2 _⟩
  · go_enter Try.func12, Try.ntmps12
    go_wp2_with fail
    refine (var_nil _ _).mono ?_
    rintro e w2 ⟨rfl, hw⟩
    subst hw
    go_wp2
    go_ret
    exact ⟨rfl, B2 _⟩
  · have hc := text_nil (some ⟨w.heap.size + 1, 0, none⟩) 1 1 [s] _ (by have := Ss.one (w.alloc (.cells #[.int .i64 2, .int .u64 (x : Nat), .string s, .int .i64 n] 33)) s hs2 9; simpa only [World.size_alloc] using this)
    go_enter Try.func12, Try.ntmps12
    go_wp2_with fail
    refine hc.mono ?_
    rintro e w2 ⟨rfl, hw⟩
    go_wp2
    go_ret
    exact ⟨rfl, (B2 _).trans (hw.mono (B2 _).size)⟩
  · have HK := hide (nE_rest hk)
    obtain ⟨k0, k1, k4, k2⟩ := hk
    go_enter Try.func12, Try.ntmps12
    go_wp2_with fail
    refine (raw_nil _ _).mono ?_
    rintro e w2 ⟨rfl, hw⟩
    subst hw
    go_wp2
    go_ret
    rw [HK.out]
    exact ⟨rfl, B2 _⟩

end Wi
end Go.Proofs.Ytnpnghdjdelemaa
