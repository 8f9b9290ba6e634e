/- A part of the proofs about package wire: what its functions answer, call by call. -/
import Derived.Test.YtnpnghdjdelemaaWj
namespace Go.Proofs.Ytnpnghdjdelemaa
open Go.RowKit
namespace Wi

/-- A text: how many bytes it has, and these. -/
def tx (s : ByteArray) : List Nat := vr s.size ++ bs s
def txs (xs : List ByteArray) : List Nat := xs.flatMap tx
theorem txs_snoc {xs : List ByteArray} {k : Nat} {s : ByteArray} (h : xs[k]? = some s) : txs (xs.take (k + 1)) = txs (xs.take k) ++ tx s := by
  rw [snoc_take _ _ _ h, txs, List.flatMap_append]
  simp [txs]
theorem txs_length : ∀ xs : List ByteArray, (txs xs).length ≤ 9 * xs.length + (jn xs).length
  | [] => by simp [txs]
  | x :: r => by
    have h1 := txs_length r
    have h2 := vr_len9 x.size
    simp only [txs, tx, jn, List.flatMap_cons, List.length_append, List.length_cons, bs_length] at h1 ⊢
    omega
theorem vrs_one (x : Nat) : vrs [x] = vr x := by simp [vrs]
theorem jn_one (s : ByteArray) : jn [s] = bs s := by simp [jn]
/-- A writer writes one number, or one text, handed over in new memory. -/
theorem var_one (b : Nat) (v : Value) (l : List Nat) (x : Nat) (hx : x < 18446744073709551616) (w : World) (h : OutAt w b v l) (hl : l.length ≤ 800000000) :
    Calls Try.prog 28 #[.pointer (some ⟨b, 0, none⟩), .slice (some ⟨w.heap.size, 0, none⟩) 1 1] (w.alloc (.cells #[.int .u64 (x : Nat)] 31)) fun e w' => e = .returned (.tuple #[]) ∧ ∃ v', Wrote w b v (l ++ vr x) w' v' := by
  have hc := var_any b v l (some ⟨w.heap.size, 0, none⟩) 1 1 [x] (w.alloc (.cells #[.int .u64 (x : Nat)] 31)) (Us.one w x hx 31) (h.later (below_alloc _ _)) (off_new h) (by omega)
  rw [vrs_one] at hc
  exact hc.mono fun e w' ⟨h1, v', h2⟩ => ⟨h1, v', h2.first (below_alloc _ _)⟩
theorem raw_one (b : Nat) (v : Value) (l : List Nat) (s : ByteArray) (hs : s.size ≤ 9223372036854775807) (w : World) (h : OutAt w b v l) (hl : l.length + s.size ≤ 800000000) :
    Calls Try.prog 30 #[.pointer (some ⟨b, 0, none⟩), .slice (some ⟨w.heap.size, 0, none⟩) 1 1] (w.alloc (.cells #[.string s] 9)) fun e w' => e = .returned (.tuple #[]) ∧ ∃ v', Wrote w b v (l ++ bs s) w' v' := by
  have hc := raw_any b v l (some ⟨w.heap.size, 0, none⟩) 1 1 [s] (w.alloc (.cells #[.string s] 9)) (Ss.one w s hs 9) (h.later (below_alloc _ _)) (off_new h) (by rw [jn_one, bs_length]; omega)
  rw [jn_one] at hc
  exact hc.mono fun e w' ⟨h1, v', h2⟩ => ⟨h1, v', h2.first (below_alloc _ _)⟩
set_option maxHeartbeats 2000000 in
theorem text_any (b : Nat) (v : Value) (l : List Nat) (a : Option Addr) (n cap : Nat) (xs : List ByteArray) (w : World) (hS : Ss w a n xs) (h : OutAt w b v l) (ho : Off a b v) (hl : l.length + 9 * n + (jn xs).length ≤ 800000000) :
    Calls Try.prog 29 #[.pointer (some ⟨b, 0, none⟩), .slice a n cap] w fun e w' => e = .returned (.tuple #[]) ∧ ∃ v', Wrote w b v (l ++ txs xs) w' v' := by
  have hn := hS.most
  go_enter Try.func29, Try.ntmps29
  go_wp2
  go_loopw [8] (fun i wr => ∃ k : Nat, k ≤ n ∧ i = .int .i64 k ∧ ∃ v', Wrote w b v (l ++ txs (xs.take k)) wr v') (fun i _ => n - (intOf i).toNat)
  case atStart => exact ⟨0, Nat.zero_le _, rfl, v, by rw [List.take_zero, show txs [] = [] from rfl, List.append_nil]; exact Wrote.refl h⟩
  case round =>
    obtain ⟨k, hk, rfl, v', hwr⟩ := hrel
    have hlen := hS.len
    by_cases hlt : k < n
    · obtain ⟨s, hs⟩ : ∃ s, xs[k]? = some s := ⟨_, List.getElem?_eq_getElem (by omega)⟩
      obtain ⟨g, off, rfl, hbl, c0⟩ := (hS.keep hwr.keep ho).cells k s hs
      have hsz := hS.fit s (List.mem_of_getElem? hs)
      have HT : Hid (l ++ txs (xs.take k) ++ vr s.size ++ bs s = l ++ txs (xs.take (k + 1))) := by
        show _ = _
        rw [txs_snoc hs, tx]
        simp
      have hll : (l ++ txs (xs.take k)).length + s.size + 9 ≤ 800000000 := by
        have h1 := jn_take_le (xs := xs) (k + 1)
        have h2 := txs_length (xs.take k)
        have h3 : (xs.take k).length ≤ k := by rw [List.length_take]; omega
        rw [jn_take_succ hs, List.length_append, bs_length] at h1
        rw [List.length_append]
        omega
      have h9 := vr_len9 s.size
      clear hs hlen
      generalize l ++ txs (xs.take k) = L at *
      go_wp2_with fail
      refine (var_one b v' L s.size (by omega) _ hwr.out (by omega)).mono ?_
      rintro e w2 ⟨rfl, v2, hw2⟩
      have HW2 := hide (hwr.trans hw2)
      clear hw2
      go_wp2_with fail
      refine (raw_one b v2 (L ++ vr s.size) s hsz _ HW2.out.out (by rw [List.length_append]; omega)).mono ?_
      rintro e w3 ⟨rfl, v3, hw3⟩
      have HW3 := hide (HW2.out.trans hw3)
      clear hw3
      go_wp2
      go_roundw
      case rel => exact ⟨k + 1, by omega, by go_num, v3, by rw [← HT.out]; exact HW3.out⟩
      case measure => simp [intOf]; omega
    · rw [List.take_of_length_le (by omega)] at hwr
      clear hlen
      go_wp2
      go_end0
      exact ⟨rfl, v', hwr⟩
theorem text_one (b : Nat) (v : Value) (l : List Nat) (s : ByteArray) (hs : s.size ≤ 9223372036854775807) (w : World) (h : OutAt w b v l) (hl : l.length + s.size ≤ 700000000) :
    Calls Try.prog 29 #[.pointer (some ⟨b, 0, none⟩), .slice (some ⟨w.heap.size, 0, none⟩) 1 1] (w.alloc (.cells #[.string s] 9)) fun e w' => e = .returned (.tuple #[]) ∧ ∃ v', Wrote w b v (l ++ tx s) w' v' := by
  have hc := text_any b v l (some ⟨w.heap.size, 0, none⟩) 1 1 [s] (w.alloc (.cells #[.string s] 9)) (Ss.one w s hs 9) (h.later (below_alloc _ _)) (off_new h) (by rw [jn_one, bs_length]; omega)
  rw [show txs [s] = tx s by simp [txs]] at hc
  exact hc.mono fun e w' ⟨h1, v', h2⟩ => ⟨h1, v', h2.first (below_alloc _ _)⟩
/-- What a number of so many bytes is written as, and what is wrong. -/
def fixW (x : Nat) (n : Int) : List Nat := if 1 ≤ n ∧ n ≤ 8 then be x n.toNat else []
def fixE (n : Int) : Int := if 1 ≤ n ∧ n ≤ 8 then 0 else 1
set_option maxHeartbeats 2000000 in
theorem fixed_any (b : Nat) (v : Value) (l : List Nat) (x : Nat) (n : Int) (hx : x < 18446744073709551616) (hn : -9223372036854775808 ≤ n ∧ n ≤ 9223372036854775807) (w : World) (h : OutAt w b v l) (hl : l.length ≤ 800000000) :
    Calls Try.prog 31 #[.pointer (some ⟨b, 0, none⟩), .int .u64 (x : Nat), .int .i64 n] w fun e w' => e = .returned (.int .i64 (fixE n)) ∧ ∃ v', Wrote w b v (l ++ fixW x n) w' v' := by
  have hm := mayFix_any n hn w
  by_cases hd : 1 ≤ n ∧ n ≤ 8
  · have HE : Hid (fixE n = 0) := by show _ = _; rw [fixE, if_pos hd]
    have HW : Hid (fixW x n = be x n.toNat) := by show _ = _; rw [fixW, if_pos hd]
    rw [decide_eq_true hd] at hm
    obtain ⟨m, rfl⟩ := Int.eq_ofNat_of_zero_le (show 0 ≤ n by omega)
    have hw := low_any b v l x m hx (by omega) w h (by omega)
    go_enter Try.func31, Try.ntmps31
    go_wp2_with fail
    refine hm.mono ?_
    rintro e w' ⟨rfl, rfl⟩
    go_wp2_with fail
    refine hw.mono ?_
    rintro e w2 ⟨rfl, v2, hw2⟩
    go_wp2
    go_ret
    exact ⟨ret_int HE.out.symm, v2, by rw [HW.out]; exact hw2⟩
  · have HE : Hid (fixE n = 1) := by show _ = _; rw [fixE, if_neg hd]
    have HW : Hid (fixW x n = []) := by show _ = _; rw [fixW, if_neg hd]
    rw [decide_eq_false hd] at hm
    go_enter Try.func31, Try.ntmps31
    go_wp2_with fail
    refine hm.mono ?_
    rintro e w' ⟨rfl, rfl⟩
    go_wp2
    go_ret
    exact ⟨ret_int HE.out.symm, v, by rw [HW.out, List.append_nil]; exact Wrote.refl h⟩
theorem string_any (b : Nat) (v : Value) (l : List Nat) (w : World) (h : OutAt w b v l) :
    Calls Try.prog 14 #[.pointer (some ⟨b, 0, none⟩)] w fun e w' => e = .returned (.string (str l)) ∧ w' = w := by
  have cB := cell_of_one h.blk
  have hcv := h.own.conv
  go_enter Try.func14, Try.ntmps14
  go_wp2
  go_ret
  exact ⟨rfl, rfl⟩
theorem string_nil (w : World) : Calls Try.prog 14 #[.pointer none] w fun e w' => e = .returned (.string ⟨#[]⟩) ∧ w' = w := by
  go_enter Try.func14, Try.ntmps14
  go_wp2
  go_ret
  exact ⟨rfl, rfl⟩
theorem fixed_nil (x : Nat) (n : Int) (w : World) : Calls Try.prog 31 #[.pointer none, .int .u64 (x : Nat), .int .i64 n] w fun e w' => e = .returned (.int .i64 2) ∧ w' = w := by
  go_enter Try.func31, Try.ntmps31
  go_wp2
  go_ret
  exact ⟨rfl, rfl⟩
theorem var_nil (s : Value) (w : World) : Calls Try.prog 28 #[.pointer none, s] w fun e w' => e = .returned (.tuple #[]) ∧ w' = w := by
  go_enter Try.func28, Try.ntmps28
  go_wp2
  refine bodyPost_ret (results_none rfl _ _ _) rfl ?_
  exact ⟨rfl, rfl⟩
theorem raw_nil (s : Value) (w : World) : Calls Try.prog 30 #[.pointer none, s] w fun e w' => e = .returned (.tuple #[]) ∧ w' = w := by
  go_enter Try.func30, Try.ntmps30
  go_wp2
  refine bodyPost_ret (results_none rfl _ _ _) rfl ?_
  exact ⟨rfl, rfl⟩
set_option maxHeartbeats 2000000 in
theorem text_nil (a : Option Addr) (n cap : Nat) (xs : List ByteArray) (w : World) (hS : Ss w a n xs) : Calls Try.prog 29 #[.pointer none, .slice a n cap] w fun e w' => e = .returned (.tuple #[]) ∧ Below w.heap.size w w' := by
  have hn := hS.most
  go_enter Try.func29, Try.ntmps29
  go_wp2
  go_loopw [8] (fun i wr => ∃ k : Nat, k ≤ n ∧ i = .int .i64 k ∧ Below w.heap.size w wr) (fun i _ => n - (intOf i).toNat)
  case atStart => exact ⟨0, Nat.zero_le _, rfl, Below.refl _ _⟩
  case round =>
    obtain ⟨k, hk, rfl, hbr⟩ := hrel
    have hlen := hS.len
    by_cases hlt : k < n
    · obtain ⟨s, hs⟩ : ∃ s, xs[k]? = some s := ⟨_, List.getElem?_eq_getElem (by omega)⟩
      obtain ⟨g, off, rfl, hbl, c0⟩ := (hS.later hbr).cells k s hs
      have hsz := hS.fit s (List.mem_of_getElem? hs)
      clear hs hlen
      go_wp2_with fail
      refine (var_nil _ _).mono ?_
      rintro e w2 ⟨rfl, hw2⟩
      subst hw2
      go_wp2_with fail
      refine (raw_nil _ _).mono ?_
      rintro e w2 ⟨rfl, hw2⟩
      subst hw2
      go_wp2
      go_roundw
      case rel => exact ⟨k + 1, by omega, by go_num, (hbr.trans ((below_alloc _ _).mono hbr.size)).alloc (by have := hbr.size; simp; omega) _⟩
      case measure => simp [intOf]; omega
    · go_wp2
      go_end0
      exact ⟨rfl, hbr⟩

end Wi
end Go.Proofs.Ytnpnghdjdelemaa
