/- A part of the proofs about package wire: what its functions answer, call by call. -/
import Derived.Test.YtnpnghdjdelemaaWp
namespace Go.Proofs.Ytnpnghdjdelemaa
open Go.RowKit
namespace Wi

theorem Us.three (w : World) (x y z : Nat) (hx : x < 18446744073709551616) (hy : y < 18446744073709551616) (hz : z < 18446744073709551616) (t : TypeId) : Us (w.alloc (.cells #[.int .u64 (x : Nat), .int .u64 (y : Nat), .int .u64 (z : Nat)] t)) (some ⟨w.heap.size, 0, none⟩) 3 [x, y, z] :=
  ⟨rfl, by omega, by simp [hx, hy, hz], fun i u hi => by
    match i, hi with
    | 0, hi => simp at hi; subst hi; exact ⟨_, _, rfl, by simp, by simp⟩
    | 1, hi => simp at hi; subst hi; exact ⟨_, _, rfl, by simp, by simp⟩
    | 2, hi => simp at hi; subst hi; exact ⟨_, _, rfl, by simp, by simp⟩
    | i + 3, hi => simp at hi⟩
theorem ex_out : str ([] ++ vrs [5, 300, 18446744073709551615]) = ⟨#[5, 129, 44, 255, 255, 255, 255, 255, 255, 255, 255, 255]⟩ := by
  apply bs_inj
  decide +kernel
theorem ex_in : few 12 ((bs ⟨#[128, 5]⟩).drop 0) = (0, 0, 12) := by decide +kernel
set_option maxHeartbeats 2000000 in
theorem awake_any (w : World) : Calls Try.prog 11 #[] w fun e w' => e = .returned (.bool true) ∧ Below w.heap.size w w' := by
  have h0 := OutAt.new w
  have B0 := below_alloc w (.cells #[.slice none 0 0] 27)
  have hv := var_any w.heap.size (.slice none 0 0) [] (some ⟨(w.alloc (.cells #[.slice none 0 0] 27)).heap.size, 0, none⟩) 3 3 [5, 300, 18446744073709551615] _ (Us.three (w.alloc (.cells #[.slice none 0 0] 27)) 5 300 18446744073709551615 (by omega) (by omega) (by omega) 31) (h0.later (below_alloc _ _)) (off_new h0) (by decide)
  simp only [World.size_alloc] at hv
  have HX := hide ex_out
  go_enter Try.func11, Try.ntmps11
  go_wp2_with fail
  refine hv.mono ?_
  rintro e w1 ⟨rfl, v1, hw1⟩
  have hb1 := ((hw1.first (below_alloc _ _)).below (B := w.heap.size) (by simp) (Nat.le_refl _) (From.nil _ _ _)).1
  have HB1 := hide (B0.trans hb1)
  have ho1 := hw1.out
  clear hw1 hb1
  go_wp2_with fail
  refine (read_any ⟨#[128, 5]⟩ w1).mono ?_
  rintro e w2 ⟨rfl, hi2, hb2⟩
  have HB2 := hide (HB1.out.trans (hb2.mono HB1.out.size))
  have hr := rvar_ok hi2 (by decide) (by decide)
  rw [ex_in] at hr
  go_wp2_with fail
  refine hr.mono ?_
  rintro e w3 ⟨rfl, hd3⟩
  have HB3 := hide (HB2.out.trans (hd3.below (Nat.le_trans HB1.out.size hb2.size) HB1.out.size))
  have ho3 : OutAt w3 w.heap.size v1 ([] ++ vrs [5, 300, 18446744073709551615]) := by
    have ho2 := ho1.later hb2
    have hk : Below w1.heap.size w2 w3 := hd3.below hb2.size (Nat.le_refl _)
    refine ⟨(hk.block _ ho1.lt).trans ho2.blk, ho2.own.keep (X := fun k => k = w1.heap.size) hd3.keep fun i hi e => ?_, ho2.ne⟩
    have := ho1.own.lt i hi
    omega
  have hst := string_any _ _ _ _ ho3
  rw [HX.out] at hst
  have hi3 := hd3.inn
  clear hi2 hb2 hr ho1 hd3 ho3
  go_wp2_with fail
  refine hst.mono ?_
  rintro e w' ⟨rfl, rfl⟩
  go_wp2_with fail
  refine (err_any hi3).mono ?_
  rintro e w' ⟨rfl, rfl⟩
  go_wp2
  go_ret
  exact ⟨rfl, HB3.out⟩
/-- What is written, or asked of a reader. -/
structure OpV where
  k : Int
  x : Nat
  s : ByteArray
  n : Int
/-- A slice's memory holds these calls. -/
structure Os (w : World) (a : Option Addr) (n : Nat) (xs : List OpV) : Prop where
  len : n = xs.length
  most : n ≤ 9223372036854775807
  fit : ∀ o ∈ xs, Num o.k ∧ o.x < 18446744073709551616 ∧ o.s.size ≤ 9223372036854775807 ∧ Num o.n
  cells : ∀ i o, xs[i]? = some o → ∃ b off, a = some ⟨b, off, none⟩ ∧ b < w.heap.size ∧ w.cell? ⟨b, off + i * 4, none⟩ = some (.int .i64 o.k) ∧ w.cell? ⟨b, off + i * 4 + 1, none⟩ = some (.int .u64 (o.x : Nat)) ∧ w.cell? ⟨b, off + i * 4 + 2, none⟩ = some (.string o.s) ∧ w.cell? ⟨b, off + i * 4 + 3, none⟩ = some (.int .i64 o.n)
theorem Os.later {w w' : World} {a : Option Addr} {n : Nat} {xs : List OpV} (h : Os w a n xs) (hb : Below w.heap.size w w') : Os w' a n xs :=
  ⟨h.len, h.most, h.fit, fun i o hi => by
    obtain ⟨g, off, ha, hg, c0, c1, c2, c3⟩ := h.cells i o hi
    exact ⟨g, off, ha, Nat.lt_of_lt_of_le hg hb.size, (hb.cell hg).trans c0, (hb.cell hg).trans c1, (hb.cell hg).trans c2, (hb.cell hg).trans c3⟩⟩
/-- Are calls not too many, or too long? -/
def opsB (xs : List OpV) : Bool := xs.all (fun o => decide (o.s.size ≤ 300)) && decide (xs.length ≤ 60)
theorem opsB_size {xs : List OpV} (h : opsB xs = true) : ∀ o ∈ xs, o.s.size ≤ 300 := by
  simp only [opsB, Bool.and_eq_true, List.all_eq_true, decide_eq_true_eq] at h
  exact h.1
theorem opsB_len {xs : List OpV} (h : opsB xs = true) : xs.length ≤ 60 := by
  simp only [opsB, Bool.and_eq_true, decide_eq_true_eq] at h
  exact h.2
theorem not_ops {xs : List OpV} {k : Nat} {o : OpV} (h : xs[k]? = some o) (hs : 300 < o.s.size) : opsB xs = false := by
  cases hf : opsB xs with
  | false => rfl
  | true => have := opsB_size hf o (List.mem_of_getElem? h); omega
theorem ops_of {xs : List OpV} (h : ∀ (j : Nat) (o : OpV), xs[j]? = some o → o.s.size ≤ 300) : opsB xs = decide (xs.length ≤ 60) := by
  have : xs.all (fun o => decide (o.s.size ≤ 300)) = true := by
    rw [List.all_eq_true]
    intro o ho
    obtain ⟨j, hj⟩ := List.getElem?_of_mem ho
    simpa using h j o hj
  simp [opsB, this]
set_option maxHeartbeats 1000000 in
theorem fewf_any (a : Option Addr) (n cap : Nat) (xs : List OpV) (w : World) (h : Os w a n xs) :
    Calls Try.prog 10 #[.slice a n cap] w fun e w' => e = .returned (.bool (opsB xs)) ∧ w' = w := by
  have hn := h.most
  go_enter Try.func10, Try.ntmps10
  go_wp2
  go_loop [3] (fun i => ∃ k : Nat, k ≤ n ∧ i = .int .i64 k ∧ (∀ (j : Nat) (o : OpV), j < k → xs[j]? = some o → o.s.size ≤ 300)) (fun i => n - (intOf i).toNat)
  case atStart => exact ⟨0, Nat.zero_le _, rfl, by intro j s hj; omega⟩
  case round =>
    obtain ⟨k, hk, rfl, hok⟩ := hrel
    have hlen := h.len
    by_cases hlt : k < n
    · obtain ⟨⟨ok, ox, os, on⟩, hs⟩ : ∃ o, xs[k]? = some o := ⟨_, List.getElem?_eq_getElem (by omega)⟩
      obtain ⟨b, off, rfl, hbl, c0, c1, c2, c3⟩ := h.cells k _ hs
      have hsz := (h.fit _ (List.mem_of_getElem? hs)).2.2.1
      simp only at c0 c1 c2 c3 hsz
      have Hs := hide hs
      clear hs hlen
      by_cases hbig : 300 < os.size
      · have HF := hide (not_ops Hs.out hbig)
        clear hok
        go_wp2
        go_ret
        exact ⟨ret_bool HF.out.symm, rfl⟩
      · have HN : Hid (∀ (j : Nat) (o : OpV), j < k + 1 → xs[j]? = some o → o.s.size ≤ 300) := by
          intro j t hj ht
          by_cases hjk : j = k
          · subst hjk; rw [Hs.out] at ht; cases ht; show os.size ≤ 300; omega
          · exact hok j t (by omega) ht
        clear hok
        go_wp2
        go_round
        case rel => exact ⟨k + 1, by omega, by go_num, HN.out⟩
        case measure => simp [intOf]; omega
    · have HF : Hid (opsB xs = decide (n ≤ 60)) := by
        show _ = _
        rw [ops_of fun j s hj => hok j s (by obtain ⟨h1, _⟩ := List.getElem?_eq_some_iff.1 hj; omega) hj, hlen]
      clear hok hlen
      go_wp2
      go_ret
      exact ⟨ret_bool (by rw [HF.out]; try (apply decide_eq_decide.2; omega)), rfl⟩

end Wi
end Go.Proofs.Ytnpnghdjdelemaa
