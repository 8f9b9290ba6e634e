/- The library's FormatInt at base 16; what names begin with. -/
import Derived.Test.YtnfakgdgjkgekaaDoorWh
namespace Go.Proofs.YtnfakgdgjkgekaaDoor
open Go.RowKit
namespace Wi

theorem fmt_any (n : Nat) (hn : n < 1099511627776) (w : World) (T : Tz w) : Calls Tryd.prog 35 #[.int .i64 (n : Nat), .int .i64 16] w fun e w' => e = .returned (.string (str (hexL n))) ∧ Below w.heap.size w w' := by
  have hc := fbits_any n hn w T
  have h0 : ¬ ((n : Int) < 0) := by omega
  generalize str (hexL n) = S at *
  go_enter Tryd.func35, Tryd.ntmps35
  go_wp2_with fail
  refine hc.mono ?_
  rintro e w' ⟨rfl, hb⟩
  clear hc
  go_wp2
  go_ret
  exact ⟨rfl, hb⟩
theorem format_any (n : Nat) (hn : n < 1099511627776) (w : World) (T : Tz w) : Calls Tryd.prog 23 #[.int .i64 (n : Nat), .int .i64 16] w fun e w' => e = .returned (.string (str (hexL n))) ∧ Below w.heap.size w w' := by
  have hc := fmt_any n hn w T
  generalize str (hexL n) = S at *
  go_enter Tryd.func23, Tryd.ntmps23
  go_wp2_with fail
  refine hc.mono ?_
  rintro e w' ⟨rfl, hb⟩
  clear hc
  go_wp2
  go_ret
  exact ⟨rfl, hb⟩
theorem conv_ltr {k : Nat} (h1 : 1 ≤ k) (h2 : k ≤ 4) (w : World) : (convert 21 9 (.int .i32 (ltr k : Nat))).run Tryd.prog w = .ok (.string (str [ltr k])) w := by
  rcases (show k = 1 ∨ k = 2 ∨ k = 3 ∨ k = 4 by omega) with rfl | rfl | rfl | rfl
  · exact (show (convert 21 9 (.int .i32 100)).run Tryd.prog w = .ok (.string (str [100])) w by kernel_rfl)
  · exact (show (convert 21 9 (.int .i32 99)).run Tryd.prog w = .ok (.string (str [99])) w by kernel_rfl)
  · exact (show (convert 21 9 (.int .i32 109)).run Tryd.prog w = .ok (.string (str [109])) w by kernel_rfl)
  · exact (show (convert 21 9 (.int .i32 101)).run Tryd.prog w = .ok (.string (str [101])) w by kernel_rfl)
theorem vol_size {v : ByteArray} (h : volB v = true) : v.size ≤ 32 := by
  unfold volB at h
  simp only [Bool.and_eq_true, decide_eq_true_eq] at h
  omega
def preE (v : ByteArray) (z : Int) : Int := if volB v then (if kindB z then 0 else 14) else 1
def preS (v : ByteArray) (z : Int) : ByteArray := if preE v z = 0 then str (preL (bs v) z.toNat) else { data := #[] }
theorem pre_cat (v : ByteArray) (k : Nat) : v ++ { data := #[47] } ++ str [ltr k] ++ { data := #[47] } = str (preL (bs v) k) := by
  apply bs_inj
  have hl : ltr k < 256 := by
    unfold ltr
    split
    · omega
    · split
      · omega
      · split <;> omega
  have hb : ∀ b ∈ preL (bs v) k, b < 256 := fun b hb => by
    rw [preL] at hb
    rcases List.mem_append.1 hb with h | h
    · exact bs_lt v b h
    · simp only [List.mem_cons, List.not_mem_nil, or_false] at h
      rcases h with rfl | rfl | rfl <;> omega
  rw [bs_append, bs_append, bs_append, bs_str hb, bs_str (by simpa using hl), preL, show bs { data := #[47] } = [47] from rfl]
  simp
set_option maxHeartbeats 2000000 in
theorem prefix_any (v : ByteArray) (hv : v.size ≤ 9223372036854775807) (z : Int) (hz : Num z) (w : World) : Calls Tryd.prog 13 #[.string v, .int .i64 z] w fun e w' => e = .returned (.tuple #[.string (preS v z), .int .i64 (preE v z)]) ∧ Below w.heap.size w w' := by
  have hvo := volume_any v hv w
  cases hb : volB v with
  | false =>
    have e1 : preE v z = 1 := by simp [preE, hb]
    have e2 : preS v z = { data := #[] } := by simp [preS, e1]
    rw [volE, hb] at hvo
    rw [e1, e2]
    clear e1 e2 hb
    simp only [Bool.false_eq_true, if_false] at hvo
    have HB := hide (Below.refl w.heap.size w)
    go_enter Tryd.func13, Tryd.ntmps13
    go_wp2_with fail
    refine hvo.mono ?_
    rintro e w' ⟨rfl, hww⟩
    subst hww
    clear hvo
    go_wp2
    go_ret2
    exact ⟨rfl, HB.out⟩
  | true =>
    rw [volE, hb] at hvo
    simp only [if_true] at hvo
    have hle := letter_any z hz w
    cases hk : kindB z with
    | false =>
      have e1 : preE v z = 14 := by simp [preE, hb, hk]
      have e2 : preS v z = { data := #[] } := by simp [preS, e1]
      rw [hk] at hle
      rw [e1, e2]
      clear e1 e2 hb hk
      generalize kl z = C at *
      go_enter Tryd.func13, Tryd.ntmps13
      go_wp2_with fail
      refine hvo.mono ?_
      rintro e w' ⟨rfl, hww⟩
      subst hww
      clear hvo
      go_wp2_with fail
      refine hle.mono ?_
      rintro e w2 ⟨rfl, hb2⟩
      clear hle
      go_wp2
      go_ret2
      exact ⟨rfl, hb2⟩
    | true =>
      have e1 : preE v z = 0 := by simp [preE, hb, hk]
      have e2 : preS v z = str (preL (bs v) z.toNat) := by simp [preS, e1]
      have hkk := hk
      unfold kindB at hkk
      rw [decide_eq_true_eq] at hkk
      have hcv := conv_ltr (k := z.toNat) (by omega) (by omega)
      rw [hk, show kl z = (ltr z.toNat : Int) by unfold kl; rw [hk]; rfl] at hle
      rw [e1, e2]
      have HC := hide (pre_cat v z.toNat)
      have hv32 := vol_size hb
      have hs1 : (str [ltr z.toNat]).size = 1 := str_size _
      clear e1 e2 hb hk hkk
      generalize preL (bs v) z.toNat = PL at *
      generalize ltr z.toNat = C at *
      go_enter Tryd.func13, Tryd.ntmps13
      go_wp2_with fail
      refine hvo.mono ?_
      rintro e w' ⟨rfl, hww⟩
      subst hww
      clear hvo
      go_wp2_with fail
      refine hle.mono ?_
      rintro e w2 ⟨rfl, hb2⟩
      clear hle
      go_wp2
      go_ret2
      exact ⟨by rw [← HC.out]; rfl, hb2⟩

end Wi
end Go.Proofs.YtnfakgdgjkgekaaDoor
