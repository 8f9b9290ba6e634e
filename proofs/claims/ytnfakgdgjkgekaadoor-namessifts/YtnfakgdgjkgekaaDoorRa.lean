/- The document's answer: prefixes, digits and numbers. -/
import Derived.Test.YtnfakgdgjkgekaaDoorWu
import Derived.Test.YtnfakgdgjkgekaaDoorWr
namespace Go.Proofs.YtnfakgdgjkgekaaDoor
open Go.RowKit
namespace Wi

theorem rletter_any (k : Nat) (h1 : 1 ≤ k) (h2 : k ≤ 4) (w : World) : Calls Tryd.prog 27 #[.int .i64 (k : Nat)] w fun e w' => e = .returned (.string (str [ltr k])) ∧ w' = w := by
  rcases (show k = 1 ∨ k = 2 ∨ k = 3 ∨ k = 4 by omega) with rfl | rfl | rfl | rfl
  · rw [show str [ltr 1] = { data := #[100] } from rfl]
    go_enter Tryd.func27, Tryd.ntmps27
    go_wp2
    go_ret
    exact ⟨rfl, rfl⟩
  · rw [show str [ltr 2] = { data := #[99] } from rfl]
    go_enter Tryd.func27, Tryd.ntmps27
    go_wp2
    go_ret
    exact ⟨rfl, rfl⟩
  · rw [show str [ltr 3] = { data := #[109] } from rfl]
    go_enter Tryd.func27, Tryd.ntmps27
    go_wp2
    go_ret
    exact ⟨rfl, rfl⟩
  · rw [show str [ltr 4] = { data := #[101] } from rfl]
    go_enter Tryd.func27, Tryd.ntmps27
    go_wp2
    go_ret
    exact ⟨rfl, rfl⟩
set_option maxHeartbeats 2000000 in
theorem rprefix_any (v : ByteArray) (hv : v.size ≤ 9223372036854775807) (z : Int) (hz : Num z) (w : World) : Calls Tryd.prog 14 #[.string v, .int .i64 z] w fun e w' => e = .returned (.tuple #[.string (preS v z), .int .i64 (preE v z)]) ∧ w' = w := by
  have hvo := refvol_any v hv w
  obtain ⟨z1, z2⟩ := hz
  cases hb : volB v with
  | false =>
    rw [show preE v z = 1 by simp [preE, hb], show preS v z = { data := #[] } by simp [preS, preE, hb]]
    rw [hb] at hvo
    go_enter Tryd.func14, Tryd.ntmps14
    go_wp2_with fail
    refine hvo.mono ?_
    rintro e w' ⟨rfl, hww⟩
    subst hww
    clear hvo
    go_wp2
    go_ret2
    exact ⟨rfl, rfl⟩
  | true =>
    rw [hb] at hvo
    by_cases h1 : z < 1
    · have hk : kindB z = false := by unfold kindB; rw [decide_eq_false_iff_not]; omega
      rw [show preE v z = 14 by simp [preE, hb, hk], show preS v z = { data := #[] } by simp [preS, preE, hb, hk]]
      clear hk
      go_enter Tryd.func14, Tryd.ntmps14
      go_wp2_with fail
      refine hvo.mono ?_
      rintro e w' ⟨rfl, hww⟩
      subst hww
      clear hvo
      go_wp2
      go_ret2
      exact ⟨rfl, rfl⟩
    · by_cases h4 : 4 < z
      · have hk : kindB z = false := by unfold kindB; rw [decide_eq_false_iff_not]; omega
        rw [show preE v z = 14 by simp [preE, hb, hk], show preS v z = { data := #[] } by simp [preS, preE, hb, hk]]
        clear hk
        go_enter Tryd.func14, Tryd.ntmps14
        go_wp2_with fail
        refine hvo.mono ?_
        rintro e w' ⟨rfl, hww⟩
        subst hww
        clear hvo
        go_wp2
        go_ret2
        exact ⟨rfl, rfl⟩
      · have hk : kindB z = true := by unfold kindB; rw [decide_eq_true_eq]; omega
        have e1 : preE v z = 0 := by simp [preE, hb, hk]
        rw [e1, (pre_ok e1).2.2.2]
        obtain ⟨k, rfl⟩ := Int.eq_ofNat_of_zero_le (show 0 ≤ z by omega)
        rw [show ((k : Int)).toNat = k by omega]
        have hle := rletter_any k (by omega) (by omega) w
        have HC := hide (pre_cat v k)
        have hv32 := vol_size hb
        have hs1 : (str [ltr k]).size = 1 := str_size _
        clear e1 hk hb
        generalize preL (bs v) k = PL at *
        generalize str [ltr k] = LS at *
        go_enter Tryd.func14, Tryd.ntmps14
        go_wp2_with fail
        refine hvo.mono ?_
        rintro e w' ⟨rfl, hww⟩
        subst hww
        clear hvo
        go_wp2_with fail
        refine hle.mono ?_
        rintro e w2 ⟨rfl, hww⟩
        subst hww
        clear hle
        go_wp2
        go_ret2
        exact ⟨by rw [← HC.out]; rfl, rfl⟩
theorem dgs_front : ∀ k n, dgs (k + 1) n = hexd (n / 16 ^ k % 16) :: dgs k n
  | 0, n => by simp [dgs]
  | k + 1, n => by
    rw [dgs, dgs_front k (n / 16), Nat.div_div_eq_div_mul, show 16 * 16 ^ k = 16 ^ (k + 1) by rw [Nat.pow_succ, Nat.mul_comm]]
    rfl
set_option maxHeartbeats 4000000 in
set_option maxRecDepth 20000 in
theorem rdigits_any (n : Nat) (hn : n < 1099511627776) (w : World) : Calls Tryd.prog 25 #[.int .i64 (n : Nat)] w fun e w' => e = .returned (.string (str (dgs 10 n))) ∧ Below w.heap.size w w' := by
  have HB0 := hide (Below.refl w.heap.size w)
  go_enter Tryd.func25, Tryd.ntmps25
  go_wp2
  go_loopw [0, 3, 4] (fun x s i wr => ∃ (k Q : Nat) (S : ByteArray), k ≤ 10 ∧ Q < 1099511627776 ∧ S.size ≤ 10 ∧ x = .int .i64 Q ∧ s = .string S ∧ i = .int .i64 k ∧ Hid (Q = n / 16 ^ k) ∧ Hid (S = str (dgs k n)) ∧ Below w.heap.size w wr) (fun _ _ i _ => 10 - (intOf i).toNat)
  case atStart => exact ⟨0, n, { data := #[] }, by omega, hn, by decide, rfl, rfl, rfl, by show _ = _; simp, rfl, HB0.out⟩
  case round =>
    clear HB0
    obtain ⟨k, Q, S, hk, hQ, hS, rfl, rfl, rfl, HQ, HS, hb⟩ := hrel
    by_cases hlt : k < 10
    · obtain ⟨d, hd⟩ : ∃ d, Q % 16 = d := ⟨_, rfl⟩
      have hd16 : d < 16 := by omega
      have hrem : (Q : Int).tmod 16 = (d : Int) := by rw [Int.tmod_eq_emod_of_nonneg (by omega)]; omega
      have hquo : (Q : Int).tdiv 16 = ((Q / 16 : Nat) : Int) := by rw [Int.tdiv_eq_ediv_of_nonneg (by omega)]; omega
      have hb2 := below_alloc wr (.cells #[.int .u8 (hexd d : Nat)] 5)
      have HB2 := hide (hb.trans (hb2.mono hb.size))
      have hcv := conv_bytes (wr.alloc (.cells #[.int .u8 (hexd d : Nat)] 5)) wr.heap.size 0 1 1 [hexd d] rfl (fun i x hi => by
        cases i with
        | zero => simp at hi; subst hi; simp
        | succ i => simp at hi)
      have hs1 : (str [hexd d]).size = 1 := str_size _
      have HS2 : Hid (str [hexd d] ++ S = str (dgs (k + 1) n)) := by
        show _ = _
        rw [dgs_front, HS.out, ← HQ.out, hd, ← str_append]
        rfl
      have HQ2 : Hid (Q / 16 = n / 16 ^ (k + 1)) := by
        show _ = _
        rw [HQ.out, Nat.div_div_eq_div_mul, Nat.pow_succ]
      have hS2 : (str [hexd d] ++ S).size ≤ 10 := by rw [HS2.out, str_size, dgs_length]; omega
      have hQ2 : Q / 16 < 1099511627776 := by omega
      have HH := hide (show hexd d = if d < 10 then 48 + d else 87 + d from rfl)
      clear hb hb2 HS HQ hd
      by_cases h9 : 9 < d
      · have hC : hexd d = 87 + d := by rw [HH.out, if_neg (by omega)]
        rw [hC] at hcv hs1 HS2 hS2 HB2
        have hcast : ((87 + d : Nat) : Int) = 97 + (d : Int) - 10 := by omega
        rw [hcast] at hcv HB2
        clear HH hC hcast
        generalize str [87 + d] = DS at *
        generalize Q / 16 = Q2 at *
        go_wp2
        go_roundw
        case rel => exact ⟨k + 1, Q2, DS ++ S, by omega, hQ2, hS2, by first | rfl | go_num, by first | rfl | go_num, by go_num, HQ2, HS2, HB2.out⟩
        case measure => simp [intOf]; omega
      · have hC : hexd d = 48 + d := by rw [HH.out, if_pos (by omega)]
        rw [hC] at hcv hs1 HS2 hS2 HB2
        have hcast : ((48 + d : Nat) : Int) = 48 + (d : Int) := by omega
        rw [hcast] at hcv HB2
        clear HH hC hcast
        generalize str [48 + d] = DS at *
        generalize Q / 16 = Q2 at *
        go_wp2
        go_roundw
        case rel => exact ⟨k + 1, Q2, DS ++ S, by omega, hQ2, hS2, by first | rfl | go_num, by first | rfl | go_num, by go_num, HQ2, HS2, HB2.out⟩
        case measure => simp [intOf]; omega
    · obtain rfl : k = 10 := by omega
      have HB := hide hb
      clear hb
      go_wp2
      go_ret
      exact ⟨by rw [← HS.out]; rfl, HB.out⟩

end Wi
end Go.Proofs.YtnfakgdgjkgekaaDoor
