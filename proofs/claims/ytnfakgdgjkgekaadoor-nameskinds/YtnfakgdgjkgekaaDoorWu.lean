/- Texts of names in their order; which ones begin so. -/
import Derived.Test.YtnfakgdgjkgekaaDoorWt
namespace Go.Proofs.YtnfakgdgjkgekaaDoor
open Go.RowKit
namespace Wi

def lessL : List Nat → List Nat → Bool
  | _, [] => false
  | [], _ :: _ => true
  | a :: x, b :: y => decide (a < b) || (decide (a = b) && lessL x y)
theorem less_bytes : ∀ x y : List UInt8, Op.bytesLess x y = lessL (x.map UInt8.toNat) (y.map UInt8.toNat)
  | [], [] => rfl
  | _ :: _, [] => rfl
  | [], _ :: _ => rfl
  | a :: x, b :: y => by
    have h1 : (a == b) = decide (a.toNat = b.toNat) := by
      rw [Bool.eq_iff_iff]
      simp [UInt8.toNat_inj]
    have h2 : decide (a < b) = decide (a.toNat < b.toNat) := by rw [decide_eq_decide]; exact UInt8.lt_iff_toNat_lt
    simp only [Op.bytesLess, List.map_cons, lessL, less_bytes x y, h1, h2]
theorem less_bs (s t : ByteArray) : Op.bytesLess s.toList t.toList = lessL (bs s) (bs t) := by
  rw [ByteArray.toList_eq, ByteArray.toList_eq, less_bytes]
  rfl
theorem lessL_self : ∀ x : List Nat, lessL x x = false
  | [] => rfl
  | a :: x => by simp [lessL, lessL_self x]
theorem lessL_pre (P : List Nat) (x y : List Nat) : lessL (P ++ x) (P ++ y) = lessL x y := by
  induction P with
  | nil => rfl
  | cons a P ih => simp [lessL, ih]
theorem lessL_snoc : ∀ (x y : List Nat) (a b : Nat), x.length = y.length → lessL (x ++ [a]) (y ++ [b]) = (lessL x y || (decide (x = y) && decide (a < b)))
  | [], [], a, b, _ => by simp [lessL]
  | [], _ :: _, _, _, h => by simp at h
  | _ :: _, [], _, _, h => by simp at h
  | c :: x, d :: y, a, b, h => by
    have ih := lessL_snoc x y a b (by simpa using h)
    simp only [List.cons_append, lessL, ih]
    by_cases h1 : c < d
    · simp [h1]
    · by_cases h2 : c = d
      · subst h2
        simp
      · simp [h1, h2]
theorem hexd_mono {a b : Nat} (ha : a < 16) (hb : b < 16) : decide (hexd a < hexd b) = decide (a < b) := by
  rw [decide_eq_decide]
  unfold hexd
  split <;> split <;> omega
theorem dgs_inj {k m n : Nat} (hm : m < 16 ^ k) (hn : n < 16 ^ k) (h : dgs k m = dgs k n) : m = n := by
  rw [← numL_dgs k m hm, h, numL_dgs k n hn]
theorem dgs_less : ∀ k m n, m < 16 ^ k → n < 16 ^ k → lessL (dgs k m) (dgs k n) = decide (m < n)
  | 0, m, n, hm, hn => by
    simp at hm hn
    subst hm hn
    rfl
  | k + 1, m, n, hm, hn => by
    rw [Nat.pow_succ] at hm hn
    have h1 : m / 16 < 16 ^ k := by omega
    have h2 : n / 16 < 16 ^ k := by omega
    rw [dgs, dgs, lessL_snoc _ _ _ _ (by rw [dgs_length, dgs_length]), dgs_less k _ _ h1 h2, hexd_mono (by omega) (by omega)]
    by_cases he : m / 16 = n / 16
    · rw [he]
      simp only [Nat.lt_irrefl, decide_false, Bool.false_or, decide_true, Bool.true_and, decide_eq_decide]
      omega
    · have : decide (dgs k (m / 16) = dgs k (n / 16)) = false := decide_eq_false fun e => he (dgs_inj h1 h2 e)
      rw [this, Bool.false_and, Bool.or_false, decide_eq_decide]
      omega
theorem vb_not {c : Nat} (h : vb c = true) : c ≠ 47 := by
  unfold vb at h
  rw [decide_eq_true_eq] at h
  omega
theorem vol_bytes {v : ByteArray} (h : volB v = true) : ∀ b ∈ bs v, b ≠ 47 := fun b hb => by
  unfold volB at h
  simp only [Bool.and_eq_true, List.all_eq_true] at h
  exact vb_not (h.2 b hb)
/-- Where the first 47 stands the volume ends. -/
theorem pre_eq : ∀ (A B X Y : List Nat), (∀ b ∈ A, b ≠ 47) → (∀ b ∈ B, b ≠ 47) → A ++ 47 :: X = B ++ 47 :: Y → A = B ∧ X = Y
  | [], [], X, Y, _, _, h => by simpa using h
  | [], b :: B, X, Y, _, hB, h => by
    simp at h
    exact absurd h.1.symm (hB b (by simp))
  | a :: A, [], X, Y, hA, _, h => by
    simp at h
    exact absurd h.1 (hA a (by simp))
  | a :: A, b :: B, X, Y, hA, hB, h => by
    simp at h
    obtain ⟨h1, h2⟩ := pre_eq A B X Y (fun c hc => hA c (by simp [hc])) (fun c hc => hB c (by simp [hc])) h.2
    exact ⟨by rw [h.1, h1], h2⟩
theorem ltr_inj {j k : Nat} (h1 : 1 ≤ j) (h2 : j ≤ 4) (h3 : 1 ≤ k) (h4 : k ≤ 4) (h : ltr j = ltr k) : j = k := by
  have a := (kd_ltr h1 h2).1
  have b := (kd_ltr h3 h4).1
  rw [h] at a
  omega
theorem pre_ok {v : ByteArray} {z : Int} (h : preE v z = 0) : volB v = true ∧ 1 ≤ z ∧ z ≤ 4 ∧ preS v z = str (preL (bs v) z.toNat) := by
  have hS : preS v z = str (preL (bs v) z.toNat) := by simp [preS, h]
  unfold preE at h
  split at h
  · rename_i hv
    split at h
    · rename_i hk
      unfold kindB at hk
      rw [decide_eq_true_eq] at hk
      exact ⟨hv, hk.1, hk.2, hS⟩
    · omega
  · omega
theorem preL_lt (v : ByteArray) (k : Nat) : ∀ b ∈ preL (bs v) k, b < 256 := fun b hb => by
  rw [preL] at hb
  rcases List.mem_append.1 hb with h | h
  · exact bs_lt v b h
  · have := ltr_lt k
    simp only [List.mem_cons, List.not_mem_nil, or_false] at h
    rcases h with rfl | rfl | rfl <;> omega
theorem bs_preS {v : ByteArray} {z : Int} (h : preE v z = 0) : bs (preS v z) = bs v ++ [47, ltr z.toNat, 47] := by
  rw [(pre_ok h).2.2.2, bs_str (preL_lt v _)]
  rfl
theorem bs_prnS {v : ByteArray} {z q : Int} (h : prnE v z q = 0) : bs (prnS v z q) = bs v ++ [47, ltr z.toNat, 47] ++ dgs 10 q.toNat := by
  rw [show prnS v z q = str (prnL v z q) by simp [prnS, h], bs_str (prnL_lt v z q)]
  rfl
/-- A text begins with its own prefix alone. -/
theorem begins_iff {v u : ByteArray} {z q y : Int} (h : prnE v z q = 0) (hp : preE u y = 0) : ((preS u y).size ≤ (prnS v z q).size ∧ (prnS v z q).extract 0 (preS u y).size = preS u y) ↔ v = u ∧ z = y := by
  obtain ⟨hv, z1, z2, _, _, _⟩ := prn_ok h
  obtain ⟨hu, y1, y2, _⟩ := pre_ok hp
  have e1 := bs_preS hp
  have e2 := bs_prnS h
  constructor
  · rintro ⟨_, hx⟩
    have hb := congrArg bs hx
    rw [bs_cut, List.drop_zero, Nat.sub_zero, ← bs_length (preS u y)] at hb
    have hpre : ∃ r, bs (prnS v z q) = bs (preS u y) ++ r := ⟨(bs (prnS v z q)).drop (bs (preS u y)).length, by
      have := List.take_append_drop (bs (preS u y)).length (bs (prnS v z q))
      rw [hb] at this
      exact this.symm⟩
    obtain ⟨r, hr⟩ := hpre
    rw [e1, e2, List.append_assoc, List.append_assoc] at hr
    simp only [List.cons_append, List.nil_append] at hr
    obtain ⟨a1, a2⟩ := pre_eq (bs v) (bs u) _ _ (vol_bytes hv) (vol_bytes hu) hr
    simp only [List.cons.injEq] at a2
    have := ltr_inj (by omega) (by omega) (by omega) (by omega) a2.1
    exact ⟨bs_inj a1, by omega⟩
  · rintro ⟨rfl, rfl⟩
    have hl : (preS v z).size ≤ (prnS v z q).size := by
      rw [← bs_length, ← bs_length, e1, e2]
      simp only [List.length_append]
      omega
    refine ⟨hl, bs_inj ?_⟩
    rw [bs_cut, List.drop_zero, Nat.sub_zero, ← bs_length, e1, e2, List.take_left]
theorem order_of {v : ByteArray} {z q r : Int} (h1 : prnE v z q = 0) (h2 : prnE v z r = 0) : Op.bytesLess (prnS v z q).toList (prnS v z r).toList = decide (q < r) ∧ ((prnS v z q).toList == (prnS v z r).toList) = (q == r) := by
  obtain ⟨_, _, _, q1, q2, _⟩ := prn_ok h1
  obtain ⟨_, _, _, r1, r2, _⟩ := prn_ok h2
  constructor
  · rw [less_bs, bs_prnS h1, bs_prnS h2, lessL_pre, dgs_less 10 _ _ (by omega) (by omega), decide_eq_decide]
    omega
  · by_cases he : q = r
    · rw [he]
      simp
    · rw [bne_lists fun e => he ?_, (beq_eq_false_iff_ne (a := q) (b := r)).2 he]
      have hb := congrArg bs e
      rw [bs_prnS h1, bs_prnS h2] at hb
      have := dgs_inj (k := 10) (by omega) (by omega) (List.append_cancel_left hb)
      omega

end Wi
end Go.Proofs.YtnfakgdgjkgekaaDoor
