/- Parse of Print is the name, and Print of Parse the text. -/
import Derived.Test.YtnfakgdgjkgekaaDoorWn
namespace Go.Proofs.YtnfakgdgjkgekaaDoor
open Go.RowKit
namespace Wi

theorem ltr_lt (k : Nat) : ltr k < 128 := by
  unfold ltr
  split
  · omega
  · split
    · omega
    · split <;> omega
theorem prnL_lt (v : ByteArray) (z q : Int) : ∀ b ∈ prnL v z q, b < 256 := fun b hb => by
  rw [prnL, preL] at hb
  rcases List.mem_append.1 hb with h | h
  · rcases List.mem_append.1 h with h | h
    · exact bs_lt v b h
    · have := ltr_lt z.toNat
      simp only [List.mem_cons, List.not_mem_nil, or_false] at h
      rcases h with rfl | rfl | rfl <;> omega
  · have := isD_lt (dgs_isD _ _ b h)
    omega
theorem prn_ok {v : ByteArray} {z q : Int} (h : prnE v z q = 0) : volB v = true ∧ 1 ≤ z ∧ z ≤ 4 ∧ 0 ≤ q ∧ q < 1099511627776 ∧ preE v z = 0 := by
  unfold prnE at h
  split at h
  · rename_i hE
    have hE' := hE
    unfold preE at hE
    split at hE
    · rename_i hv
      split at hE
      · rename_i hk
        unfold kindB at hk
        rw [decide_eq_true_eq] at hk
        split at h
        · rename_i hq
          exact ⟨hv, hk.1, hk.2, hq.1, hq.2, hE'⟩
        · omega
      · omega
    · omega
  · omega
/-- A text's bytes, in its parts. -/
theorem bs_parts {s : ByteArray} (h : 13 ≤ s.size) : bs s = bs (parV s) ++ (bs (parR s)) := by
  have := cut_data s (s.size - 13) (by omega)
  exact this
theorem bs_parR {s : ByteArray} (h : 13 ≤ s.size) : bs (parR s) = [rb s 0, rb s 1, rb s 2] ++ bs (parD s) := by
  have hl : (bs (parR s)).length = 13 := by rw [bs_length, parR_size h]
  have hd : bs (parD s) = (bs (parR s)).drop 3 := by
    unfold parD
    rw [bs_cut]
    exact List.take_of_length_le (by rw [List.length_drop, hl]; omega)
  rw [hd]
  unfold rb
  generalize bs (parR s) = l at *
  match l, hl with
  | a :: b :: c :: r, _ => rfl
theorem parts_of {s : ByteArray} {A : List Nat} {a b c : Nat} {B : List Nat} (hB : B.length = 10) (h : bs s = A ++ [a, b, c] ++ B) : 13 ≤ s.size ∧ bs (parV s) = A ∧ rb s 0 = a ∧ rb s 1 = b ∧ rb s 2 = c ∧ bs (parD s) = B := by
  have hl : s.size = A.length + 13 := by
    have := congrArg List.length h
    rw [bs_length, List.length_append, List.length_append, hB] at this
    exact this
  have h13 : 13 ≤ s.size := by omega
  have e1 := bs_parts h13
  rw [h, List.append_assoc] at e1
  have hV : (bs (parV s)).length = A.length := by
    rw [bs_length]
    unfold parV
    rw [ByteArray.size_extract]
    omega
  obtain ⟨e2, e3⟩ := List.append_inj e1 hV.symm
  rw [bs_parR h13] at e3
  simp only [List.cons_append, List.nil_append, List.cons.injEq] at e3
  exact ⟨h13, e2.symm, e3.1.symm, e3.2.1.symm, e3.2.2.1.symm, e3.2.2.2.symm⟩
theorem back1 {v : ByteArray} {z q : Int} (h : prnE v z q = 0) : parE (prnS v z q) = 0 ∧ parS (prnS v z q) = v ∧ (parK (prnS v z q) : Int) = z ∧ (parQ (prnS v z q) : Int) = q := by
  obtain ⟨hv, z1, z2, q1, q2, _⟩ := prn_ok h
  have hs : bs (prnS v z q) = bs v ++ [47, ltr z.toNat, 47] ++ dgs 10 q.toNat := by
    rw [show prnS v z q = str (prnL v z q) by simp [prnS, h], bs_str (prnL_lt v z q)]
    rfl
  obtain ⟨h13, e1, e2, e3, e4, e5⟩ := parts_of (dgs_length 10 _) hs
  have hV : parV (prnS v z q) = v := bs_inj e1
  have hk := kd_ltr (k := z.toNat) (by omega) (by omega)
  have hnb : numB (parD (prnS v z q)) = true := by
    unfold numB
    rw [e5, List.all_eq_true]
    exact dgs_isD _ _
  have hnn : numN (parD (prnS v z q)) = q.toNat := by
    unfold numN
    rw [hnb, e5]
    exact numL_dgs 10 q.toNat (by omega)
  have hok : okP (prnS v z q) = true := by
    unfold okP
    rw [decide_eq_true h13, hV, hv, e2, e3, hk.2, e4, hnb]
    rfl
  rw [show parE (prnS v z q) = 0 by simp [parE, hok], show parS (prnS v z q) = v by simp [parS, hok, hV], show parK (prnS v z q) = z.toNat by simp [parK, hok, e3, hk.1], show parQ (prnS v z q) = q.toNat by simp [parQ, hok, hnn]]
  exact ⟨rfl, rfl, by omega, by omega⟩
theorem ok_parts {s : ByteArray} (h : okP s = true) : 13 ≤ s.size ∧ volB (parV s) = true ∧ rb s 0 = 47 ∧ isK (rb s 1) = true ∧ rb s 2 = 47 ∧ numB (parD s) = true := by
  unfold okP at h
  simp only [Bool.and_eq_true, decide_eq_true_eq] at h
  exact ⟨h.1, h.2.1, h.2.2.1, h.2.2.2.1, h.2.2.2.2.1, h.2.2.2.2.2⟩
theorem par_ok {s : ByteArray} (h : parE s = 0) : okP s = true := by
  unfold parE at h
  split at h
  · assumption
  · omega
theorem num_back {s : ByteArray} (h13 : 13 ≤ s.size) (hn : numB (parD s) = true) : dgs 10 (numN (parD s)) = bs (parD s) ∧ numN (parD s) < 1099511627776 := by
  have e : numN (parD s) = numL (bs (parD s)) := by unfold numN; rw [hn]; rfl
  have hl : (bs (parD s)).length = 10 := by rw [bs_length, parD_size h13]
  unfold numB at hn
  rw [List.all_eq_true] at hn
  have := dgs_numL 10 (bs (parD s)) hl hn
  rw [e]
  exact ⟨this.1, by have := this.2; omega⟩
theorem back2 {s : ByteArray} (h : parE s = 0) : prnE (parS s) (parK s : Nat) (parQ s : Nat) = 0 ∧ prnS (parS s) (parK s : Nat) (parQ s : Nat) = s ∧ volB (parS s) = true := by
  have hok := par_ok h
  obtain ⟨h13, hv, h0, hk, h2, hn⟩ := ok_parts hok
  obtain ⟨k1, k2, k3⟩ := isK_kd hk
  obtain ⟨n1, n2⟩ := num_back h13 hn
  have e1 : parS s = parV s := by simp [parS, hok]
  have e2 : parK s = kd (rb s 1) := by simp [parK, hok]
  have e3 : parQ s = numN (parD s) := by simp [parQ, hok]
  have hE : prnE (parS s) (parK s : Nat) (parQ s : Nat) = 0 := by
    have hp : preE (parV s) ((kd (rb s 1) : Nat) : Int) = 0 := by
      unfold preE kindB
      rw [hv, decide_eq_true (by omega)]
      rfl
    rw [e1, e2, e3]
    unfold prnE
    rw [hp, if_pos rfl, if_pos (by omega)]
  refine ⟨hE, ?_, by rw [e1]; exact hv⟩
  rw [show prnS (parS s) (parK s : Nat) (parQ s : Nat) = str (prnL (parS s) (parK s : Nat) (parQ s : Nat)) by simp [prnS, hE]]
  have : prnL (parS s) (parK s : Nat) (parQ s : Nat) = bs s := by
    rw [e1, e2, e3, prnL, preL, show (((kd (rb s 1) : Nat) : Int)).toNat = kd (rb s 1) by omega, show (((numN (parD s) : Nat) : Int)).toNat = numN (parD s) by omega, k3, n1, bs_parts h13, bs_parR h13, h0, h2, List.append_assoc]
  rw [this, str_bs]

end Wi
end Go.Proofs.YtnfakgdgjkgekaaDoor
