/- Which bytes are the head of a record. -/
import Derived.Test.YtnpbgjafahhadaaDoorRu
import Derived.Test.YtnpbgjafahhadaaDoorQy
namespace Go.Proofs.YtnpbgjafahhadaaDoor
open Go.RowKit
namespace Re
open Cr
theorem txtP_len {l : List Nat} {p : Nat} {e m : Int} : (txtP l p e m).1.length ≤ l.length := by
  unfold txtP
  split
  · simp only
    by_cases h : (intR (l.drop p) m).2.2 = 0
    · by_cases h2 : (l.drop p).length - (intR (l.drop p) m).2.1 < (intR (l.drop p) m).1
      · rw [txtR_short h h2]
        simp
      · rw [txtR_ok h h2]
        simp only [List.length_take, List.length_drop]
        omega
    · rw [txtR_bad h]
      simp
  · simp
theorem rdB_facts {l : List Nat} (hb : ∀ b ∈ l, b < 256) : (rdB l).2.1 < 4294967296 ∧ ((rdB l).1.ki ≠ 1 → (rdB l).2.1 = 0) ∧ (rdB l).1.da = ⟨#[]⟩ ∧ (rdB l).1.tx.size ≤ l.length ∧ (∀ x ∈ (rdB l).1.sp, Fit x) ∧ (rdB l).1.sp.length ≤ 64 := by
  unfold rdB
  generalize rd3 l = h
  obtain ⟨⟨A, B, C⟩, P, E⟩ := h
  simp only
  unfold rdX
  split
  · rename_i hC
    subst hC
    exact ⟨Nat.mod_lt _ (by omega), by simp, trivial, Nat.zero_le _, rdK_fit hb _ _ _, rdS_len hb⟩
  · split
    · exact ⟨by simp, by simp, trivial, Nat.zero_le _, rdK_fit hb _ _ _, rdS_len hb⟩
    · split
      · refine ⟨by simp, by simp, trivial, ?_, by simp, by simp⟩
        simp only [str_size]
        exact txtP_len
      · exact ⟨by simp, by simp, trivial, Nat.zero_le _, by simp, by simp⟩
/-- What stands in a head between how many sectors it has and its check sum. -/
def mid (s : ByteArray) : List Nat := bs ((s.extract 0 (64 * cnt s)).extract 4 (64 * cnt s - 4))
/-- The head with which s begins: the record without its data, the data's check sum, how many sectors, what is wrong. -/
def rH (s : ByteArray) : Rc × Nat × Nat × Int :=
  if (hN s).2 = 0 then
    (if (rdB (mid s)).2.2 = 0 ∧ hB (rdB (mid s)).1 = 0 ∧ str (hdB (body (rdB (mid s)).1 (rdB (mid s)).2.1)) = s.extract 0 (64 * cnt s) then ((rdB (mid s)).1, (rdB (mid s)).2.1, cnt s, 0) else (no, 0, 0, 12))
  else (no, 0, 0, (hN s).2)
/-- S is the head of a record r (which bears no data here) whose data have the check sum sum. -/
structure IsH (S : ByteArray) (r : Rc) (sum : Nat) : Prop where
  ok : hB r = 0
  da : r.da = ⟨#[]⟩
  lt : sum < 4294967296
  z : r.ki ≠ 1 → sum = 0
  eq : str (hdB (body r sum)) = S
theorem hB_tx {r : Rc} (h : hB r = 0) : r.tx.size ≤ 512 := by
  obtain ⟨_, _, _, _, h1 | h1 | h1⟩ := hB_ok h <;> omega
theorem hdU_lt {r : Rc} (h : hB r = 0) (sum : Nat) : ∀ b ∈ hdU (body r sum), b < 256 := by
  have hb := body_lt h sum (by have := hB_tx h; omega)
  intro b hm
  simp only [hdU, List.mem_append, List.mem_cons, List.not_mem_nil, or_false, List.mem_replicate] at hm
  rcases hm with (hm | hm) | hm | hm | hm
  · omega
  · omega
  · exact be_lt _ _ b hm
  · exact hb b hm
  · omega
theorem hdB_lt {r : Rc} (h : hB r = 0) (sum : Nat) : ∀ b ∈ hdB (body r sum), b < 256 := by
  intro b hm
  rw [hdB, List.mem_append] at hm
  rcases hm with hm | hm
  · exact hdU_lt h sum b hm
  · exact four_lt _ b hm
theorem IsH.bs {S : ByteArray} {r : Rc} {sum : Nat} (h : IsH S r sum) : Cr.bs S = hdB (body r sum) := by rw [← h.eq, bs_str (hdB_lt h.ok sum)]
theorem IsH.size {S : ByteArray} {r : Rc} {sum : Nat} (h : IsH S r sum) : S.size = 64 * hn (body r sum).length := by rw [← bs_length, h.bs, hdB_length]
theorem IsH.seal {S : ByteArray} {r : Rc} {sum : Nat} (h : IsH S r sum) : S = sealOf (str (hdU (body r sum))) := by
  apply bs_inj
  rw [h.bs, bs_sealOf, bs_str (hdU_lt h.ok sum)]
  rfl
theorem IsH.shape {S : ByteArray} {r : Rc} {sum : Nat} (h : IsH S r sum) : ∃ Z, Cr.bs S = 76 :: 82 :: (be (hn (body r sum).length) 2 ++ (body r sum ++ Z)) := by
  rw [h.bs, hdB, hdU]
  exact ⟨List.replicate (64 * hn (body r sum).length - (8 + (body r sum).length)) 0 ++ four (more 0 (hdU (body r sum))), by simp [hdU]⟩
theorem cnt_of {s : ByteArray} {n : Nat} {Z : List Nat} (h : bs s = 76 :: 82 :: (be n 2 ++ Z)) (hn : n < 65536) : cnt s = n ∧ (bs s).take 2 = [76, 82] := by
  unfold cnt
  rw [h]
  refine ⟨?_, rfl⟩
  rw [show (76 :: 82 :: (be n 2 ++ Z)).drop 2 = be n 2 ++ Z from rfl, List.take_left' (be_length n 2), num_be]
  exact Nat.mod_eq_of_lt hn
theorem extract_left (S rest : ByteArray) : (S ++ rest).extract 0 S.size = S := by
  apply bs_inj
  rw [bs_extract, bs_append, List.drop_zero, Nat.sub_zero, ← bs_length, List.take_left]
theorem hN_is {S : ByteArray} {r : Rc} {sum : Nat} (h : IsH S r sum) (rest : ByteArray) : hN (S ++ rest) = (hn (body r sum).length, 0) ∧ cnt (S ++ rest) = hn (body r sum).length ∧ (S ++ rest).extract 0 (64 * cnt (S ++ rest)) = S := by
  obtain ⟨Z, hZ⟩ := h.shape
  have h19 := body_hn h.ok sum
  have hs := h.size
  have h1 := (hn_le (body r sum).length).2.2
  have hb : Cr.bs (S ++ rest) = 76 :: 82 :: (be (hn (body r sum).length) 2 ++ ((body r sum ++ Z) ++ Cr.bs rest)) := by rw [bs_append, hZ]; simp
  obtain ⟨hc, ht⟩ := cnt_of hb (by omega)
  have hz : (S ++ rest).size = S.size + rest.size := by simp
  have hx : (S ++ rest).extract 0 (64 * cnt (S ++ rest)) = S := by rw [hc, ← hs, extract_left]
  refine ⟨?_, hc, hx⟩
  have ho : (opened S).2 = 0 := by rw [h.seal, opened_sealed]
  unfold hN
  rw [if_neg (by omega), if_neg (by rw [ht]; rintro (x | x | x); exact x rfl; omega; omega), if_neg (by omega), hx, if_pos ho, hc]
theorem mid_is {S : ByteArray} {r : Rc} {sum : Nat} (h : IsH S r sum) (rest : ByteArray) : ∃ R, mid (S ++ rest) = body r sum ++ R := by
  obtain ⟨_, hc, hx⟩ := hN_is h rest
  unfold mid
  rw [hx, hc, bs_extract, h.bs, hdB]
  have hl := hdU_length (body r sum)
  have h1 := hn_le (body r sum).length
  refine ⟨List.replicate (64 * hn (body r sum).length - (8 + (body r sum).length)) 0, ?_⟩
  have e : (hdU (body r sum) ++ four (more 0 (hdU (body r sum)))).drop 4 = (body r sum ++ List.replicate (64 * hn (body r sum).length - (8 + (body r sum).length)) 0) ++ four (more 0 (hdU (body r sum))) := by
    rw [hdU]
    simp only [be, List.cons_append, List.nil_append, List.drop_succ_cons, List.drop_zero]
  rw [e]
  exact List.take_left' (by rw [List.length_append, List.length_replicate]; omega)
theorem IsH.bare {S : ByteArray} {r : Rc} {sum : Nat} (h : IsH S r sum) : Re.bare r = r := by
  have := h.da
  cases r
  simp only at this
  subst this
  rfl
theorem rH_is {S : ByteArray} {r : Rc} {sum : Nat} (h : IsH S r sum) (rest : ByteArray) : rH (S ++ rest) = (r, sum, hn (body r sum).length, 0) := by
  obtain ⟨hN', hc, hx⟩ := hN_is h rest
  obtain ⟨R, hm⟩ := mid_is h rest
  have hb := rdB_back (R := R) h.ok h.lt h.z
  rw [← hm, h.bare] at hb
  unfold rH
  rw [hN', if_pos rfl, hb, if_pos ⟨rfl, h.ok, by rw [hx, h.eq]⟩, hc]
theorem mid_lt (s : ByteArray) : ∀ b ∈ mid s, b < 256 := bs_lt _
/-- What is so when there is a head. -/
theorem rH_ok {s : ByteArray} (h : (rH s).2.2.2 = 0) : IsH (s.extract 0 (64 * (rH s).2.2.1)) (rH s).1 (rH s).2.1 ∧ (rH s).2.2.1 = cnt s ∧ 64 * (rH s).2.2.1 ≤ s.size ∧ (hN s).2 = 0 ∧ (rH s).2.2.1 = hn (body (rH s).1 (rH s).2.1).length := by
  have hf := rdB_facts (mid_lt s)
  by_cases h1 : (hN s).2 = 0
  · have h4 := (hN_ok h1).2.2.2.2.1
    unfold rH at h ⊢
    rw [if_pos h1] at h ⊢
    generalize rdB (mid s) = q at *
    obtain ⟨r, sum, E⟩ := q
    simp only at *
    by_cases h2 : E = 0 ∧ hB r = 0 ∧ str (hdB (body r sum)) = s.extract 0 (64 * cnt s)
    · rw [if_pos h2]
      have hI : IsH (s.extract 0 (64 * cnt s)) r sum := ⟨h2.2.1, hf.2.2.1, hf.1, hf.2.1, h2.2.2⟩
      have := hI.size
      rw [ByteArray.size_extract] at this
      generalize hn (body r sum).length = k at *
      refine ⟨hI, rfl, h4, h1, ?_⟩
      show cnt s = k
      omega
    · rw [if_neg h2] at h
      exact absurd h (by decide)
  · unfold rH at h
    rw [if_neg h1] at h
    exact absurd h h1
theorem opened_err (s : ByteArray) : (opened s).2 = 0 ∨ (opened s).2 = 10 ∨ (opened s).2 = 13 := by
  unfold opened
  split
  · exact .inr (.inl rfl)
  · split
    · exact .inl rfl
    · exact .inr (.inr rfl)
theorem hN_err (s : ByteArray) : (hN s).2 = 0 ∨ (hN s).2 = 10 ∨ (hN s).2 = 12 ∨ (hN s).2 = 13 := by
  unfold hN
  split
  · exact .inr (.inl rfl)
  · split
    · exact .inr (.inr (.inl rfl))
    · split
      · exact .inr (.inl rfl)
      · split
        · exact .inl rfl
        · rcases opened_err (s.extract 0 (64 * cnt s)) with h | h | h
          · exact .inl h
          · exact .inr (.inl h)
          · exact .inr (.inr (.inr h))
theorem rH_err (s : ByteArray) : (rH s).2.2.2 = 0 ∨ (rH s) = (no, 0, 0, 10) ∨ (rH s) = (no, 0, 0, 12) ∨ (rH s) = (no, 0, 0, 13) := by
  unfold rH
  split
  · split
    · exact .inl rfl
    · exact .inr (.inr (.inl rfl))
  · rcases hN_err s with h | h | h | h
    · contradiction
    · exact .inr (.inl (by rw [h]))
    · exact .inr (.inr (.inl (by rw [h])))
    · exact .inr (.inr (.inr (by rw [h])))
end Re
end Go.Proofs.YtnpbgjafahhadaaDoor
