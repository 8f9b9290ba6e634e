/- A part of the proofs about package crc: what its functions answer, call by call. -/
import Derived.Test.YtjopjffecnflkaaDoorWg
import Derived.Test.YtjopjffecnflkaaDoorLy
namespace Go.Proofs.YtjopjffecnflkaaDoor
open Go.RowKit
namespace Cr

theorem opened_reg {X : ByteArray} (h4 : ¬ X.size < 4) : (X.extract 0 (X.size - 4) ++ str (four (more 0 (bs (X.extract 0 (X.size - 4))))) = X) ↔ reg (flip32 0) (bs X) = stN 32 4294967295 := by
  have hc := cut_data X (X.size - 4) (by omega)
  rw [cut_eq (by omega)]
  have hq : (bs (X.extract (X.size - 4) X.size)).length = 4 := by rw [bs_length]; simp; omega
  have := sealed_iff (bs_lt (X.extract 0 (X.size - 4))) (bs_lt (X.extract (X.size - 4) X.size)) hq
  rw [hc, ← this]
  constructor
  · intro e
    rw [← e, bs_str (four_lt _)]
  · intro e
    rw [← e, str_bs]
theorem opened_sealed (s : ByteArray) : opened (sealOf s) = (s, 0) := by
  have h4 : ¬ (sealOf s).size < 4 := by rw [sealOf_size]; omega
  have e : (sealOf s).extract 0 ((sealOf s).size - 4) = s := by
    rw [sealOf_size, Nat.add_sub_cancel]
    unfold sealOf
    apply ByteArray.ext
    simp [ByteArray.data_extract, ByteArray.data_append]
  rw [opened_ok h4 (by rw [e]; rfl), e]
theorem reg_sealOf (s : ByteArray) : reg (flip32 0) (bs (sealOf s)) = stN 32 4294967295 := by
  have h4 : ¬ (sealOf s).size < 4 := by rw [sealOf_size]; omega
  have hr := reg_lt (bs s) (flip32_lt 0) (bs_lt s)
  rw [bs_sealOf]
  show reg (flip32 0) (bs s ++ four (flip32 (reg (flip32 0) (bs s)))) = _
  rw [reg_append, (reg_sealed hr (flip32_lt _)).2 rfl]
/-- Sealed bytes of which up to four in a row are turned are not sealed. -/
theorem opened_turned {s : ByteArray} {t : Nat → Nat} {p k : Nat} (ht : ∀ j, t j < 256) (hpk : p + k ≤ (sealOf s).size) (hk : k ≤ 4) (h : tn t k = true) :
    opened (str ((List.range (sealOf s).size).map (turnd (bs (sealOf s)) t p k))) = (ByteArray.empty, 13) := by
  have hl : (bs (sealOf s)).length = (sealOf s).size := bs_length _
  rw [← hl] at hpk ⊢
  have hlt : ∀ b ∈ (List.range (bs (sealOf s)).length).map (turnd (bs (sealOf s)) t p k), b < 256 := by
    rw [turnd_list _ _ _ _ hpk]
    intro b hb
    simp only [List.mem_append] at hb
    rcases hb with hb | hb | hb
    · exact bs_lt _ b (List.mem_of_mem_take hb)
    · obtain ⟨i, hi⟩ := List.getElem?_of_mem hb
      rw [List.getElem?_zipWith] at hi
      split at hi
      · rename_i x y e1 e2
        have hx := bs_lt _ x (List.mem_of_mem_drop (List.mem_of_mem_take (List.mem_of_getElem? e1)))
        have hy : y < 256 := by
          have := List.mem_of_getElem? e2
          simp only [List.mem_map] at this
          obtain ⟨j, _, rfl⟩ := this
          exact ht j
        simp at hi
        subst hi
        exact Nat.xor_lt_two_pow (n := 8) hx hy
      · simp at hi
    · exact bs_lt _ b (List.mem_of_mem_drop hb)
  have hsz : (str ((List.range (bs (sealOf s)).length).map (turnd (bs (sealOf s)) t p k))).size = s.size + 4 := by rw [str_size]; simp [hl, sealOf_size]
  have h4 : ¬ (str ((List.range (bs (sealOf s)).length).map (turnd (bs (sealOf s)) t p k))).size < 4 := by rw [hsz]; omega
  refine opened_no h4 fun e => ?_
  rw [opened_reg h4, bs_str hlt] at e
  exact turnd_reg (bs_lt _) ht hpk hk h (flip32 0) (e.trans (reg_sealOf s).symm)
theorem opened_unturned {s : ByteArray} {t : Nat → Nat} {p k : Nat} (h : tn t k = false) :
    opened (str ((List.range (sealOf s).size).map (turnd (bs (sealOf s)) t p k))) = (s, 0) := by
  rw [← bs_length, turnd_none h, str_bs, opened_sealed]

end Cr
end Go.Proofs.YtjopjffecnflkaaDoor
