/- How the document reads a head, and that it reads what the program reads: plain numbers. -/
import Derived.Test.YtnpbgjafahhadaaDoorSb
namespace Go.Proofs.YtnpbgjafahhadaaDoor
open Go.RowKit
namespace Re
open Cr
/-! How the document reads a head. -/
/-- So many numbers: they, how many bytes they have, whether there are so many. -/
def nmP (l : List Nat) : Nat → List Nat × Nat × Bool
  | 0 => ([], 0, true)
  | n + 1 =>
    if (nmP l n).2.2 = true ∧ (few 12 (l.drop (nmP l n).2.1)).2.2 = 0 ∧ (few 12 (l.drop (nmP l n).2.1)).1 ≤ 1125899906842624 then
      ((nmP l n).1 ++ [(few 12 (l.drop (nmP l n).2.1)).1], (nmP l n).2.1 + (few 12 (l.drop (nmP l n).2.1)).2.1, true)
    else ([], 0, false)
theorem nmP_succ (l : List Nat) (n : Nat) : nmP l (n + 1) = if (nmP l n).2.2 = true ∧ (few 12 (l.drop (nmP l n).2.1)).2.2 = 0 ∧ (few 12 (l.drop (nmP l n).2.1)).1 ≤ 1125899906842624 then
      ((nmP l n).1 ++ [(few 12 (l.drop (nmP l n).2.1)).1], (nmP l n).2.1 + (few 12 (l.drop (nmP l n).2.1)).2.1, true)
    else ([], 0, false) := rfl
theorem nmP_len {l : List Nat} : ∀ {n : Nat}, (nmP l n).2.2 = true → (nmP l n).1.length = n ∧ (nmP l n).2.1 ≤ l.length ∧ ∀ x ∈ (nmP l n).1, x ≤ 1125899906842624
  | 0, _ => by simp [nmP]
  | n + 1, h => by
    rw [nmP_succ] at h ⊢
    by_cases h1 : (nmP l n).2.2 = true ∧ (few 12 (l.drop (nmP l n).2.1)).2.2 = 0 ∧ (few 12 (l.drop (nmP l n).2.1)).1 ≤ 1125899906842624
    · rw [if_pos h1]
      obtain ⟨i1, i2, i3⟩ := nmP_len h1.1
      have hf := (few_facts (l.drop (nmP l n).2.1)).2
      rw [List.length_drop] at hf
      refine ⟨by simp [i1], by simp only; omega, ?_⟩
      intro x hx
      rcases List.mem_append.1 hx with hx | hx
      · exact i3 x hx
      · rw [List.mem_singleton.1 hx]
        exact h1.2.2
    · rw [if_neg h1] at h
      exact absurd h (by decide)
theorem nmP_cases (l : List Nat) (n : Nat) : (nmP l n).2.2 = true ∨ nmP l n = ([], 0, false) := by
  cases n with
  | zero => exact .inl rfl
  | succ n =>
    rw [nmP_succ]
    split
    · exact .inl rfl
    · exact .inr rfl
theorem nmP_fail {l : List Nat} {k : Nat} (h : nmP l k = ([], 0, false)) : ∀ d, nmP l (k + d) = ([], 0, false)
  | 0 => h
  | d + 1 => by
    rw [← Nat.add_assoc, nmP_succ, if_neg]
    rintro ⟨x, _⟩
    rw [nmP_fail h d] at x
    exact absurd x (by decide)
theorem vrs_cons (x : Nat) (l : List Nat) : vrs (x :: l) = vr x ++ vrs l := by simp [vrs]
theorem vrs_app (l m : List Nat) : vrs (l ++ m) = vrs l ++ vrs m := by simp [vrs]
/-- What was written is read. -/
theorem nm_vrs {xs : List Nat} (R : List Nat) (hx : ∀ x ∈ xs, x ≤ 1125899906842624) : ∀ k, k ≤ xs.length → nmP (vrs xs ++ R) k = (xs.take k, (vrs (xs.take k)).length, true)
  | 0, _ => by simp [nmP, vrs]
  | k + 1, hk => by
    have ih := nm_vrs R hx k (by omega)
    have hlt : k < xs.length := by omega
    have hm : xs[k] ≤ 1125899906842624 := hx _ (List.getElem_mem hlt)
    have hd : (vrs xs ++ R).drop (vrs (xs.take k)).length = vr xs[k] ++ (vrs (xs.drop (k + 1)) ++ R) := by
      have e : vrs xs = vrs (xs.take k) ++ (vr xs[k] ++ vrs (xs.drop (k + 1))) := by
        conv => lhs; rw [← List.take_append_drop k xs, List.drop_eq_getElem_cons hlt]
        rw [vrs_app, vrs_cons]
      rw [e, List.append_assoc, List.drop_left, List.append_assoc]
    rw [nmP_succ, ih]
    simp only
    rw [hd, few_vr 12 xs[k] (by omega)]
    rw [if_pos ⟨trivial, rfl, hm⟩, snoc_take xs k xs[k] (List.getElem?_eq_getElem hlt), vrs_app, List.length_append, vrs_cons]
    simp [vrs, vr_length]
/-- Numbers by pairs. -/
def prs (m : List Nat) (n : Nat) : List (Int × Int) := (List.range n).map fun i => (((m.getD (2 * i) 0 : Nat) : Int), ((m.getD (2 * i + 1) 0 : Nat) : Int))
theorem prs_succ (m : List Nat) (k : Nat) : prs m (k + 1) = prs m k ++ [(((m.getD (2 * k) 0 : Nat) : Int), ((m.getD (2 * k + 1) 0 : Nat) : Int))] := by simp [prs, List.range_succ]
theorem prs_length (m : List Nat) (k : Nat) : (prs m k).length = k := by simp [prs]
theorem prs_cons (a b : Nat) (m : List Nat) (n : Nat) : prs (a :: b :: m) (n + 1) = ((a : Int), (b : Int)) :: prs m n := by
  unfold prs
  rw [List.range_succ_eq_map, List.map_cons, List.map_map]
  congr 1
theorem prs_fit {m : List Nat} (hm : ∀ x ∈ m, x ≤ 1125899906842624) (n : Nat) : ∀ x ∈ prs m n, Fit x := by
  have hg : ∀ i, m.getD i 0 ≤ 1125899906842624 := fun i => by
    by_cases h : i < m.length
    · rw [List.getD_eq_getElem?_getD, List.getElem?_eq_getElem h]
      exact hm _ (List.getElem_mem h)
    · rw [List.getD_eq_getElem?_getD, List.getElem?_eq_none (by omega)]
      simp
  intro x hx
  simp only [prs, List.mem_map] at hx
  obtain ⟨i, _, rfl⟩ := hx
  have h1 := hg (2 * i)
  have h2 := hg (2 * i + 1)
  unfold Fit
  simp only
  omega
/-- The numbers of spans. -/
def flt (sp : List (Int × Int)) : List Nat := sp.flatMap fun x => [x.1.toNat, x.2.toNat]
theorem flt_cons (x : Int × Int) (l : List (Int × Int)) : flt (x :: l) = x.1.toNat :: x.2.toNat :: flt l := by simp [flt]
theorem flt_length : ∀ l : List (Int × Int), (flt l).length = 2 * l.length
  | [] => rfl
  | x :: l => by rw [flt_cons, List.length_cons, List.length_cons, flt_length l, List.length_cons]; omega
theorem spB_flt : ∀ l : List (Int × Int), spB l = vrs (flt l)
  | [] => rfl
  | x :: l => by rw [spB_cons, flt_cons, vrs_cons, vrs_cons, spB_flt l]
theorem prs_flt : ∀ {l : List (Int × Int)}, (∀ x ∈ l, 0 ≤ x.1 ∧ 0 ≤ x.2) → prs (flt l) l.length = l
  | [], _ => rfl
  | x :: l, h => by
    have h1 := h x (List.mem_cons_self ..)
    have ih := prs_flt (l := l) fun y hy => h y (List.mem_cons_of_mem _ hy)
    rw [flt_cons, List.length_cons, prs_cons, ih]
    have e1 : ((x.1.toNat : Nat) : Int) = x.1 := by omega
    have e2 : ((x.2.toNat : Nat) : Int) = x.2 := by omega
    rw [e1, e2]
theorem allB_pos {l : List (Int × Int)} (h : allB l = true) : ∀ x ∈ l, (0 ≤ x.1 ∧ 0 ≤ x.2) ∧ x.1 ≤ 65536 ∧ x.2 ≤ 65536 := by
  intro x hx
  have := mayB_iff.1 (List.all_eq_true.1 h x hx)
  omega
theorem flt_le {l : List (Int × Int)} (h : allB l = true) : ∀ x ∈ flt l, x ≤ 1125899906842624 := by
  intro x hx
  simp only [flt, List.mem_flatMap, List.mem_cons, List.not_mem_nil, or_false] at hx
  obtain ⟨y, hy, hx⟩ := hx
  have := allB_pos h y hy
  omega
/-- What a head tells: the record, the bytes of its data's check sum, whether there is one. -/
def tdP (l : List Nat) : Rc × List Nat × Bool :=
  if (nmP l 4).2.2 = true then
    (if (nmP l 4).1.getD 2 0 = 3 then
      (if (l.drop (nmP l 4).2.1).length < (nmP l 4).1.getD 3 0 then (no, [], false)
       else (⟨(((nmP l 4).1.getD 0 0 : Nat) : Int), (((nmP l 4).1.getD 1 0 : Nat) : Int), 3, [], ⟨#[]⟩, str ((l.drop (nmP l 4).2.1).take ((nmP l 4).1.getD 3 0))⟩, [], true))
     else if 64 < (nmP l 4).1.getD 3 0 then (no, [], false)
     else if (nmP (l.drop (nmP l 4).2.1) (2 * (nmP l 4).1.getD 3 0)).2.2 = true then
       (if (nmP l 4).1.getD 2 0 = 1 then
         (if (l.drop (nmP l 4).2.1).length < (nmP (l.drop (nmP l 4).2.1) (2 * (nmP l 4).1.getD 3 0)).2.1 + 4 then (no, [], false)
          else (⟨(((nmP l 4).1.getD 0 0 : Nat) : Int), (((nmP l 4).1.getD 1 0 : Nat) : Int), 1, prs (nmP (l.drop (nmP l 4).2.1) (2 * (nmP l 4).1.getD 3 0)).1 ((nmP l 4).1.getD 3 0), ⟨#[]⟩, ⟨#[]⟩⟩,
            ((l.drop (nmP l 4).2.1).drop (nmP (l.drop (nmP l 4).2.1) (2 * (nmP l 4).1.getD 3 0)).2.1).take 4, true))
        else (⟨(((nmP l 4).1.getD 0 0 : Nat) : Int), (((nmP l 4).1.getD 1 0 : Nat) : Int), (((nmP l 4).1.getD 2 0 : Nat) : Int), prs (nmP (l.drop (nmP l 4).2.1) (2 * (nmP l 4).1.getD 3 0)).1 ((nmP l 4).1.getD 3 0), ⟨#[]⟩, ⟨#[]⟩⟩, [], true))
     else (no, [], false))
  else (no, [], false)
/-- The bytes of the check sum that a record's head holds. -/
def smB (r : Rc) (sum : Nat) : List Nat := if r.ki = 1 then be sum 4 else []
theorem td_is {r : Rc} {sum : Nat} (h : hB r = 0) (hd : r.da = ⟨#[]⟩) (R : List Nat) : tdP (body r sum ++ R) = (r, smB r sum, true) := by
  obtain ⟨h1, h2, h3, h4, h5⟩ := hB_ok h
  obtain ⟨ep, nu, ki, sp, da, tx'⟩ := r
  simp only at h1 h2 h3 h4 h5 hd
  subst hd
  obtain ⟨e, rfl⟩ := Int.eq_ofNat_of_zero_le h1
  obtain ⟨u, rfl⟩ := Int.eq_ofNat_of_zero_le h3
  -- the four numbers
  have key : ∀ (K L : Nat) (D : List Nat), K ≤ 3 → L ≤ 1000 → nmP (vr e ++ (vr u ++ (vr K ++ (vr L ++ D)))) 4 = ([e, u, K, L], (vrs [e, u, K, L]).length, true) ∧ (vr e ++ (vr u ++ (vr K ++ (vr L ++ D)))).drop (vrs [e, u, K, L]).length = D := by
    intro K L D hK hL
    have ev : vr e ++ (vr u ++ (vr K ++ (vr L ++ D))) = vrs [e, u, K, L] ++ D := by simp [vrs]
    rw [ev, List.drop_left]
    refine ⟨?_, rfl⟩
    have := nm_vrs (xs := [e, u, K, L]) D (by intro x hx; simp at hx; omega) 4 (by simp)
    rw [this]
    rfl
  rcases h5 with ⟨rfl, ht, n1, n2, al, t2⟩ | ⟨rfl, ht, n1, n2, al⟩ | ⟨rfl, n0, t0⟩
  · have htx : tx' = ⟨#[]⟩ := empty_tx (by omega)
    subst htx
    have hb : body ⟨(e : Int), (u : Int), 1, sp, ⟨#[]⟩, ⟨#[]⟩⟩ sum ++ R = vr e ++ (vr u ++ (vr 1 ++ (vr sp.length ++ (vrs (flt sp) ++ (be sum 4 ++ R))))) := by
      rw [← spB_flt]
      simp only [body, kd, show ((1 : Int) = 3) = False by simp, if_false, if_true, List.append_assoc]
      rfl
    rw [hb]
    obtain ⟨k1, k2⟩ := key 1 sp.length (vrs (flt sp) ++ (be sum 4 ++ R)) (by omega) (by omega)
    have k3 := nm_vrs (xs := flt sp) (be sum 4 ++ R) (flt_le al) (2 * sp.length) (by rw [flt_length]; omega)
    rw [List.take_of_length_le (by rw [flt_length]; omega)] at k3
    unfold tdP
    rw [k1]
    simp only [List.getD_cons_zero, List.getD_cons_succ]
    rw [k2, k3]
    simp only
    rw [if_pos trivial, if_neg (by decide), if_neg (by omega), if_pos trivial, if_pos trivial, if_neg (by simp only [List.length_append, be_length]; omega), List.drop_left, List.take_left' (be_length sum 4), prs_flt fun x hx => (allB_pos al x hx).1]
    rfl
  · have htx : tx' = ⟨#[]⟩ := empty_tx (by omega)
    subst htx
    have hb : body ⟨(e : Int), (u : Int), 2, sp, ⟨#[]⟩, ⟨#[]⟩⟩ sum ++ R = vr e ++ (vr u ++ (vr 2 ++ (vr sp.length ++ (vrs (flt sp) ++ R)))) := by
      rw [← spB_flt]
      simp only [body, kd, show ((2 : Int) = 3) = False by simp, show ((2 : Int) = 1) = False by simp, if_false, List.append_nil, List.append_assoc]
      rfl
    rw [hb]
    obtain ⟨k1, k2⟩ := key 2 sp.length (vrs (flt sp) ++ R) (by omega) (by omega)
    have k3 := nm_vrs (xs := flt sp) R (flt_le al) (2 * sp.length) (by rw [flt_length]; omega)
    rw [List.take_of_length_le (by rw [flt_length]; omega)] at k3
    unfold tdP
    rw [k1]
    simp only [List.getD_cons_zero, List.getD_cons_succ]
    rw [k2, k3]
    simp only
    rw [if_pos trivial, if_neg (by decide), if_neg (by omega), if_pos trivial, if_neg (by decide), prs_flt fun x hx => (allB_pos al x hx).1]
    rfl
  · have hsp : sp = [] := List.length_eq_zero_iff.1 n0
    subst hsp
    have hb : body ⟨(e : Int), (u : Int), 3, [], ⟨#[]⟩, tx'⟩ sum ++ R = vr e ++ (vr u ++ (vr 3 ++ (vr tx'.size ++ (bs tx' ++ R)))) := by
      simp only [body, kd, if_true, tx, List.append_assoc]
      rfl
    rw [hb]
    obtain ⟨k1, k2⟩ := key 3 tx'.size (bs tx' ++ R) (by omega) (by omega)
    unfold tdP
    rw [k1]
    simp only [List.getD_cons_zero, List.getD_cons_succ]
    rw [k2]
    rw [if_pos trivial, if_pos trivial, if_neg (by rw [List.length_append, bs_length]; omega), List.take_left' (bs_length tx'), str_bs]
    rfl
theorem four_bytes {z : List Nat} (h4 : z.length = 4) (hz : ∀ b ∈ z, b < 256) : be (num z) 4 = z ∧ num z < 4294967296 := by
  have h1 := be_num z hz
  rw [h4] at h1
  refine ⟨h1, ?_⟩
  have := num_lt z hz
  rw [h4] at this
  exact this
/-- What is so of what a head tells. -/
theorem tdP_ok {l : List Nat} (hl : ∀ b ∈ l, b < 256) (h : (tdP l).2.2 = true) : (tdP l).1.da = ⟨#[]⟩ ∧ (∀ x ∈ (tdP l).1.sp, Fit x) ∧ (tdP l).1.sp.length ≤ 64 ∧ (tdP l).1.tx.size ≤ l.length ∧ ((tdP l).1.ki = 1 → (tdP l).2.1.length = 4) ∧ (∀ b ∈ (tdP l).2.1, b < 256) := by
  unfold tdP at h ⊢
  split at h
  · rename_i h1
    rw [if_pos h1]
    split at h
    · rename_i h2
      rw [if_pos h2]
      split at h
      · exact absurd h (by decide)
      · rename_i h3
        rw [if_neg h3]
        refine ⟨rfl, by simp, by simp, ?_, by simp, by simp⟩
        simp only [str_size, List.length_take, List.length_drop]
        omega
    · rename_i h2
      rw [if_neg h2]
      split at h
      · exact absurd h (by decide)
      · rename_i h3
        rw [if_neg h3]
        split at h
        · rename_i h4
          rw [if_pos h4]
          obtain ⟨f1, f2, f3⟩ := nmP_len h4
          split at h
          · rename_i h5
            rw [if_pos h5]
            split at h
            · exact absurd h (by decide)
            · rename_i h6
              rw [if_neg h6]
              refine ⟨rfl, prs_fit f3 _, by rw [prs_length]; omega, Nat.zero_le _, ?_, ?_⟩
              · intro _
                simp only [List.length_take, List.length_drop] at h6 ⊢
                omega
              · intro b hb
                exact hl b (List.mem_of_mem_drop (List.mem_of_mem_drop (List.mem_of_mem_take hb)))
          · rename_i h5
            rw [if_neg h5]
            refine ⟨rfl, prs_fit f3 _, by rw [prs_length]; omega, Nat.zero_le _, ?_, by simp⟩
            intro x
            have y : (((nmP l 4).1.getD 2 0 : Nat) : Int) = 1 := x
            omega
        · exact absurd h (by decide)
  · exact absurd h (by decide)
/-- The head with which s begins, the document's way: is it one? -/
def opB (s : ByteArray) : Prop := (tdP (mid s)).2.2 = true ∧ hB (tdP (mid s)).1 = 0 ∧ str (hdB (body (tdP (mid s)).1 (num (tdP (mid s)).2.1))) = s.extract 0 (64 * cnt s)
instance (s : ByteArray) : Decidable (opB s) := by unfold opB; infer_instance
theorem op_is {s : ByteArray} (h : opB s) : ∃ sum, IsH (s.extract 0 (64 * cnt s)) (tdP (mid s)).1 sum ∧ ((tdP (mid s)).1.ki = 1 → (tdP (mid s)).2.1 = be sum 4) := by
  obtain ⟨h1, h2, h3⟩ := h
  obtain ⟨f1, f2, f3, f4, f5, f6⟩ := tdP_ok (mid_lt s) h1
  by_cases hk : (tdP (mid s)).1.ki = 1
  · obtain ⟨g1, g2⟩ := four_bytes (f5 hk) f6
    exact ⟨num (tdP (mid s)).2.1, ⟨h2, f1, g2, fun x => absurd hk x, h3⟩, fun _ => g1.symm⟩
  · refine ⟨0, ⟨h2, f1, by omega, fun _ => rfl, ?_⟩, fun x => absurd x hk⟩
    rw [← h3]
    have : ∀ a b, body (tdP (mid s)).1 a = body (tdP (mid s)).1 b := fun a b => by simp only [body, kd, if_neg hk]
    rw [this 0]
theorem rH_op {s : ByteArray} (h0 : (hN s).2 = 0) (h : opB s) : ∃ sum, rH s = ((tdP (mid s)).1, sum, cnt s, 0) ∧ ((tdP (mid s)).1.ki = 1 → (tdP (mid s)).2.1 = be sum 4) := by
  obtain ⟨sum, hI, hs⟩ := op_is h
  refine ⟨sum, ?_, hs⟩
  have hle := (hN_ok h0).2.2.2.2.1
  have hz := hI.size
  have e : s = s.extract 0 (64 * cnt s) ++ s.extract (64 * cnt s) s.size := by
    apply bs_inj
    rw [bs_append, bs_extract, bs_extract, List.drop_zero, Nat.sub_zero, show s.size - 64 * cnt s = ((bs s).drop (64 * cnt s)).length by rw [List.length_drop, bs_length], List.take_length, List.take_append_drop]
  have := rH_is hI (s.extract (64 * cnt s) s.size)
  rw [← e] at this
  rw [this]
  have hc : hn (body (tdP (mid s)).1 sum).length = cnt s := by
    rw [ByteArray.size_extract] at hz
    generalize hn (body (tdP (mid s)).1 sum).length = k at *
    omega
  rw [hc]
theorem rH_no {s : ByteArray} (h0 : (hN s).2 = 0) (h : ¬ opB s) : rH s = (no, 0, 0, 12) := by
  have hf := rdB_facts (mid_lt s)
  unfold rH
  rw [if_pos h0]
  by_cases h2 : (rdB (mid s)).2.2 = 0 ∧ hB (rdB (mid s)).1 = 0 ∧ str (hdB (body (rdB (mid s)).1 (rdB (mid s)).2.1)) = s.extract 0 (64 * cnt s)
  · exfalso
    apply h
    have hI : IsH (s.extract 0 (64 * cnt s)) (rdB (mid s)).1 (rdB (mid s)).2.1 := ⟨h2.2.1, hf.2.2.1, hf.1, hf.2.1, h2.2.2⟩
    have e : s = s.extract 0 (64 * cnt s) ++ s.extract (64 * cnt s) s.size := by
      apply bs_inj
      rw [bs_append, bs_extract, bs_extract, List.drop_zero, Nat.sub_zero, show s.size - 64 * cnt s = ((bs s).drop (64 * cnt s)).length by rw [List.length_drop, bs_length], List.take_length, List.take_append_drop]
    obtain ⟨R, hR⟩ := mid_is hI (s.extract (64 * cnt s) s.size)
    rw [← e] at hR
    have ht := td_is (sum := (rdB (mid s)).2.1) hI.ok hI.da R
    rw [← hR] at ht
    refine ⟨by rw [ht], by rw [ht]; exact hI.ok, ?_⟩
    rw [ht]
    simp only
    by_cases hk : (rdB (mid s)).1.ki = 1
    · rw [smB, if_pos hk, num_be, Nat.mod_eq_of_lt hI.lt]
      exact hI.eq
    · have : ∀ a b, body (rdB (mid s)).1 a = body (rdB (mid s)).1 b := fun a b => by simp only [body, kd, if_neg hk]
      rw [this _ (rdB (mid s)).2.1]
      exact hI.eq
  · rw [if_neg h2]
end Re
end Go.Proofs.YtnpbgjafahhadaaDoor
