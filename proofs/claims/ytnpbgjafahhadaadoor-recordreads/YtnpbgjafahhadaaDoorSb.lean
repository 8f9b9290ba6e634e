/- What is read of a record that was told. -/
import Derived.Test.YtnpbgjafahhadaaDoorSa
import Derived.Test.YtnpbgjafahhadaaDoorRk
namespace Go.Proofs.YtnpbgjafahhadaaDoor
open Go.RowKit
namespace Re
open Cr
/-- A record with these data. -/
def withD (r : Rc) (d : ByteArray) : Rc := ⟨r.ep, r.nu, r.ki, r.sp, d, r.tx⟩
/-- How many sectors of data: as a number of things. -/
def nd (r : Rc) : Nat := (need r).toNat
/-- The record with which s begins, how many sectors it has, what is wrong. -/
def dR (s : ByteArray) : Rc × Nat × Int :=
  if (rH s).2.2.2 = 0 then
    (if s.size < 64 * ((rH s).2.2.1 + nd (rH s).1) then (no, 0, 10)
    else if more 0 (bs (s.extract (64 * (rH s).2.2.1) (64 * ((rH s).2.2.1 + nd (rH s).1)))) = (rH s).2.1 then (withD (rH s).1 (s.extract (64 * (rH s).2.2.1) (64 * ((rH s).2.2.1 + nd (rH s).1))), (rH s).2.2.1 + nd (rH s).1, 0)
    else (no, 0, 13))
  else (no, 0, (rH s).2.2.2)
theorem dR_of {s : ByteArray} {r : Rc} {sum n : Nat} (h : rH s = (r, sum, n, 0)) : dR s = if s.size < 64 * (n + nd r) then (no, 0, 10) else if more 0 (bs (s.extract (64 * n) (64 * (n + nd r)))) = sum then (withD r (s.extract (64 * n) (64 * (n + nd r))), n + nd r, 0) else (no, 0, 13) := by
  unfold dR
  rw [h, if_pos rfl]
theorem dR_bare {s : ByteArray} {r : Rc} {sum n : Nat} (h : rH s = (bare r, sum, n, 0)) : dR s = if s.size < 64 * (n + nd r) then (no, 0, 10) else if more 0 (bs (s.extract (64 * n) (64 * (n + nd r)))) = sum then (withD r (s.extract (64 * n) (64 * (n + nd r))), n + nd r, 0) else (no, 0, 13) := dR_of (r := bare r) h
theorem more_reg {l m : List Nat} (hl : ∀ b ∈ l, b < 256) (hm : ∀ b ∈ m, b < 256) (h : more 0 l = more 0 m) : reg (flip32 0) l = reg (flip32 0) m := by
  have := congrArg flip32 h
  unfold more at this
  rwa [flip32_flip32 (reg_lt _ (flip32_lt 0) hl), flip32_flip32 (reg_lt _ (flip32_lt 0) hm)] at this
theorem more_nil : more 0 [] = 0 := by decide +kernel
theorem nd_need {r : Rc} (h : hB r = 0) : ((nd r : Nat) : Int) = need r ∧ nd r ≤ 512 := by
  have := need_le h
  unfold nd
  omega
theorem hB_bare (r : Rc) : hB (bare r) = hB r := rfl
theorem need_bare (r : Rc) : need (bare r) = need r := rfl
theorem nd_bare (r : Rc) : nd (bare r) = nd r := rfl
theorem body_bare (r : Rc) (s : Nat) : body (bare r) s = body r s := rfl
theorem hB_with (r : Rc) (d : ByteArray) : hB (withD r d) = hB r := rfl
theorem need_with (r : Rc) (d : ByteArray) : need (withD r d) = need r := rfl
theorem body_with (r : Rc) (d : ByteArray) (s : Nat) : body (withD r d) s = body r s := rfl
theorem with_bare (r : Rc) : withD (bare r) r.da = r := rfl
/-- What a record is told as begins with its head. -/
theorem enc_is {r : Rc} (h : chk r = 0) : IsH (str (hdB (body r (more 0 (bs r.da))))) (bare r) (more 0 (bs r.da)) := by
  refine ⟨(hB_bare r).trans (chk_head h), rfl, more_lt' _, fun hk => ?_, rfl⟩
  have hd := chk_data h
  have hn0 : need r = 0 := by
    unfold need
    exact if_neg hk
  have : (bs r.da).length = 0 := by rw [bs_length]; omega
  rw [List.length_eq_zero_iff.1 this, more_nil]
theorem enc_sizes {r : Rc} (h : chk r = 0) : r.da.size = 64 * nd r ∧ (enc r).size = 64 * (hn (body r (more 0 (bs r.da))).length + nd r) ∧ sizeR r = ((hn (body r (more 0 (bs r.da))).length + nd r : Nat) : Int) := by
  have h1 := nd_need (chk_head h)
  have h2 := chk_data h
  have h3 := (enc_is h).size
  refine ⟨by omega, ?_, ?_⟩
  · unfold enc
    rw [ByteArray.size_append, h3, body_bare]
    omega
  · rw [sizeR, if_pos h, body_sum r 0 (more 0 (bs r.da))]
    omega
theorem cut_mid (H D R : ByteArray) : (H ++ (D ++ R)).extract H.size (H.size + D.size) = D := by
  apply bs_inj
  rw [bs_extract, bs_append, bs_append, ← bs_length H, List.drop_left, show (bs H).length + D.size - (bs H).length = (bs D).length by rw [bs_length, bs_length]; omega, List.take_left]
theorem enc_more (r : Rc) (rest : ByteArray) : enc r ++ rest = str (hdB (body r (more 0 (bs r.da)))) ++ (r.da ++ rest) := by
  apply bs_inj
  simp only [enc, bs_append, List.append_assoc]
theorem rH_enc {r : Rc} (h : chk r = 0) (rest : ByteArray) : rH (enc r ++ rest) = (bare r, more 0 (bs r.da), hn (body r (more 0 (bs r.da))).length, 0) := by
  rw [enc_more]
  exact rH_is (enc_is h) _
/-- What was told is read. -/
theorem dR_enc {r : Rc} (h : chk r = 0) (rest : ByteArray) : dR (enc r ++ rest) = (r, hn (body r (more 0 (bs r.da))).length + nd r, 0) := by
  obtain ⟨e1, e2, _⟩ := enc_sizes h
  have hs := (enc_is h).size
  rw [body_bare] at hs
  have hx : (enc r ++ rest).extract (64 * hn (body r (more 0 (bs r.da))).length) (64 * (hn (body r (more 0 (bs r.da))).length + nd r)) = r.da := by
    have := cut_mid (str (hdB (body r (more 0 (bs r.da))))) r.da rest
    rw [hs, e1, ← Nat.mul_add, ← enc_more] at this
    exact this
  rw [dR_bare (rH_enc h rest), if_neg (by rw [ByteArray.size_append]; omega), hx, if_pos rfl]
  rfl
theorem extract_parts (s : ByteArray) {a b : Nat} (h : a ≤ b) : s.extract 0 a ++ s.extract a b = s.extract 0 b := by
  apply bs_inj
  simp only [bs_append, bs_extract, List.drop_zero, Nat.sub_zero]
  conv => rhs; rw [show b = a + (b - a) by omega]
  rw [List.take_add]
/-- What is read is told as the same sectors. -/
theorem dR_one {s : ByteArray} (h : (dR s).2.2 = 0) : chk (dR s).1 = 0 ∧ enc (dR s).1 = s.extract 0 (64 * (dR s).2.1) ∧ 64 * (dR s).2.1 ≤ s.size ∧ sizeR (dR s).1 = ((dR s).2.1 : Nat) := by
  unfold dR at h ⊢
  by_cases h1 : (rH s).2.2.2 = 0
  · rw [if_pos h1] at h ⊢
    obtain ⟨hI, hc, hle, hn0, hn1⟩ := rH_ok h1
    generalize rH s = q at *
    obtain ⟨r, sum, n, e⟩ := q
    simp only at *
    by_cases h2 : s.size < 64 * (n + nd r)
    · rw [if_pos h2] at h
      exact absurd h (by decide)
    · rw [if_neg h2] at h ⊢
      by_cases h3 : more 0 (bs (s.extract (64 * n) (64 * (n + nd r)))) = sum
      · rw [if_pos h3]
        simp only
        have hnd := nd_need hI.ok
        have hsz : (s.extract (64 * n) (64 * (n + nd r))).size = 64 * nd r := by rw [ByteArray.size_extract]; omega
        have hk : chk (withD r (s.extract (64 * n) (64 * (n + nd r)))) = 0 := by
          unfold chk
          rw [hB_with, need_with, if_pos hI.ok, if_neg (by show ¬ (_ ∧ 0 < (s.extract (64 * n) (64 * (n + nd r))).size); omega), if_pos (by show (((s.extract (64 * n) (64 * (n + nd r))).size : Nat) : Int) = _; omega)]
        refine ⟨hk, ?_, by omega, ?_⟩
        · show str (hdB (body (withD r _) (more 0 (bs (s.extract (64 * n) (64 * (n + nd r))))))) ++ s.extract (64 * n) (64 * (n + nd r)) = _
          rw [body_with, h3, hI.eq, extract_parts s (by omega)]
        · rw [(enc_sizes hk).2.2, body_with]
          show ((hn (body r (more 0 (bs (s.extract (64 * n) (64 * (n + nd r)))))).length + nd r : Nat) : Int) = _
          rw [h3, ← hn1]
      · rw [if_neg h3] at h
        exact absurd h (by decide)
  · rw [if_neg h1] at h
    exact absurd h h1
theorem dR_err (s : ByteArray) : (dR s).2.2 = 0 ∨ dR s = (no, 0, 10) ∨ dR s = (no, 0, 12) ∨ dR s = (no, 0, 13) := by
  unfold dR
  split
  · split
    · exact .inr (.inl rfl)
    · split
      · exact .inl rfl
      · exact .inr (.inr (.inr rfl))
  · rcases rH_err s with h | h | h | h
    · contradiction
    · exact .inr (.inl (by rw [h]))
    · exact .inr (.inr (.inl (by rw [h])))
    · exact .inr (.inr (.inr (by rw [h])))
theorem bs_cut (s : ByteArray) (n : Nat) : bs (s.extract 0 n) = (bs s).take n := by rw [bs_extract, List.drop_zero, Nat.sub_zero]
theorem extract_cut (s : ByteArray) {n m : Nat} (h : n ≤ m) : (s.extract 0 m).extract 0 n = s.extract 0 n := by
  apply bs_inj
  rw [bs_cut, bs_cut, bs_cut, List.take_take, Nat.min_eq_left h]
/-- Of a record whose end is missing nothing is read. -/
theorem dR_cut {r : Rc} (h : chk r = 0) {c : Nat} (hc : c < (enc r).size) : dR ((enc r).extract 0 c) = (no, 0, 10) := by
  obtain ⟨e1, e2, _⟩ := enc_sizes h
  have hI := enc_is h
  have hs := hI.size
  rw [body_bare] at hs
  have h19 := body_hn (chk_head h) (more 0 (bs r.da))
  have h1 := (hn_le (body r (more 0 (bs r.da))).length).2.2
  have hz : ((enc r).extract 0 c).size = c := by rw [ByteArray.size_extract]; omega
  by_cases hn0 : c < 64 * hn (body r (more 0 (bs r.da))).length
  · have hN' : hN ((enc r).extract 0 c) = (0, 10) := by
      unfold hN
      by_cases h64 : c < 64
      · rw [if_pos (by omega)]
      · obtain ⟨Z, hZ⟩ := hI.shape
        rw [body_bare] at hZ
        have hb : bs ((enc r).extract 0 c) = 76 :: 82 :: (be (hn (body r (more 0 (bs r.da))).length) 2 ++ ((body r (more 0 (bs r.da)) ++ Z) ++ bs r.da).take (c - 4)) := by
          rw [bs_cut, enc, bs_append, hZ]
          obtain ⟨d, rfl⟩ : ∃ d, c = d + 4 := ⟨c - 4, by omega⟩
          simp only [be, List.cons_append, List.nil_append, List.take_succ_cons, Nat.add_sub_cancel]
        obtain ⟨hcn, ht⟩ := cnt_of hb (by omega)
        rw [if_neg (by omega), if_neg (by rw [ht]; rintro (x | x | x); exact x rfl; omega; omega), if_pos (by omega)]
    have hr : rH ((enc r).extract 0 c) = (no, 0, 0, 10) := by
      unfold rH
      rw [hN', if_neg (by decide)]
    unfold dR
    rw [hr, if_neg (by decide)]
  · have hr : rH ((enc r).extract 0 c) = (bare r, more 0 (bs r.da), hn (body r (more 0 (bs r.da))).length, 0) := by
      have : (enc r).extract 0 c = str (hdB (body r (more 0 (bs r.da)))) ++ (enc r).extract (64 * hn (body r (more 0 (bs r.da))).length) c := by
        have hL : (enc r).extract 0 (64 * hn (body r (more 0 (bs r.da))).length) = str (hdB (body r (more 0 (bs r.da)))) := by rw [← hs, enc, extract_left]
        rw [← extract_parts (enc r) (a := 64 * hn (body r (more 0 (bs r.da))).length) (b := c) (by omega), hL]
      rw [this]
      have hq := rH_is hI ((enc r).extract (64 * hn (body r (more 0 (bs r.da))).length) c)
      rw [body_bare] at hq
      exact hq
    rw [dR_bare hr, if_pos (by omega)]
theorem be_two_inj {a b : Nat} (ha : a < 65536) (hb : b < 65536) (h : be a 2 = be b 2) : a = b := by
  have := congrArg num h
  rw [num_be, num_be] at this
  omega
/-- Two records' heads of which all from the fourth byte on is the same, as far as the first one's goes, are the same. -/
theorem head_same {S T : ByteArray} {r x : Rc} {s t : Nat} {A B : List Nat} (h : IsH S r s) (k : IsH T x t) (hb : (bs S ++ A).drop 4 = (bs T ++ B).drop 4) : x = r ∧ t = s := by
  obtain ⟨Z, hZ⟩ := h.shape
  obtain ⟨Y, hY⟩ := k.shape
  have e : ∀ (n : Nat) (L M : List Nat), (76 :: 82 :: (be n 2 ++ L) ++ M).drop 4 = L ++ M := by
    intro n L M
    simp [be]
  rw [hZ, hY, e, e, List.append_assoc, List.append_assoc] at hb
  have h1 := rdB_back (R := Z ++ A) h.ok h.lt h.z
  have h2 := rdB_back (R := Y ++ B) k.ok k.lt k.z
  rw [hb, h2, h.bare, k.bare] at h1
  simp only [Prod.mk.injEq] at h1
  exact ⟨h1.1, h1.2.1⟩
theorem set_turn (l : List Nat) (t p : Nat) (hp : p < l.length) : (List.range l.length).map (turnd l (fun _ => t) p 1) = l.set p (l.getD p 0 ^^^ t) := by
  apply List.ext_getElem?
  intro i
  rw [List.getElem?_map, List.getElem?_set]
  by_cases hi : i < l.length
  · rw [List.getElem?_range hi]
    simp only [Option.map_some, turnd]
    by_cases hpi : p = i
    · subst hpi
      simp [hp]
    · rw [if_neg hpi, if_neg (by omega), List.getD_eq_getElem?_getD, List.getElem?_eq_getElem hi]
      rfl
  · rw [List.getElem?_eq_none (by rw [List.length_range]; omega)]
    have : p ≠ i := by omega
    rw [if_neg this, List.getElem?_eq_none (by omega)]
    rfl
/-- Bytes of which one is turned. -/
def tur (s : ByteArray) (p t : Nat) : ByteArray := str ((bs s).set p ((bs s).getD p 0 ^^^ t))
theorem tur_lt {s : ByteArray} {p t : Nat} (ht : t < 256) : ∀ b ∈ (bs s).set p ((bs s).getD p 0 ^^^ t), b < 256 := by
  intro b hb
  rcases List.mem_or_eq_of_mem_set hb with hb | rfl
  · exact bs_lt s b hb
  · refine Nat.xor_lt_two_pow (n := 8) ?_ ht
    by_cases hp : p < (bs s).length
    · rw [List.getD_eq_getElem?_getD, List.getElem?_eq_getElem hp]
      exact bs_lt s _ (List.getElem_mem hp)
    · rw [List.getD_eq_getElem?_getD, List.getElem?_eq_none (by omega)]
      decide
theorem bs_tur {s : ByteArray} {p t : Nat} (ht : t < 256) : bs (tur s p t) = (bs s).set p ((bs s).getD p 0 ^^^ t) := bs_str (tur_lt ht)
theorem tur_size (s : ByteArray) (p t : Nat) : (tur s p t).size = s.size := by rw [tur, str_size, List.length_set, bs_length]
theorem tn_one {t : Nat} (h0 : t ≠ 0) : tn (fun _ => t) 1 = true := by
  simp [tn, List.range_succ]
  omega
theorem xor_ne {x t : Nat} (h0 : t ≠ 0) : x ^^^ t ≠ x := by
  intro h
  have : x ^^^ (x ^^^ t) = x ^^^ x := by rw [h]
  rw [← Nat.xor_assoc, Nat.xor_self, Nat.zero_xor] at this
  exact h0 this
theorem set_drop {l : List Nat} {p n v : Nat} (h : p < n) : (l.set p v).drop n = l.drop n := List.drop_set_of_lt h
theorem set_take {l : List Nat} {p n v : Nat} (h : n ≤ p) : (l.set p v).take n = l.take n := List.take_set_of_le h
/-- Of a record of which one byte is turned nothing is read. -/
theorem dR_tur {r : Rc} (h : chk r = 0) {p t : Nat} (hp : p < (enc r).size) (ht : t < 256) (h0 : t ≠ 0) : (dR (tur (enc r) p t)).2.2 ≠ 0 := by
  obtain ⟨e1, e2, _⟩ := enc_sizes h
  have hI := enc_is h
  have hs := hI.size
  rw [body_bare] at hs
  have h19 := body_hn (chk_head h) (more 0 (bs r.da))
  have h1 := (hn_le (body r (more 0 (bs r.da))).length).2.2
  have hbt := bs_tur (s := enc r) (p := p) ht
  have hzt := tur_size (enc r) p t
  have hbe : bs (enc r) = bs (str (hdB (body r (more 0 (bs r.da))))) ++ bs r.da := by rw [enc, bs_append]
  generalize tur (enc r) p t = T at *
  intro hok
  by_cases hr0 : (rH T).2.2.2 = 0
  · obtain ⟨kI, kc, kl, kn, kh⟩ := rH_ok hr0
    by_cases hp1 : p < 64 * hn (body r (more 0 (bs r.da))).length
    · by_cases hp4 : p < 4
      · have hd : (bs (str (hdB (body r (more 0 (bs r.da))))) ++ bs r.da).drop 4 = (bs (T.extract 0 (64 * (rH T).2.2.1)) ++ (bs T).drop (64 * (rH T).2.2.1)).drop 4 := by
          rw [bs_cut, List.take_append_drop, hbt, set_drop hp4, hbe]
        obtain ⟨a1, a2⟩ := head_same hI kI hd
        obtain ⟨Z, hZ⟩ := hI.shape
        obtain ⟨Y, hY⟩ := kI.shape
        rw [a1, a2] at hY
        have ht4 : ∀ (n : Nat) (L : List Nat), (76 :: 82 :: (be n 2 ++ L)).take 4 = 76 :: 82 :: be n 2 := by
          intro n L
          simp [be]
        have t1 : (bs (enc r)).take 4 = (bs T).take 4 := by
          have u1 : (bs (enc r)).take 4 = 76 :: 82 :: be (hn (body (bare r) (more 0 (bs r.da))).length) 2 := by
            rw [hbe, List.take_append_of_le_length (by rw [bs_length]; omega), hZ, ht4]
          have u2 : (bs T).take 4 = 76 :: 82 :: be (hn (body (bare r) (more 0 (bs r.da))).length) 2 := by
            rw [← ht4 _ (body (bare r) (more 0 (bs r.da)) ++ Y), ← hY, bs_cut, List.take_take, Nat.min_eq_left (by rw [kh]; have := (hn_le (body (rH T).1 (rH T).2.1).length).2.2; omega)]
          rw [u1, u2]
        have t2 := congrArg (fun l => l.getD p 0) t1
        simp only [List.getD_eq_getElem?_getD] at t2
        rw [List.getElem?_take_of_lt hp4, List.getElem?_take_of_lt hp4, hbt, List.getElem?_set_self (by rw [bs_length]; exact hp)] at t2
        simp only [Option.getD_some] at t2
        refine xor_ne (x := (bs (enc r)).getD p 0) h0 ?_
        rw [List.getD_eq_getElem?_getD]
        exact t2.symm
      · have hcn : cnt T = hn (body r (more 0 (bs r.da))).length := by
          obtain ⟨Z, hZ⟩ := hI.shape
          have hb : bs T = 76 :: 82 :: (be (hn (body r (more 0 (bs r.da))).length) 2 ++ (bs T).drop 4) := by
            conv => lhs; rw [← List.take_append_drop 4 (bs T), hbt, set_take (by omega), ← hbt, hbe, List.take_append_of_le_length (by rw [bs_length]; omega), hZ]
            simp [be, body_bare]
          exact (cnt_of hb (by omega)).1
        have hop := (hN_ok kn).2.2.2.2.2.1
        rw [hcn] at hop
        have hx : T.extract 0 (64 * hn (body r (more 0 (bs r.da))).length) = str ((List.range (sealOf (str (hdU (body r (more 0 (bs r.da)))))).size).map (turnd (bs (sealOf (str (hdU (body r (more 0 (bs r.da))))))) (fun _ => t) p 1)) := by
          have hse : sealOf (str (hdU (body r (more 0 (bs r.da))))) = str (hdB (body r (more 0 (bs r.da)))) := hI.seal.symm
          rw [hse, ← bs_length, set_turn _ _ _ (by rw [bs_length]; omega)]
          apply str_of
          rw [bs_cut, hbt, ← hs, hbe, ← bs_length]
          rw [List.set_append_left _ _ (by rw [bs_length]; omega)]
          rw [show (bs (str (hdB (body r (more 0 (bs r.da)))))).length = ((bs (str (hdB (body r (more 0 (bs r.da)))))).set p (((bs (str (hdB (body r (more 0 (bs r.da))))) ++ bs r.da).getD p 0) ^^^ t)).length by rw [List.length_set], List.take_left]
          congr 2
          rw [List.getD_eq_getElem?_getD, List.getD_eq_getElem?_getD, List.getElem?_append_left (by rw [bs_length]; omega)]
        have hsz : (sealOf (str (hdU (body r (more 0 (bs r.da)))))).size = 64 * hn (body r (more 0 (bs r.da))).length := by
          rw [← hs]
          exact congrArg ByteArray.size hI.seal.symm
        rw [hx, opened_turned (fun _ => ht) (by rw [hsz]; omega) (by omega) (tn_one h0)] at hop
        exact absurd hop (by decide)
    · have hTd : T = str (hdB (body r (more 0 (bs r.da)))) ++ str ((bs r.da).set (p - 64 * hn (body r (more 0 (bs r.da))).length) ((bs (enc r)).getD p 0 ^^^ t)) := by
        apply bs_inj
        rw [bs_append, bs_str (l := (bs r.da).set _ _)]
        · rw [hbt]
          generalize (bs (enc r)).getD p 0 ^^^ t = v
          rw [hbe, List.set_append_right _ _ (by rw [bs_length]; omega), bs_length, hs]
        · intro b hb
          rcases List.mem_or_eq_of_mem_set hb with hb | rfl
          · exact bs_lt _ b hb
          · refine Nat.xor_lt_two_pow (n := 8) ?_ ht
            rw [List.getD_eq_getElem?_getD, List.getElem?_eq_getElem (by rw [bs_length]; exact hp)]
            exact bs_lt _ _ (List.getElem_mem _)
      have hrT := rH_is hI (str ((bs r.da).set (p - 64 * hn (body r (more 0 (bs r.da))).length) ((bs (enc r)).getD p 0 ^^^ t)))
      rw [← hTd, body_bare] at hrT
      have hq : p - 64 * hn (body r (more 0 (bs r.da))).length < (bs r.da).length := by rw [bs_length]; omega
      have hg : (bs (enc r)).getD p 0 = (bs r.da).getD (p - 64 * hn (body r (more 0 (bs r.da))).length) 0 := by
        rw [hbe, List.getD_eq_getElem?_getD, List.getD_eq_getElem?_getD, List.getElem?_append_right (by rw [bs_length]; omega), bs_length, hs]
      rw [hg] at hTd
      have hxd : T.extract (64 * hn (body r (more 0 (bs r.da))).length) (64 * (hn (body r (more 0 (bs r.da))).length + nd r)) = str ((bs r.da).set (p - 64 * hn (body r (more 0 (bs r.da))).length) ((bs r.da).getD (p - 64 * hn (body r (more 0 (bs r.da))).length) 0 ^^^ t)) := by
        have := cut_mid (str (hdB (body r (more 0 (bs r.da))))) (str ((bs r.da).set (p - 64 * hn (body r (more 0 (bs r.da))).length) ((bs r.da).getD (p - 64 * hn (body r (more 0 (bs r.da))).length) 0 ^^^ t))) ⟨#[]⟩
        rw [show ∀ x : ByteArray, x ++ ⟨#[]⟩ = x from fun x => ByteArray.append_empty, ← hTd, hs, str_size, List.length_set, bs_length, e1, ← Nat.mul_add] at this
        exact this
      rw [dR_bare hrT, if_neg (by omega), hxd, if_neg] at hok
      · exact absurd hok (by decide)
      · have hlt := tur_lt (s := r.da) (p := p - 64 * hn (body r (more 0 (bs r.da))).length) ht
        rw [bs_str hlt, ← set_turn _ _ _ hq]
        intro hm
        refine turnd_reg (l := bs r.da) (t := fun _ => t) (p := p - 64 * hn (body r (more 0 (bs r.da))).length) (k := 1) (bs_lt _) (fun _ => ht) (by omega) (by omega) (tn_one h0) (flip32 0) ?_
        exact more_reg (by rw [set_turn _ _ _ hq]; exact hlt) (bs_lt _) hm
  · unfold dR at hok
    rw [if_neg hr0] at hok
    exact hr0 hok
end Re
end Go.Proofs.YtnpbgjafahhadaaDoor
