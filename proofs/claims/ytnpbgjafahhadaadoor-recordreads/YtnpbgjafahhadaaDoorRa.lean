/- What a record's bytes are, and how they are read: plain numbers and strings, no program. -/
import Derived.Test.YtnpbgjafahhadaaDoorQy
namespace Go.Proofs.YtnpbgjafahhadaaDoor
open Go.RowKit
namespace Re
open Cr
/-- A record. -/
structure Rc where
  ep : Int
  nu : Int
  ki : Int
  sp : List (Int × Int)
  da : ByteArray
  tx : ByteArray
/-- No record. -/
def no : Rc := ⟨0, 0, 0, [], ⟨#[]⟩, ⟨#[]⟩⟩
/-- What is wrong with a Trim's spans and text; a Write's; a Note's. -/
def tB (r : Rc) : Int := if 0 < r.tx.size ∨ r.sp.length < 1 ∨ 64 < r.sp.length then 1 else if allB r.sp then 0 else 1
def wB (r : Rc) : Int := if tB r = 0 then (if 512 < total r.sp then 1 else 0) else 1
def nB (r : Rc) : Int := if 0 < r.sp.length ∨ 512 < r.tx.size then 1 else 0
def kB (r : Rc) : Int := if r.ki = 1 then wB r else if r.ki = 2 then tB r else if r.ki = 3 then nB r else 14
/-- What is wrong with all of a record but its data. -/
def hB (r : Rc) : Int := if r.ep < 0 ∨ 4294967296 ≤ r.ep ∨ r.nu < 0 ∨ 1099511627776 ≤ r.nu then 31 else kB r
/-- How many sectors of data there must be. -/
def need (r : Rc) : Int := if r.ki = 1 then total r.sp else 0
/-- What is wrong with a record. -/
def chk (r : Rc) : Int := if hB r = 0 then (if need r = 0 ∧ 0 < r.da.size then 1 else if (r.da.size : Int) = need r * 64 then 0 else 30) else hB r
theorem tB_cases (r : Rc) : tB r = 0 ∨ tB r = 1 := by unfold tB; split; exact .inr rfl; split; exact .inl rfl; exact .inr rfl
theorem tB_ok {r : Rc} (h : tB r = 0) : r.tx.size = 0 ∧ 1 ≤ r.sp.length ∧ r.sp.length ≤ 64 ∧ allB r.sp = true := by
  unfold tB at h
  split at h
  · omega
  · split at h
    · exact ⟨by omega, by omega, by omega, by assumption⟩
    · omega
/-- What is so of a record whose head may be. -/
theorem hB_ok {r : Rc} (h : hB r = 0) : 0 ≤ r.ep ∧ r.ep < 4294967296 ∧ 0 ≤ r.nu ∧ r.nu < 1099511627776 ∧
    (r.ki = 1 ∧ r.tx.size = 0 ∧ 1 ≤ r.sp.length ∧ r.sp.length ≤ 64 ∧ allB r.sp = true ∧ total r.sp ≤ 512 ∨
      r.ki = 2 ∧ r.tx.size = 0 ∧ 1 ≤ r.sp.length ∧ r.sp.length ≤ 64 ∧ allB r.sp = true ∨ r.ki = 3 ∧ r.sp.length = 0 ∧ r.tx.size ≤ 512) := by
  unfold hB at h
  split at h
  · omega
  · refine ⟨by omega, by omega, by omega, by omega, ?_⟩
    unfold kB at h
    split at h
    · unfold wB at h
      split at h
      · rename_i ht
        have := tB_ok ht
        split at h
        · omega
        · exact .inl ⟨by assumption, this.1, this.2.1, this.2.2.1, this.2.2.2, by omega⟩
      · omega
    · split at h
      · have := tB_ok h
        exact .inr (.inl ⟨by assumption, this.1, this.2.1, this.2.2.1, this.2.2.2⟩)
      · split at h
        · unfold nB at h
          split at h
          · omega
          · exact .inr (.inr ⟨by assumption, by omega, by omega⟩)
        · omega
theorem chk_head {r : Rc} (h : chk r = 0) : hB r = 0 := by
  unfold chk at h
  split at h
  · assumption
  · exact h
theorem chk_data {r : Rc} (h : chk r = 0) : (r.da.size : Int) = need r * 64 := by
  unfold chk at h
  split at h
  · split at h
    · omega
    · split at h
      · assumption
      · omega
  · contradiction
theorem sumTo_pos {xs : List (Int × Int)} (h : allB xs = true) : ∀ k, k ≤ xs.length → (k : Int) ≤ sumTo xs k ∧ sumTo xs k ≤ 65536 * k
  | 0, _ => by simp [sumTo]
  | k + 1, hk => by
    have ih := sumTo_pos h k (by omega)
    have := mayB_iff.1 (allB_at h (k := k) (by omega))
    simp only [sumTo]
    omega
theorem need_le {r : Rc} (h : hB r = 0) : 0 ≤ need r ∧ need r ≤ 512 ∧ (r.ki = 1 → 1 ≤ need r) := by
  obtain ⟨_, _, _, _, h1 | h1 | h1⟩ := hB_ok h
  · have := sumTo_pos h1.2.2.2.2.1 r.sp.length (Nat.le_refl _)
    unfold need
    rw [if_pos h1.1]
    unfold total at *
    omega
  · unfold need
    rw [if_neg (by omega)]
    omega
  · unfold need
    rw [if_neg (by omega)]
    omega

/-- The spans' bytes. -/
def spB (l : List (Int × Int)) : List Nat := l.flatMap fun x => vr x.1.toNat ++ vr x.2.toNat
theorem spB_cons (x : Int × Int) (l : List (Int × Int)) : spB (x :: l) = vr x.1.toNat ++ (vr x.2.toNat ++ spB l) := by simp [spB]
theorem spB_snoc {xs : List (Int × Int)} {k : Nat} (h : k < xs.length) : spB (xs.take (k + 1)) = spB (xs.take k) ++ (vr (nth xs k).1.toNat ++ vr (nth xs k).2.toNat) := by
  rw [snoc_take xs k (nth xs k) (by rw [nth_eq h]; exact List.getElem?_eq_getElem h)]
  simp [spB]
theorem spB_length : ∀ l : List (Int × Int), (spB l).length ≤ 18 * l.length
  | [] => by simp [spB]
  | x :: l => by
    have := spB_length l
    rw [spB_cons]
    simp only [List.length_append, vr_length, List.length_cons]
    have := size_pos x.1.toNat
    have := size_pos x.2.toNat
    omega
/-- What stands in a head behind the kind. -/
def kd (r : Rc) (sum : Nat) : List Nat := if r.ki = 3 then tx r.tx else vr r.sp.length ++ (spB r.sp ++ (if r.ki = 1 then be sum 4 else []))
/-- What stands in a head between how many sectors it has and the bytes 0. -/
def body (r : Rc) (sum : Nat) : List Nat := vr r.ep.toNat ++ (vr r.nu.toNat ++ (vr r.ki.toNat ++ kd r sum))
/-- How many sectors a head with so many bytes has. -/
def hn (n : Nat) : Nat := (n + 71) / 64
/-- A head without its check sum, and with it. -/
def hdU (b : List Nat) : List Nat := [76, 82] ++ (be (hn b.length) 2 ++ (b ++ List.replicate (64 * hn b.length - (8 + b.length)) 0))
def hdB (b : List Nat) : List Nat := hdU b ++ four (more 0 (hdU b))
theorem hn_le (n : Nat) : 8 + n ≤ 64 * hn n ∧ 64 * hn n ≤ 71 + n ∧ 1 ≤ hn n := by unfold hn; omega
theorem hdU_length (b : List Nat) : (hdU b).length = 64 * hn b.length - 4 := by
  have := hn_le b.length
  simp only [hdU, List.length_append, be_length, List.length_replicate, List.length_cons, List.length_nil]
  omega
theorem four_length (x : Nat) : (four x).length = 4 := rfl
theorem hdB_length (b : List Nat) : (hdB b).length = 64 * hn b.length := by
  have := hn_le b.length
  rw [hdB, List.length_append, hdU_length, four_length]
  omega
theorem kd_length {r : Rc} (h : hB r = 0) (sum : Nat) : (kd r sum).length ≤ 1170 := by
  unfold kd
  split
  · rename_i h3
    obtain ⟨_, _, _, _, h1 | h1 | h1⟩ := hB_ok h
    · omega
    · omega
    · have := size_pos r.tx.size
      simp only [tx, List.length_append, vr_length, bs_length]
      omega
  · have := spB_length r.sp
    have := size_pos r.sp.length
    have hl : r.sp.length ≤ 64 := by
      obtain ⟨_, _, _, _, h1 | h1 | h1⟩ := hB_ok h <;> omega
    have h4 : (if r.ki = 1 then be sum 4 else []).length ≤ 4 := by split <;> simp [be_length]
    simp only [List.length_append, vr_length]
    omega
theorem body_length {r : Rc} (h : hB r = 0) (sum : Nat) : (body r sum).length ≤ 1197 := by
  have := kd_length h sum
  have := size_pos r.ep.toNat
  have := size_pos r.nu.toNat
  have := size_pos r.ki.toNat
  simp only [body, List.length_append, vr_length]
  omega
theorem body_hn {r : Rc} (h : hB r = 0) (sum : Nat) : hn (body r sum).length ≤ 19 := by
  have := body_length h sum
  unfold hn
  omega
theorem kd_sum (r : Rc) (s t : Nat) : (kd r s).length = (kd r t).length := by
  unfold kd
  split
  · rfl
  · split <;> simp [be_length]
theorem body_sum (r : Rc) (s t : Nat) : (body r s).length = (body r t).length := by
  simp only [body, List.length_append, kd_sum r s t]
theorem tot_nat {xs : List (Int × Int)} {k : Nat} (_h : k < xs.length) : sumTo xs (k + 1) = sumTo xs k + (nth xs k).2 := rfl
theorem vr_lt' {x : Nat} (hx : x < 18446744073709551616) : ∀ b ∈ vr x, b < 256 := vr_lt x hx
theorem spB_lt : ∀ {l : List (Int × Int)}, allB l = true → ∀ b ∈ spB l, b < 256
  | [], _ => by simp [spB]
  | x :: l, h => by
    simp only [allB, List.all_cons, Bool.and_eq_true] at h
    have hm := mayB_iff.1 h.1
    have ih := spB_lt (l := l) h.2
    intro b hb
    rw [spB_cons] at hb
    simp only [List.mem_append] at hb
    rcases hb with hb | hb | hb
    · exact vr_lt _ (by omega) b hb
    · exact vr_lt _ (by omega) b hb
    · exact ih b hb
theorem body_lt {r : Rc} (h : hB r = 0) (sum : Nat) (ht : r.tx.size ≤ 9223372036854775807) : ∀ b ∈ body r sum, b < 256 := by
  obtain ⟨h1, h2, h3, h4, h5⟩ := hB_ok h
  have hk : 1 ≤ r.ki ∧ r.ki ≤ 3 := by omega
  intro b hb
  simp only [body, List.mem_append] at hb
  rcases hb with hb | hb | hb | hb
  · exact vr_lt _ (by omega) b hb
  · exact vr_lt _ (by omega) b hb
  · exact vr_lt _ (by omega) b hb
  · unfold kd at hb
    split at hb
    · simp only [tx, List.mem_append] at hb
      rcases hb with hb | hb
      · exact vr_lt _ (by omega) b hb
      · exact bs_lt _ b hb
    · have hal : allB r.sp = true := by
        rcases h5 with h5 | h5 | h5
        · exact h5.2.2.2.2.1
        · exact h5.2.2.2.2
        · have : r.sp = [] := List.length_eq_zero_iff.1 h5.2.1
          rw [this]
          rfl
      have hl : r.sp.length ≤ 64 := by omega
      simp only [List.mem_append] at hb
      rcases hb with hb | hb | hb
      · exact vr_lt _ (by omega) b hb
      · exact spB_lt hal b hb
      · split at hb
        · exact be_lt _ _ b hb
        · simp at hb

/-! How a head is read, the program's way. -/
/-- A number that is read, and where one stands then, and what is wrong. -/
def intP (l : List Nat) (p : Nat) (e m : Int) : Nat × Nat × Int := if e = 0 then ((intR (l.drop p) m).1, p + (intR (l.drop p) m).2.1, (intR (l.drop p) m).2.2) else (0, p, e)
def fixP (l : List Nat) (p : Nat) (e n : Int) : Nat × Nat × Int := if e = 0 then ((fixR (l.drop p) n).1, p + (fixR (l.drop p) n).2.1, (fixR (l.drop p) n).2.2) else (0, p, e)
def txtP (l : List Nat) (p : Nat) (e n : Int) : List Nat × Nat × Int := if e = 0 then ((txtR (l.drop p) n).1, p + (txtR (l.drop p) n).2.1, (txtR (l.drop p) n).2.2) else ([], p, e)
/-- So many spans. -/
def rdK (l : List Nat) (p : Nat) (e : Int) : Nat → List (Int × Int) × Nat × Int
  | 0 => ([], p, e)
  | k + 1 => ((rdK l p e k).1 ++ [((((intP l (rdK l p e k).2.1 (rdK l p e k).2.2 65536).1 : Nat) : Int),
      (((intP l (intP l (rdK l p e k).2.1 (rdK l p e k).2.2 65536).2.1 (intP l (rdK l p e k).2.1 (rdK l p e k).2.2 65536).2.2 65536).1 : Nat) : Int))],
      (intP l (intP l (rdK l p e k).2.1 (rdK l p e k).2.2 65536).2.1 (intP l (rdK l p e k).2.1 (rdK l p e k).2.2 65536).2.2 65536).2)
def rdS (l : List Nat) (p : Nat) (e : Int) : List (Int × Int) × Nat × Int := rdK l (intP l p e 64).2.1 (intP l p e 64).2.2 (intP l p e 64).1
/-- The four numbers ahead: Epoch, Number, Kind. -/
def rd3 (l : List Nat) : (Nat × Nat × Nat) × Nat × Int :=
  let a := intP l 0 0 4294967295
  let b := intP l a.2.1 a.2.2 1099511627775
  let c := intP l b.2.1 b.2.2 3
  ((a.1, b.1, c.1), c.2)
/-- What is read of the kind k. -/
def rdX (l : List Nat) (k : Nat) (p : Nat) (e : Int) : List (Int × Int) × ByteArray × Nat × Nat × Int :=
  if k = 1 then ((rdS l p e).1, ⟨#[]⟩, (fixP l (rdS l p e).2.1 (rdS l p e).2.2 4).1 % 4294967296, (fixP l (rdS l p e).2.1 (rdS l p e).2.2 4).2)
  else if k = 2 then ((rdS l p e).1, ⟨#[]⟩, 0, (rdS l p e).2)
  else if k = 3 then ([], str (txtP l p e 512).1, 0, (txtP l p e 512).2)
  else ([], ⟨#[]⟩, 0, p, e)
/-- The whole: the record without its data, the data's check sum, what is wrong. -/
def rdB (l : List Nat) : Rc × Nat × Int :=
  let h := rd3 l
  let x := rdX l h.1.2.2 h.2.1 h.2.2
  (⟨(h.1.1 : Nat), (h.1.2.1 : Nat), (h.1.2.2 : Nat), x.1, ⟨#[]⟩, x.2.1⟩, x.2.2.1, x.2.2.2.2)
theorem intP_vr {l R : List Nat} {p x : Nat} {m : Int} (hl : l.drop p = vr x ++ R) (hx : (x : Int) ≤ m) (hm : m ≤ 1099511627776) : intP l p 0 m = (x, p + size x, 0) ∧ l.drop (p + size x) = R := by
  refine ⟨?_, by rw [← List.drop_drop, hl, ← vr_length x, List.drop_left]⟩
  unfold intP
  rw [if_pos rfl, hl, intR_ok (by rw [few_vr 12 x (by omega)]; simp only; omega), few_vr 12 x (by omega)]
theorem rdK_back {l R : List Nat} {xs : List (Int × Int)} {p : Nat} (hl : l.drop p = spB xs ++ R) (hx : allB xs = true) : ∀ k, k ≤ xs.length → (rdK l p 0 k).1 = xs.take k ∧ (rdK l p 0 k).2.2 = 0 ∧ l.drop (rdK l p 0 k).2.1 = spB (xs.drop k) ++ R
  | 0, _ => by simpa [rdK] using hl
  | k + 1, hk => by
    obtain ⟨h1, h2, h3⟩ := rdK_back hl hx k (by omega)
    have hm := mayB_iff.1 (allB_at hx (k := k) (by omega))
    have hd : xs.drop k = nth xs k :: xs.drop (k + 1) := by
      rw [nth_eq (by omega)]
      exact List.drop_eq_getElem_cons (by omega)
    rw [hd, spB_cons, List.append_assoc, List.append_assoc] at h3
    obtain ⟨a1, a2⟩ := intP_vr (m := 65536) h3 (by omega) (by omega)
    obtain ⟨b1, b2⟩ := intP_vr (m := 65536) a2 (by omega) (by omega)
    simp only [rdK, h2, a1, b1, h1]
    refine ⟨?_, trivial, b2⟩
    rw [snoc_take xs k (nth xs k) (by rw [nth_eq (by omega)]; exact List.getElem?_eq_getElem (by omega))]
    congr 2
    apply Prod.ext <;> simp only <;> omega
theorem rdS_back {l R : List Nat} {xs : List (Int × Int)} {p : Nat} (hl : l.drop p = vr xs.length ++ (spB xs ++ R)) (hx : allB xs = true) (hn : xs.length ≤ 64) : (rdS l p 0).1 = xs ∧ (rdS l p 0).2.2 = 0 ∧ l.drop (rdS l p 0).2.1 = R := by
  obtain ⟨a1, a2⟩ := intP_vr (m := 64) hl (by omega) (by omega)
  have := rdK_back a2 hx xs.length (Nat.le_refl _)
  unfold rdS
  rw [a1]
  simpa [spB] using this
theorem fixP_be {l R : List Nat} {p x : Nat} (hl : l.drop p = be x 4 ++ R) (hx : x < 4294967296) : fixP l p 0 4 = (x, p + 4, 0) := by
  unfold fixP
  have ht : (be x 4 ++ R).take (4 : Int).toNat = be x 4 := by
    have : (4 : Int).toNat = (be x 4).length := by rw [be_length]; rfl
    rw [this, List.take_left]
  rw [if_pos rfl, hl, fixR_ok (by omega) (by rw [List.length_append, be_length]; omega), ht, num_be]
  simp only [Prod.mk.injEq]
  exact ⟨by omega, rfl, trivial⟩
theorem txtP_tx {l R : List Nat} {p : Nat} {s : ByteArray} (hl : l.drop p = tx s ++ R) (hs : s.size ≤ 512) : (txtP l p 0 512).1 = bs s ∧ (txtP l p 0 512).2.2 = 0 := by
  unfold txtP
  have hi : intR (l.drop p) 512 = (s.size, size s.size, 0) := by
    rw [hl, tx, List.append_assoc, intR_ok (by rw [few_vr 12 _ (by omega)]; simp only; omega), few_vr 12 _ (by omega)]
  have hd : (l.drop p).drop (size s.size) = bs s ++ R := by
    rw [hl, tx, List.append_assoc, ← vr_length, List.drop_left]
  have hle : (l.drop p).length = size s.size + (s.size + R.length) := by
    rw [hl, tx]
    simp only [List.length_append, vr_length, bs_length]
    omega
  rw [if_pos rfl, txtR_ok (by rw [hi]) (by rw [hi, hle]; simp only; omega), hi]
  simp only
  refine ⟨?_, trivial⟩
  rw [hd, ← bs_length, List.take_left]
/-- What is of such a record without its data. -/
def bare (r : Rc) : Rc := ⟨r.ep, r.nu, r.ki, r.sp, ⟨#[]⟩, r.tx⟩
theorem empty_tx {s : ByteArray} (h : s.size = 0) : s = ⟨#[]⟩ := bs_inj (by
  have : (bs s).length = 0 := by rw [bs_length, h]
  rw [List.length_eq_zero_iff.1 this]
  rfl)
theorem rdB_back {r : Rc} {sum : Nat} {R : List Nat} (h : hB r = 0) (hs : sum < 4294967296) (h0 : r.ki ≠ 1 → sum = 0) : rdB (body r sum ++ R) = (bare r, sum, 0) := by
  obtain ⟨h1, h2, h3, h4, h5⟩ := hB_ok h
  have hk : 1 ≤ r.ki ∧ r.ki ≤ 3 := by omega
  generalize hl : body r sum ++ R = l
  have e0 : l.drop 0 = vr r.ep.toNat ++ (vr r.nu.toNat ++ (vr r.ki.toNat ++ (kd r sum ++ R))) := by rw [← hl, body]; simp
  obtain ⟨a1, a2⟩ := intP_vr (m := 4294967295) e0 (by omega) (by omega)
  obtain ⟨b1, b2⟩ := intP_vr (m := 1099511627775) a2 (by omega) (by omega)
  obtain ⟨c1, c2⟩ := intP_vr (m := 3) b2 (by omega) (by omega)
  clear hl
  simp only [rdB, rd3, a1, b1, c1]
  have z1 : ((r.ep.toNat : Nat) : Int) = r.ep := by omega
  have z2 : ((r.nu.toNat : Nat) : Int) = r.nu := by omega
  have z3 : ((r.ki.toNat : Nat) : Int) = r.ki := by omega
  rw [z1, z2, z3]
  generalize 0 + size r.ep.toNat + size r.nu.toNat + size r.ki.toNat = p at c2 ⊢
  rcases h5 with h5 | h5 | h5
  · obtain ⟨k, t0, n1, n2, al, _⟩ := h5
    rw [kd, if_neg (by omega), if_pos k, List.append_assoc, List.append_assoc] at c2
    obtain ⟨d1, d2, d3⟩ := rdS_back c2 al n2
    have f := fixP_be d3 hs
    rw [show r.ki.toNat = 1 by omega]
    simp only [rdX, if_pos, d2, f, d1, bare, empty_tx t0]
    rw [Nat.mod_eq_of_lt hs]
  · obtain ⟨k, t0, n1, n2, al⟩ := h5
    rw [kd, if_neg (by omega), if_neg (by omega), List.append_nil, List.append_assoc] at c2
    obtain ⟨d1, d2, d3⟩ := rdS_back c2 al n2
    rw [show r.ki.toNat = 2 by omega]
    simp only [rdX, d1, bare, empty_tx t0, h0 (by omega)]
    simp [d2]
  · obtain ⟨k, n0, t1⟩ := h5
    rw [kd, if_pos k] at c2
    obtain ⟨d1, d2⟩ := txtP_tx c2 t1
    rw [show r.ki.toNat = 3 by omega]
    simp only [rdX, d1, bare, h0 (by omega), str_bs, List.length_eq_zero_iff.1 n0]
    simp [d2]
end Re
end Go.Proofs.YtnpbgjafahhadaaDoor
