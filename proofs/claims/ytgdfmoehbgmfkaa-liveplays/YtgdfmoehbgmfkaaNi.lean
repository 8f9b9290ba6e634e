/- The document's victims, as lists. -/
import Derived.Test.YtgdfmoehbgmfkaaPt
import Derived.Test.YtgdfmoehbgmfkaaNh
namespace Go.Proofs.Ytgdfmoehbgmfkaa
open Go.RowKit
namespace Li
open Wi
def lessR (a b : Ro) : Bool := decide (a.2.2 * b.2.1 < b.2.2 * a.2.1) || (decide (a.2.2 * b.2.1 = b.2.2 * a.2.1) && decide (a.1 < b.1))
def pickD (p : Int) (r : Ro) : Bool := decide (r.2.2 * 100 < p * r.2.1)
/-- Rows with one more, the lesser parts first. -/
def insD (out : List Ro) (r : Ro) : List Ro := out.takeWhile (fun x => lessR x r) ++ r :: out.dropWhile (fun x => lessR x r)
def docV (p : Int) (rs : List Ro) : List Ro := (rs.filter (pickD p)).foldl insD []
theorem pick_same {p q : Int} (hq : q = max 0 (min p 101)) {r : Ro} (h : mayRo r = true) : pickD p r = pick q r := by
  obtain ⟨h1, h2, h3, h4, h5, h6⟩ := mayR_get h
  unfold pickD pick
  rw [decide_eq_decide]
  by_cases h0 : p < 0
  · have : q = 0 := by omega
    subst this
    have h7 : p * r.2.1 ≤ 0 := Int.mul_nonpos_of_nonpos_of_nonneg (by omega) h3
    omega
  · by_cases h9 : 101 < p
    · have : q = 101 := by omega
      subst this
      have h7 : 101 * r.2.1 ≤ p * r.2.1 := Int.mul_le_mul_of_nonneg_right (by omega) h3
      constructor
      · intro _
        by_cases e : r.2.1 = 0
        · rename_i hh; rw [e] at hh; simp at hh; omega
        · omega
      · intro hh; omega
    · have : q = p := by omega
      rw [this]
theorem docV_filter {p q : Int} (hq : q = max 0 (min p 101)) {rs : List Ro} (h : ∀ x ∈ rs, mayRo x = true) : rs.filter (pickD p) = rs.filter (pick q) := List.filter_congr fun x hx => pick_same hq (h x hx)
theorem less_lo (x y : Vr) : lessR x.1 y.1 = true ↔ loV x y := by
  unfold lessR loV
  rw [Bool.or_eq_true, Bool.and_eq_true, decide_eq_true_eq, decide_eq_true_eq, decide_eq_true_eq, ltV_iff, ltV_no]
  omega
theorem lo_tot {x y : Vr} (hne : x.1.1 ≠ y.1.1) (h : ¬ loV x y) : loV y x := by
  rw [← less_lo] at h ⊢
  unfold lessR at *
  rw [Bool.or_eq_true, Bool.and_eq_true, decide_eq_true_eq, decide_eq_true_eq, decide_eq_true_eq] at *
  omega
def insV (out : List Vr) (r : Vr) : List Vr := out.takeWhile (fun x => lessR x.1 r.1) ++ r :: out.dropWhile (fun x => lessR x.1 r.1)
theorem insV_map (out : List Vr) (r : Vr) : (insV out r).map (fun x => x.1) = insD (out.map (fun x => x.1)) r.1 := by
  unfold insV insD
  rw [List.map_append, List.map_cons, List.takeWhile_map, List.dropWhile_map]
  rfl
theorem insV_fold : ∀ (l out : List Vr), (l.foldl insV out).map (fun x => x.1) = (l.map (fun x => x.1)).foldl insD (out.map (fun x => x.1))
  | [], _ => rfl
  | x :: l, out => by rw [List.foldl_cons, insV_fold l, insV_map]; rfl
theorem insV_perm (out : List Vr) (r : Vr) : (insV out r).Perm (r :: out) := by
  unfold insV
  refine List.perm_middle.trans (List.Perm.cons r ?_)
  rw [List.takeWhile_append_dropWhile]
theorem drop_first {α : Type} {p : α → Bool} : ∀ {l : List α} {x : α} {r : List α}, l.dropWhile p = x :: r → p x = false
  | [], _, _, h => by simp at h
  | y :: l, x, r, h => by
    rw [List.dropWhile_cons] at h
    split at h
    · exact drop_first h
    · next hp => injection h with h1 _; subst h1; simpa using hp
theorem insV_sorts {out : List Vr} {r : Vr} (h : out.Pairwise loV) (hne : ∀ x ∈ out, x.1.1 ≠ r.1.1) : (insV out r).Pairwise loV := by
  unfold insV
  have hsplit : out = out.takeWhile (fun x => lessR x.1 r.1) ++ out.dropWhile (fun x => lessR x.1 r.1) := List.takeWhile_append_dropWhile.symm
  have htake : ∀ x ∈ out.takeWhile (fun x => lessR x.1 r.1), loV x r := fun x hx => (less_lo x r).1 (List.all_eq_true.1 (List.all_takeWhile (p := fun x : Vr => lessR x.1 r.1) (l := out)) x hx)
  have hdrop : ∀ y ∈ out.dropWhile (fun x => lessR x.1 r.1), loV r y := by
    intro y hy
    cases hd : out.dropWhile (fun x => lessR x.1 r.1) with
    | nil => rw [hd] at hy; cases hy
    | cons z t =>
      have hz := drop_first hd
      have hzm : z ∈ out := by rw [hsplit, hd]; simp
      have hrz : loV r z := lo_tot (hne z hzm) (fun e => by rw [← less_lo, hz] at e; cases e)
      rw [hd] at hy
      rcases List.mem_cons.1 hy with e | e
      · rw [e]; exact hrz
      · have hp := h
        rw [hsplit, hd] at hp
        exact ordV.tr _ _ _ hrz ((List.pairwise_cons.1 (List.pairwise_append.1 hp).2.1).1 y e)
  rw [hsplit] at h
  obtain ⟨h1, h2, h3⟩ := List.pairwise_append.1 h
  refine List.pairwise_append.2 ⟨h1, List.pairwise_cons.2 ⟨hdrop, h2⟩, fun x hx y hy => ?_⟩
  rcases List.mem_cons.1 hy with e | e
  · rw [e]; exact htake x hx
  · exact h3 x hx y e
theorem fold_sorts : ∀ (l out : List Vr), out.Pairwise loV → (∀ x ∈ out, ∀ y ∈ l, x.1.1 ≠ y.1.1) → l.Pairwise (fun x y => x.1.1 ≠ y.1.1) → (l.foldl insV out).Pairwise loV ∧ (l.foldl insV out).Perm (out ++ l)
  | [], out, h, _, _ => ⟨h, by simp⟩
  | r :: l, out, h, hx, hl => by
    have hp := List.pairwise_cons.1 hl
    have h1 := insV_perm out r
    obtain ⟨f1, f2⟩ := fold_sorts l (insV out r) (insV_sorts h (fun x hx2 => hx x hx2 r (by simp))) (fun x hx2 y hy => by
      rcases List.mem_cons.1 (h1.mem_iff.1 hx2) with e | e
      · rw [e]; exact hp.1 y hy
      · exact hx x e y (by simp [hy])) hp.2
    refine ⟨f1, f2.trans ?_⟩
    refine (h1.append_right l).trans ?_
    exact List.perm_middle.symm
/-- The document's victims are those that Go's stable sort leaves. -/
theorem docV_is {p q : Int} (hq : q = max 0 (min p 101)) {rs : Rows} (hr : Ris rs) (hm : ∀ x ∈ rs, mayRo x = true) {d : Array Vr} (hd : d.toList.map (fun x => x.1) = rs.filter (pick q)) : docV p rs = (srtS d).toList.map (fun x => x.1) := by
  have hrise : d.toList.Pairwise (fun x y => x.1.1 < y.1.1) := by
    have h1 : (rs.filter (pick q)).Pairwise (fun x y : Ro => x.1 < y.1) := hr.sublist List.filter_sublist
    rw [← hd] at h1
    exact (List.pairwise_map (f := fun x : Vr => x.1) (R := fun x y : Ro => x.1 < y.1)).1 h1
  obtain ⟨h1, h2⟩ := stableV d.toList hrise
  have h3 := fold_sorts d.toList [] List.Pairwise.nil (fun x hx => by cases hx) (hrise.imp (fun h => by omega))
  have h4 : d.toList.foldl insV [] = stableL d.toList d.toList.length := by
    refine List.Perm.eq_of_pairwise (fun a b _ _ k1 k2 => absurd (ordV.tr _ _ _ k1 k2) (ordV.ir _)) h3.1 h2 ?_
    refine h3.2.trans ?_
    rw [List.nil_append]
    exact h1.symm
  unfold docV
  rw [docV_filter hq hm, ← hd]
  have h5 := insV_fold d.toList []
  rw [List.map_nil] at h5
  rw [← h5, h4]
  unfold srtS
  rw [Array.length_toList]
end Li
end Go.Proofs.Ytgdfmoehbgmfkaa
