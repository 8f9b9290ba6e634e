/- A Change, and back: sums of rows. -/
import Derived.Test.YtgdfmoehbgmfkaaDe
import Derived.Test.YtgdfmoehbgmfkaaNb
namespace Go.Proofs.Ytgdfmoehbgmfkaa
open Go.RowKit
namespace Li
open Wi
/-- How many sectors of objects extents have. -/
def sumN : List Ix → Int
  | [] => 0
  | x :: r => (if x.q = 0 then 0 else x.n) + sumN r
theorem sumN_snoc (x : Ix) : ∀ l : List Ix, sumN (l ++ [x]) = sumN l + (if x.q = 0 then 0 else x.n)
  | [] => by simp [sumN]
  | y :: r => by simp only [List.cons_append, sumN, sumN_snoc x r]; omega
theorem sumN_bnd : ∀ l : List Ix, (∀ x ∈ l, x.may = true) → 0 ≤ sumN l ∧ sumN l ≤ 65536 * l.length
  | [], _ => by simp [sumN]
  | x :: r, h => by
    have h1 := mayX_get (h x (List.mem_cons_self ..))
    have h2 := sumN_bnd r fun y hy => h y (List.mem_cons_of_mem _ hy)
    simp only [sumN, List.length_cons]
    split <;> omega
/-- The sum of a list of counts. -/
def sumA (m : Al Int) : Int := sumI (m.map (·.2))
theorem sumA_cons (p : Int × Int) (m : Al Int) : sumA (p :: m) = p.2 + sumA m := rfl
theorem sumA_put : ∀ (m : Al Int) (k v : Int), Ris m → sumA (putA m k v) = sumA m - (getA m k).getD 0 + v
  | [], k, v, _ => by simp [putA, sumA, sumI, getA]
  | p :: r, k, v, hr => by
    rw [getA_cons]
    unfold putA
    by_cases h1 : k < p.1
    · rw [if_pos h1, if_neg (by omega)]
      have : getA r k = none := getA_none.2 fun q hq => by
        have := (List.pairwise_cons.1 hr).1 q hq
        omega
      rw [this, sumA_cons]; simp; omega
    · rw [if_neg h1]
      by_cases h2 : k = p.1
      · rw [if_pos h2, if_pos h2.symm, sumA_cons, sumA_cons]; simp; omega
      · rw [if_neg h2, if_neg (fun e => h2 e.symm), sumA_cons, sumA_cons, sumA_put r k v hr.tail]; omega
theorem sumA_cnt : ∀ (xs : List Ix) (m : Al Int), Ris m → sumA (xs.foldl stepC m) = sumA m + sumN xs
  | [], m, _ => by simp [sumN]
  | x :: r, m, h => by
    rw [List.foldl_cons, sumA_cnt r _ (stepC_ris h x)]
    have : sumA (stepC m x) = sumA m + (if x.q = 0 then 0 else x.n) := by
      unfold stepC
      by_cases e : x.q = 0
      · rw [if_pos e, if_pos e]; omega
      · rw [if_neg e, if_neg e, sumA_put m _ _ h]; omega
    rw [this]
    simp only [sumN]; omega
theorem sumA_cntM (xs : List Ix) : sumA (cntM xs) = sumN xs := by
  have := sumA_cnt xs [] ris_nil
  rw [cntM, this]; show 0 + _ = _; omega
theorem sumA_sub : ∀ (F G : Al Int), Ris G → sumA (subA G F) = sumA G - sumA F
  | [], G, _ => by rw [subA_nil]; show _ = sumA G - 0; omega
  | p :: r, G, h => by
    rw [subA_cons, sumA_sub r _ (h.put _ _), sumA_put G _ _ h, sumA_cons]; omega
theorem sum_docR (G F : Al Int) : ∀ (rs : Rows), sumI ((rs.map (docR G F)).map (·.2.1)) = sumI (rs.map (·.2.1))
  | [] => rfl
  | p :: r => by
    have ih := sum_docR G F r
    simp only [List.map_cons, sumI] at *
    rw [ih]; rfl
/-- Sums over keys that are all there. -/
theorem sum_keys {M : Al Int} : ∀ {rs : Rows}, Ris rs → Ris M → (∀ p ∈ M, (getA rs p.1).isSome = true) → sumI (rs.map (fun r : Ro => (getA M r.1).getD 0)) = sumA M := by
  intro rs
  induction rs generalizing M with
  | nil =>
    intro _ _ h
    cases M with
    | nil => rfl
    | cons p r => have := h p (List.mem_cons_self ..); cases this
  | cons q r ih =>
    intro hr hM h
    rw [List.map_cons]
    have hrest : ∀ (N : Al Int), (∀ k, k ≠ q.1 → getA N k = getA M k) → r.map (fun x : Ro => (getA M x.1).getD 0) = r.map (fun x : Ro => (getA N x.1).getD 0) := fun N hN => List.map_congr_left fun x hx => by
      rw [hN x.1 (by have := (List.pairwise_cons.1 hr).1 x hx; omega)]
    have hN := hrest (delA M q.1) (fun k hk => by rw [getA_del, if_neg hk])
    have hd := ih (M := delA M q.1) hr.tail (hM.del _) (fun p hp => by
      have h1 := h p (delA_sub hp)
      rw [getA_cons] at h1
      by_cases e : q.1 = p.1
      · have h2 := getA_of_mem (hM.del q.1) (k := p.1) (v := p.2) hp
        rw [getA_del, if_pos e.symm] at h2; cases h2
      · rwa [if_neg e] at h1)
    show (getA M q.1).getD 0 + sumI _ = _
    rw [hN, hd]
    cases hg : getA M q.1 with
    | none => rw [delA_none hg]; simp
    | some v =>
      have h3 := sumA_put (delA M q.1) q.1 v (hM.del _)
      have h4 : putA (delA M q.1) q.1 v = M := Ris.ext ((hM.del _).put _ _) hM fun k => by
        by_cases e : k = q.1
        · subst e; rw [getA_put_same, hg]
        · rw [getA_put_other _ _ e, getA_del, if_neg e]
      rw [h4, getA_del, if_pos rfl] at h3
      simp at h3 ⊢
      omega
theorem sum_live (G F : Al Int) : ∀ (rs : Rows), sumI ((rs.map (docR G F)).map (·.2.2)) = sumI (rs.map (·.2.2)) + sumI (rs.map (fun r : Ro => (getA G r.1).getD 0 - (getA F r.1).getD 0))
  | [] => rfl
  | p :: r => by
    have ih := sum_live G F r
    simp only [List.map_cons, sumI] at *
    rw [ih]
    show p.2.2 + (getA G p.1).getD 0 - (getA F p.1).getD 0 + _ = _
    omega
/-- What a Change that goes through says. -/
theorem chE_zero {rs : Rows} {ms ls : List Ix} (h : chE rs ms ls = 0) : ms.all Ix.may = true ∧ ls.all Ix.may = true ∧ chgE rs (subA (cntM ms) (cntM ls)) = 0 := by
  unfold chE at h
  cases h1 : ms.all Ix.may with
  | false => rw [h1] at h; cases h
  | true =>
    cases h2 : ls.all Ix.may with
    | false => rw [h1, h2] at h; cases h
    | true => rw [h1, h2] at h; exact ⟨rfl, rfl, h⟩
theorem chgE_zero {rs : Rows} {M : Al Int} (h : chgE rs M = 0) : (∀ p ∈ M, (getA rs p.1).isSome = true) ∧ (M.map (chgR rs)).all mayRo = true := by
  unfold chgE at h
  split at h
  · cases h
  · next hn =>
    refine ⟨fun p hp => ?_, ?_⟩
    · cases hg : getA rs p.1 with
      | some v => rfl
      | none => exact absurd (List.any_eq_true.2 ⟨p, hp, by rw [hg]; rfl⟩) hn
    · split at h
      · assumption
      · cases h
/-- A Change that goes through: what comes of the rows, their sums, and that it goes back. -/
theorem back_facts {rs : Rows} {ms ls : List Ix} (hr : Ris rs) (hm : ∀ x ∈ rs, mayRo x = true) (h : chE rs ms ls = 0) :
    sumI ((chT rs ms ls).map (·.2.1)) = sumI (rs.map (·.2.1)) ∧ sumI ((chT rs ms ls).map (·.2.2)) = sumI (rs.map (·.2.2)) + (sumN ms - sumN ls) ∧ chE (chT rs ms ls) ls ms = 0 ∧ chT (chT rs ms ls) ls ms = rs := by
  obtain ⟨h1, h2, h3⟩ := chE_zero h
  have hG := cntM_ris ms
  have hF := cntM_ris ls
  obtain ⟨hall, _⟩ := chgE_zero h3
  have hT : chT rs ms ls = rs.map (docR (cntM ms) (cntM ls)) := by
    unfold chT
    rw [h1, h2]
    show chgT rs _ = _
    unfold chgT
    rw [if_pos h3, doc_put hr hG hF hall]
  have hC : ∀ X : Rows, chE X ls ms = chgE X (subA (cntM ls) (cntM ms)) := fun X => by unfold chE; rw [h1, h2]; rfl
  have hCT : ∀ X : Rows, chT X ls ms = chgT X (subA (cntM ls) (cntM ms)) := fun X => by unfold chT; rw [h1, h2]; rfl
  have hS1 := sumA_cntM ms
  have hS2 := sumA_cntM ls
  generalize cntM ms = G at *
  generalize cntM ls = F at *
  have hR2 : Ris (rs.map (docR G F)) := ris_docR hr
  have hback : (rs.map (docR G F)).map (docR F G) = rs := by
    rw [List.map_map]
    refine List.map_id'' (fun x => ?_) rs
    obtain ⟨a, b, c⟩ := x
    show (a, (b, c + (getA G a).getD 0 - (getA F a).getD 0 + (getA F a).getD 0 - (getA G a).getD 0)) = (a, (b, c))
    rw [show c + (getA G a).getD 0 - (getA F a).getD 0 + (getA F a).getD 0 - (getA G a).getD 0 = c by omega]
  have hmay2 : ∀ x ∈ rs.map (docR G F), mayRo x = true := by
    have := chT_facts (ms := ms) (ls := ls) hr hm
    rw [hT] at this
    exact this.2.1
  have hall2 : ∀ p ∈ subA F G, (getA (rs.map (docR G F)) p.1).isSome = true := fun p hp => by
    rw [getA_docR, Option.isSome_map]
    have h5 := getA_of_mem (Ris.subA G F hF) (k := p.1) (v := p.2) hp
    have h6 : getA (subA G F) p.1 ≠ none := fun e => by
      have h7 := (getA_subN G hF p.1).1 e
      rw [(getA_subN F hG p.1).2 ⟨h7.2, h7.1⟩] at h5; cases h5
    cases hg : getA (subA G F) p.1 with
    | none => exact absurd hg h6
    | some v => exact hall (p.1, v) (getA_mem hg)
  have hok := chg_ok (G := F) (F := G) hR2 hmay2 hF hG hall2 (fun x hx => by
    have h8 : docR F G x ∈ (rs.map (docR G F)).map (docR F G) := List.mem_map_of_mem hx
    rw [hback] at h8
    exact hm _ h8)
  refine ⟨by rw [hT]; exact sum_docR G F rs, ?_, ?_, ?_⟩
  · rw [hT, sum_live]
    have h9 : (fun r : Ro => (getA G r.1).getD 0 - (getA F r.1).getD 0) = fun r : Ro => (getA (subA G F) r.1).getD 0 := by
      funext r; rw [getA_subD G hF]
    rw [h9, sum_keys hr (Ris.subA F G hG) hall, sumA_sub F G hG, hS1, hS2]
  · rw [hT, hC]; exact hok.1
  · rw [hT, hCT, hok.2, hback]
end Li
end Go.Proofs.Ytgdfmoehbgmfkaa
