/- What Change makes of rows, as lists. -/
import Derived.Test.YtgdfmoehbgmfkaaNb
import Derived.Test.YtgdfmoehbgmfkaaLn
namespace Go.Proofs.Ytgdfmoehbgmfkaa
open Go.RowKit
namespace Li
open Wi
/-- What is counted, less what is counted elsewhere, one by one. -/
def subA (G ps : Al Int) : Al Int := ps.foldl (fun m p => putA m p.1 ((getA m p.1).getD 0 - p.2)) G
theorem subA_nil (G : Al Int) : subA G [] = G := rfl
theorem subA_cons (G ps : Al Int) (p : Int × Int) : subA G (p :: ps) = subA (putA G p.1 ((getA G p.1).getD 0 - p.2)) ps := rfl
theorem subA_snoc (G ps : Al Int) (p : Int × Int) : subA G (ps ++ [p]) = putA (subA G ps) p.1 ((getA (subA G ps) p.1).getD 0 - p.2) := by simp [subA, List.foldl_append]
theorem Ris.subA : ∀ (ps G : Al Int), Ris G → Ris (subA G ps)
  | [], _, h => h
  | p :: r, _, h => Ris.subA r _ (h.put p.1 _)
theorem getA_subA : ∀ (ps G : Al Int) (k : Int), ps.Pairwise (fun p q => p.1 ≠ q.1) → getA (subA G ps) k = match getA ps k with | some v => some ((getA G k).getD 0 - v) | none => getA G k
  | [], _, _, _ => rfl
  | p :: r, G, k, h => by
    have hp := List.pairwise_cons.1 h
    rw [subA_cons, getA_subA r _ k hp.2, getA_cons]
    by_cases e : p.1 = k
    · subst e
      have hn : getA r p.1 = none := getA_none.2 fun q hq => (hp.1 q hq).symm
      rw [hn, if_pos rfl]
      exact getA_put_same ..
    · rw [if_neg e, getA_put_other _ _ (fun h => e h.symm)]
theorem subA_perm {G ps qs : Al Int} (hr : Ris G) (hn : ps.Pairwise (fun p q => p.1 ≠ q.1)) (hp : List.Perm ps qs) : subA G ps = subA G qs := by
  have hn2 := hp.pairwise hn (fun h e => h e.symm)
  refine Ris.ext (Ris.subA ps G hr) (Ris.subA qs G hr) fun k => ?_
  rw [getA_subA ps G k hn, getA_subA qs G k hn2, getA_perm hn hp k]
theorem subA_length : ∀ (ps G : Al Int), (subA G ps).length ≤ G.length + ps.length
  | [], _ => by simp [subA_nil]
  | p :: r, G => by
    have h1 := subA_length r (putA G p.1 ((getA G p.1).getD 0 - p.2))
    have h2 := putA_length_le G p.1 ((getA G p.1).getD 0 - p.2)
    rw [subA_cons, List.length_cons]
    omega
/-- A row that is changed. -/
def chgR (rs : Rows) (p : Int × Int) : Ro := (p.1, (((getA rs p.1).getD (0, 0)).1, ((getA rs p.1).getD (0, 0)).2 + p.2))
def chgE (rs : Rows) (G : Al Int) : Int := if G.any (fun p => (getA rs p.1).isNone) then 15 else if (G.map (chgR rs)).all mayRo then 0 else 31
def chgT (rs : Rows) (G : Al Int) : Rows := if chgE rs G = 0 then putAll rs (G.map (chgR rs)) else rs
theorem chgT_may {rs : Rows} {G : Al Int} (hr : ∀ x ∈ rs, mayRo x = true) (hris : Ris rs) (hG : Ris G) : ∀ x ∈ chgT rs G, mayRo x = true := by
  intro x hx
  unfold chgT at hx
  by_cases h : chgE rs G = 0
  · rw [if_pos h] at hx
    have hall : (G.map (chgR rs)).all mayRo = true := by
      unfold chgE at h
      split at h
      · cases h
      · split at h
        · assumption
        · cases h
    have hd : (G.map (chgR rs)).Pairwise (fun p q => p.1 ≠ q.1) := List.pairwise_map.2 hG.ne
    have hgx := getA_of_mem (hris.putAll _) (k := x.1) (v := x.2) hx
    rw [getA_putAll _ rs x.1 hd] at hgx
    cases hc : getA (G.map (chgR rs)) x.1 with
    | some v =>
      rw [hc] at hgx
      have hv : v = x.2 := by simpa using hgx
      have := List.all_eq_true.1 hall _ (getA_mem hc)
      rwa [hv] at this
    | none =>
      rw [hc] at hgx
      exact hr _ (getA_mem (v := x.2) (by simpa using hgx))
  · rw [if_neg h] at hx
    exact hr x hx
/-- An entry that comes in a range over a map of ints. -/
theorem came2 {rs ps rest : Al Int} (hris : Ris rs) (hC : List.Perm (ps ++ rest) rs) {left : Lit → Bool} (hlk0 : ∀ k, left (.int .i64 k) = (getA rest k).isSome) {x : Int} (hlk : left (.int .i64 x) = true) {v0 : Int}
    (hat : ∀ zd, (mapG iD rs).atKey (.int .i64 x) zd = .lit (.int .i64 v0)) : List.Perm ((ps ++ [(x, v0)]) ++ delA rest x) rs ∧ (∀ k, (left (.int .i64 k) && !(Lit.int .i64 k).sameKey (.int .i64 x)) = (getA (delA rest x) k).isSome) ∧ getA ps x = none := by
  have h := came (dv := fun k v => (DataW.agg [.lit (.int .i64 k), .lit (.int .i64 v)] : DataW Unit)) (fun k k' v v' e => by
    injection e with e
    injection e with e1 e2
    injection e1 with e1
    injection e1 with _ e1
    injection e2 with e2 _
    injection e2 with e2
    injection e2 with _ e2
    exact ⟨e1, e2⟩) (k0 := x) (v0 := v0) hris hC hlk0 hlk (fun zd => ?_)
  · exact h.2
  · have h1 := hat .nil
    rw [at_mapG] at h1 ⊢
    cases hg : getA rs x with
    | none => rw [hg] at h1; cases h1
    | some v =>
      rw [hg] at h1
      have h2 : (DataW.lit (.int .i64 v) : DataW Unit) = .lit (.int .i64 v0) := h1
      injection h2 with h2
      injection h2 with _ h2
      rw [h2]
      rfl
end Li
end Go.Proofs.Ytgdfmoehbgmfkaa
