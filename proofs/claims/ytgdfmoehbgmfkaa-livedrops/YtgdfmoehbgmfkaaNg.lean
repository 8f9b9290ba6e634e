/- What Change makes of rows, as the document has it: lists. -/
import Derived.Test.YtgdfmoehbgmfkaaNf
namespace Go.Proofs.Ytgdfmoehbgmfkaa
open Go.RowKit
namespace Li
open Wi
/-- A row that is changed, as the document has it. -/
def docR (G F : Al Int) (r : Ro) : Ro := (r.1, (r.2.1, r.2.2 + (getA G r.1).getD 0 - (getA F r.1).getD 0))
theorem getA_subD {F : Al Int} (G : Al Int) (hF : Ris F) (k : Int) : (getA (subA G F) k).getD 0 = (getA G k).getD 0 - (getA F k).getD 0 := by
  rw [getA_subA F G k hF.ne]
  cases getA F k with
  | some v => simp
  | none => simp
theorem getA_subN {F : Al Int} (G : Al Int) (hF : Ris F) (k : Int) : getA (subA G F) k = none ↔ getA G k = none ∧ getA F k = none := by
  rw [getA_subA F G k hF.ne]
  cases getA F k with
  | some v => simp
  | none => simp
theorem getA_docR (G F : Al Int) : ∀ (qs : Rows) (k : Int), getA (qs.map (docR G F)) k = (getA qs k).map fun p => (p.1, p.2 + (getA G k).getD 0 - (getA F k).getD 0)
  | [], _ => rfl
  | p :: r, k => by
    rw [List.map_cons, getA_cons, getA_cons, getA_docR G F r k]
    show (if p.1 = k then _ else _) = _
    by_cases e : p.1 = k
    · subst e; rw [if_pos rfl, if_pos rfl]; rfl
    · rw [if_neg e, if_neg e]
theorem ris_docR {G F : Al Int} {qs : Rows} (h : Ris qs) : Ris (qs.map (docR G F)) := List.pairwise_map.2 h
theorem getA_chgR (rs : Rows) : ∀ (M : Al Int) (k : Int), getA (M.map (chgR rs)) k = (getA M k).map fun v => (((getA rs k).getD (0, 0)).1, ((getA rs k).getD (0, 0)).2 + v)
  | [], _ => rfl
  | p :: r, k => by
    rw [List.map_cons, getA_cons, getA_cons, getA_chgR rs r k]
    show (if p.1 = k then _ else _) = _
    by_cases e : p.1 = k
    · subst e; rw [if_pos rfl, if_pos rfl]; rfl
    · rw [if_neg e, if_neg e]
/-- Where all objects are there, both say the same. -/
theorem doc_put {G F : Al Int} {qs : Rows} (hq : Ris qs) (hG : Ris G) (hF : Ris F) (hall : ∀ p ∈ subA G F, (getA qs p.1).isSome = true) : qs.map (docR G F) = putAll qs ((subA G F).map (chgR qs)) := by
  have hM : Ris (subA G F) := Ris.subA F G hG
  refine Ris.ext (ris_docR hq) (hq.putAll _) fun k => ?_
  rw [getA_docR, getA_putAll _ qs k (pw_chg hM.ne), getA_chgR]
  cases hm : getA (subA G F) k with
  | some v =>
    have h1 := hall _ (getA_mem hm)
    simp only at h1
    cases hg : getA qs k with
    | none => rw [hg] at h1; cases h1
    | some p =>
      have h2 := getA_subD G hF k
      rw [hm] at h2
      have h2 : v = (getA G k).getD 0 - (getA F k).getD 0 := h2
      simp [h2]
      omega
  | none =>
    have h2 := (getA_subN G hF k).1 hm
    rw [h2.1, h2.2]
    cases getA qs k with
    | none => rfl
    | some p => simp
theorem doc_may {G F : Al Int} {qs : Rows} (hq : Ris qs) (hmay : ∀ x ∈ qs, mayRo x = true) (hG : Ris G) (hF : Ris F) (hall : ∀ p ∈ subA G F, (getA qs p.1).isSome = true) : ((subA G F).map (chgR qs)).all mayRo = (qs.map (docR G F)).all mayRo := by
  have hM : Ris (subA G F) := Ris.subA F G hG
  rw [doc_put hq hG hF hall, Bool.eq_iff_iff, List.all_eq_true, List.all_eq_true]
  constructor
  · intro h x hx
    have h1 := getA_of_mem (hq.putAll _) (k := x.1) (v := x.2) hx
    rw [getA_putAll _ qs x.1 (pw_chg hM.ne)] at h1
    cases hc : getA ((subA G F).map (chgR qs)) x.1 with
    | some v =>
      rw [hc] at h1
      have hv : v = x.2 := by simpa using h1
      have := h _ (getA_mem hc)
      rwa [hv] at this
    | none =>
      rw [hc] at h1
      exact hmay _ (getA_mem (v := x.2) (by simpa using h1))
  · intro h x hx
    refine h x ?_
    have h1 := getA_mem_ne (pw_chg (rs := qs) hM.ne) (k := x.1) (v := x.2) hx
    have h2 : getA (putAll qs ((subA G F).map (chgR qs))) x.1 = some x.2 := by
      rw [getA_putAll _ qs x.1 (pw_chg hM.ne), h1]; rfl
    exact getA_mem h2
theorem chgE_miss {qs : Rows} {G F : Al Int} {k : Int} (hF : Ris F) (hk : getA G k ≠ none ∨ getA F k ≠ none) (hn : getA qs k = none) : chgE qs (subA G F) = 15 := by
  unfold chgE
  rw [if_pos]
  rw [List.any_eq_true]
  cases hm : getA (subA G F) k with
  | none =>
    have h2 := (getA_subN G hF k).1 hm
    rcases hk with h | h
    · exact absurd h2.1 h
    · exact absurd h2.2 h
  | some v => exact ⟨(k, v), getA_mem hm, by simp [hn]⟩
theorem all_there {qs : Rows} {G F : Al Int} (hG : Ris G) (hF : Ris F) (h1 : ∀ p ∈ G, (getA qs p.1).isSome = true) (h2 : ∀ p ∈ F, (getA qs p.1).isSome = true) : ∀ p ∈ subA G F, (getA qs p.1).isSome = true := by
  intro p hp
  have h3 := getA_of_mem (Ris.subA F G hG) (k := p.1) (v := p.2) hp
  cases hg : getA G p.1 with
  | some v => exact h1 (p.1, v) (getA_mem hg)
  | none =>
    cases hf : getA F p.1 with
    | some v => exact h2 (p.1, v) (getA_mem hf)
    | none => rw [(getA_subN G hF p.1).2 ⟨hg, hf⟩] at h3; cases h3
theorem chg_rng {qs : Rows} {G F : Al Int} (hq : Ris qs) (hmay : ∀ x ∈ qs, mayRo x = true) (hG : Ris G) (hF : Ris F) (hall : ∀ p ∈ subA G F, (getA qs p.1).isSome = true) {x : Ro} (hx : x ∈ qs) (hno : mayRo (docR G F x) = false) : chgE qs (subA G F) = 31 := by
  unfold chgE
  rw [if_neg, doc_may hq hmay hG hF hall, if_neg]
  · intro h
    have := List.all_eq_true.1 h _ (List.mem_map_of_mem hx)
    rw [hno] at this; cases this
  · intro h
    rw [List.any_eq_true] at h
    obtain ⟨p, hp, hn⟩ := h
    have := hall p hp
    cases hg : getA qs p.1 with
    | none => rw [hg] at this; cases this
    | some v => rw [hg] at hn; cases hn
theorem chg_ok {qs : Rows} {G F : Al Int} (hq : Ris qs) (hmay : ∀ x ∈ qs, mayRo x = true) (hG : Ris G) (hF : Ris F) (hall : ∀ p ∈ subA G F, (getA qs p.1).isSome = true) (hy : ∀ x ∈ qs, mayRo (docR G F x) = true) : chgE qs (subA G F) = 0 ∧ chgT qs (subA G F) = qs.map (docR G F) := by
  have h0 : chgE qs (subA G F) = 0 := by
    unfold chgE
    rw [if_neg, doc_may hq hmay hG hF hall, if_pos]
    · rw [List.all_eq_true]
      intro y hy2
      obtain ⟨x, hx, rfl⟩ := List.mem_map.1 hy2
      exact hy x hx
    · intro h
      rw [List.any_eq_true] at h
      obtain ⟨p, hp, hn⟩ := h
      have := hall p hp
      cases hg : getA qs p.1 with
      | none => rw [hg] at this; cases this
      | some v => rw [hg] at hn; cases hn
  exact ⟨h0, by unfold chgT; rw [if_pos h0, doc_put hq hG hF hall]⟩
theorem chgT_no {qs : Rows} {M : Al Int} (h : chgE qs M ≠ 0) : chgT qs M = qs := by unfold chgT; rw [if_neg h]
theorem cntR_find {m : Al Int} {k : Int} (h : ∀ (i : Nat) (x : Ro), (cntR m)[i]? = some x → x.1 ≠ k) : getA m k = none := getA_none.2 fun p hp => by
  obtain ⟨j, hj, rfl⟩ := List.mem_iff_getElem.1 hp
  have hjm : m[j]? = some m[j] := List.getElem?_eq_getElem hj
  exact h j (m[j].1, m[j].2, m[j].2) (by unfold cntR; rw [List.getElem?_map, hjm]; rfl)
theorem cntR_found {m : Al Int} {k : Int} {i : Nat} {y : Ro} (hr : Ris m) (h : (cntR m)[i]? = some y) (hk : y.1 = k) : getA m k = some y.2.2 ∧ y = (k, y.2.2, y.2.2) := by
  obtain ⟨h1, h2⟩ := cntR_get h
  subst hk
  exact ⟨by rw [h2]; exact getA_of_mem hr (List.mem_of_getElem? h1), Prod.ext rfl (Prod.ext h2.symm rfl)⟩
end Li
end Go.Proofs.Ytgdfmoehbgmfkaa
