/- Lists of entries by rising numbers, and how a map reads as one. -/
import Derived.Maps.Ext
import Derived.Maps.OwnSet
import Derived.WalkKit
namespace Go.Proofs.Ytgdfmoehbgmfkaa
open Go.RowKit
namespace Li
open Go.Maps
variable {β : Type}
abbrev Al (β : Type) := List (Int × β)
def getA (l : Al β) (k : Int) : Option β := (l.find? (fun p => p.1 == k)).map (·.2)
def putA : Al β → Int → β → Al β
  | [], k, v => [(k, v)]
  | p :: r, k, v => if k < p.1 then (k, v) :: p :: r else if k = p.1 then (k, v) :: r else p :: putA r k v
def delA (l : Al β) (k : Int) : Al β := l.filter (fun p => p.1 != k)
def Ris (l : Al β) : Prop := l.Pairwise (fun p q => p.1 < q.1)

theorem getA_nil (k : Int) : getA ([] : Al β) k = none := rfl
theorem getA_cons (p : Int × β) (l : Al β) (k : Int) : getA (p :: l) k = if p.1 = k then some p.2 else getA l k := by
  unfold getA
  by_cases h : p.1 = k
  · simp [h]
  · have : (p.1 == k) = false := by simpa using h
    simp [this, h]
theorem getA_mem {l : Al β} {k : Int} {v : β} (h : getA l k = some v) : (k, v) ∈ l := by
  induction l with
  | nil => cases h
  | cons p r ih =>
    rw [getA_cons] at h
    by_cases e : p.1 = k
    · rw [if_pos e] at h; cases h; subst e; simp
    · rw [if_neg e] at h; exact List.mem_cons_of_mem _ (ih h)
theorem getA_of_mem {l : Al β} (hr : Ris l) {k : Int} {v : β} (h : (k, v) ∈ l) : getA l k = some v := by
  induction l with
  | nil => cases h
  | cons p r ih =>
    rw [getA_cons]
    have hp := List.pairwise_cons.1 hr
    rcases List.mem_cons.1 h with e | e
    · subst e; simp
    · have := hp.1 _ e
      rw [if_neg (by simp only at this; omega)]
      exact ih hp.2 e
theorem getA_none {l : Al β} {k : Int} : getA l k = none ↔ ∀ p ∈ l, p.1 ≠ k := by
  induction l with
  | nil => simp [getA]
  | cons p r ih =>
    rw [getA_cons]
    by_cases e : p.1 = k
    · simp [e]
    · simp [e, ih]
theorem getA_put_same (l : Al β) (k : Int) (v : β) : getA (putA l k v) k = some v := by
  induction l with
  | nil => simp [putA, getA_cons]
  | cons p r ih =>
    unfold putA
    split
    · simp [getA_cons]
    · split
      · simp [getA_cons]
      · rw [getA_cons, if_neg (by omega)]; exact ih
theorem getA_put_other (l : Al β) {k j : Int} (v : β) (h : j ≠ k) : getA (putA l k v) j = getA l j := by
  induction l with
  | nil => simp only [putA, getA_cons]; rw [if_neg (by omega)]
  | cons p r ih =>
    unfold putA
    split
    · simp only [getA_cons]; rw [if_neg (by omega)]
    · split
      · simp only [getA_cons]; rw [if_neg (by omega), if_neg (by omega)]
      · simp only [getA_cons, ih]
theorem getA_put (l : Al β) (k j : Int) (v : β) : getA (putA l k v) j = if j = k then some v else getA l j := by
  by_cases h : j = k
  · subst h; rw [getA_put_same, if_pos rfl]
  · rw [getA_put_other l v h, if_neg h]
theorem getA_del (l : Al β) (k j : Int) : getA (delA l k) j = if j = k then none else getA l j := by
  induction l with
  | nil => simp [delA, getA]
  | cons p r ih =>
    have hd : delA (p :: r) k = if p.1 = k then delA r k else p :: delA r k := by
      by_cases e : p.1 = k
      · simp [delA, e]
      · simp [delA, e]
    rw [hd]
    by_cases e : p.1 = k
    · rw [if_pos e, ih, getA_cons]
      by_cases ej : j = k
      · simp [ej]
      · rw [if_neg ej, if_neg ej, if_neg (by omega)]
    · rw [if_neg e, getA_cons, getA_cons, ih]
      by_cases ej : j = k
      · subst ej; simp [e]
      · simp [ej]
theorem putA_keys (l : Al β) (k : Int) (v : β) (q : Int × β) (h : q ∈ putA l k v) : q.1 = k ∨ q ∈ l := by
  induction l with
  | nil => simp [putA] at h; exact .inl (by rw [h])
  | cons p r ih =>
    unfold putA at h
    split at h
    · rcases List.mem_cons.1 h with e | e
      · exact .inl (by rw [e])
      · exact .inr e
    · split at h
      · rcases List.mem_cons.1 h with e | e
        · exact .inl (by rw [e])
        · exact .inr (List.mem_cons_of_mem _ e)
      · rcases List.mem_cons.1 h with e | e
        · exact .inr (by rw [e]; simp)
        · exact (ih e).elim .inl (fun x => .inr (List.mem_cons_of_mem _ x))
theorem Ris.put {l : Al β} (h : Ris l) (k : Int) (v : β) : Ris (putA l k v) := by
  induction l with
  | nil => simp [putA, Ris]
  | cons p r ih =>
    have hp := List.pairwise_cons.1 h
    unfold putA
    split
    · rename_i hk
      refine List.pairwise_cons.2 ⟨fun q hq => ?_, h⟩
      rcases List.mem_cons.1 hq with e | e
      · rw [e]; exact hk
      · have := hp.1 q e; show k < q.1; omega
    · split
      · rename_i h1 h2
        refine List.pairwise_cons.2 ⟨fun q hq => ?_, hp.2⟩
        have := hp.1 q hq; show k < q.1; omega
      · rename_i h1 h2
        refine List.pairwise_cons.2 ⟨fun q hq => ?_, ih hp.2⟩
        rcases putA_keys r k v q hq with e | e
        · omega
        · exact hp.1 q e
theorem Ris.del {l : Al β} (h : Ris l) (k : Int) : Ris (delA l k) := List.Pairwise.filter _ h
theorem Ris.tail {p : Int × β} {l : Al β} (h : Ris (p :: l)) : Ris l := (List.pairwise_cons.1 h).2
theorem ris_nil : Ris ([] : Al β) := List.Pairwise.nil
theorem putA_length_le (l : Al β) (k : Int) (v : β) : (putA l k v).length ≤ l.length + 1 := by
  induction l with
  | nil => simp [putA]
  | cons p r ih => unfold putA; split <;> (try split) <;> simp <;> omega
theorem putA_length (l : Al β) (hr : Ris l) (k : Int) (v : β) : (putA l k v).length = if (getA l k).isSome then l.length else l.length + 1 := by
  induction l with
  | nil => simp [putA, getA]
  | cons p r ih =>
    have hp := List.pairwise_cons.1 hr
    rw [getA_cons]
    unfold putA
    by_cases e : p.1 = k
    · subst e; simp
    · rw [if_neg e]
      by_cases hk : k < p.1
      · have hn : getA r k = none := getA_none.2 fun q hq => by have := hp.1 q hq; omega
        simp [hk, hn]
      · rw [if_neg hk, if_neg (fun x => e x.symm), List.length_cons, ih hp.2]
        split <;> simp_all
theorem delA_length_le (l : Al β) (k : Int) : (delA l k).length ≤ l.length := List.length_filter_le _ _
/-- Two rising lists that tell the same of each number are one. -/
theorem Ris.ext {l m : Al β} (hl : Ris l) (hm : Ris m) (h : ∀ k, getA l k = getA m k) : l = m := by
  induction l generalizing m with
  | nil =>
    cases m with
    | nil => rfl
    | cons q s => have := h q.1; rw [getA_cons, if_pos rfl] at this; cases this
  | cons p r ih =>
    cases m with
    | nil => have := h p.1; rw [getA_cons, if_pos rfl] at this; cases this
    | cons q s =>
      have hp := List.pairwise_cons.1 hl
      have hq := List.pairwise_cons.1 hm
      have e : p.1 = q.1 := by
        have h1 := h p.1
        have h2 := h q.1
        rw [getA_cons, getA_cons, if_pos rfl] at h1
        rw [getA_cons, getA_cons, if_pos rfl] at h2
        by_cases e : p.1 = q.1
        · exact e
        · rw [if_neg (fun x => e x.symm)] at h1
          rw [if_neg e] at h2
          have m1 := hq.1 _ (getA_mem h1.symm)
          have m2 := hp.1 _ (getA_mem h2)
          simp only at m1 m2; omega
      have e2 : p = q := by
        have h1 := h p.1
        rw [getA_cons, getA_cons, if_pos rfl, if_pos e.symm] at h1
        exact Prod.ext e (Option.some.inj h1)
      subst e2
      congr 1
      refine ih hp.2 hq.2 fun k => ?_
      have hk := h k
      rw [getA_cons, getA_cons] at hk
      by_cases ek : p.1 = k
      · have n1 : getA r k = none := getA_none.2 fun x hx => by have := hp.1 x hx; omega
        have n2 : getA s k = none := getA_none.2 fun x hx => by have := hq.1 x hx; omega
        rw [n1, n2]
      · rwa [if_neg ek, if_neg ek] at hk

/-! ### as a map reads -/
variable {H : Type}
def mapG (dv : Int → β → DataW H) (l : Al β) : DataW H := .map (l.map fun p => (Lit.int .i64 p.1, dv p.1 p.2))
theorem size_mapG (dv : Int → β → DataW H) (l : Al β) : Maps.size (mapG dv l) = l.length := by simp [mapG, Maps.size]
theorem same_int (a b : Int) : (Lit.int .i64 a).sameKey (.int .i64 b) = (a == b) := by
  unfold Lit.sameKey
  by_cases h : a = b
  · simp [h]
  · simp [h]
theorem before_int (a b : Int) : (Lit.int .i64 a).before (.int .i64 b) = decide (a < b) := rfl
theorem has_mapG (dv : Int → β → DataW H) (l : Al β) (k : Int) : Maps.has (mapG dv l) (.int .i64 k) = (getA l k).isSome := by
  induction l with
  | nil => rfl
  | cons p r ih =>
    have : Maps.has (mapG dv (p :: r)) (.int .i64 k) = ((p.1 == k) || Maps.has (mapG dv r) (.int .i64 k)) := by
      simp [mapG, Maps.has, same_int]
    rw [this, ih, getA_cons]
    by_cases e : p.1 = k
    · simp [e]
    · simp [e]
theorem at_mapG (dv : Int → β → DataW H) (l : Al β) (k : Int) (z : DataW H) : (mapG dv l).atKey (.int .i64 k) z = ((getA l k).map (dv k)).getD z := by
  induction l with
  | nil => simp [mapG, DataW.atKey, getA]
  | cons p r ih =>
    have : (mapG dv (p :: r)).atKey (.int .i64 k) z = if p.1 == k then dv p.1 p.2 else (mapG dv r).atKey (.int .i64 k) z := by
      simp only [mapG, DataW.atKey, List.map_cons, List.find?_cons, same_int]
      by_cases e : p.1 = k
      · simp [e]
      · have : (p.1 == k) = false := by simpa using e
        simp [this]
    rw [this, ih, getA_cons]
    by_cases e : p.1 = k
    · subst e; simp
    · have : (p.1 == k) = false := by simpa using e
      simp [this, e]
theorem insert_mapG (dv : Int → β → DataW H) (k : Int) (v : β) : ∀ l : Al β, Ris l → DataW.insert (Lit.int .i64 k, dv k v) ((l.map fun p => (Lit.int .i64 p.1, dv p.1 p.2)).filter fun p => !p.1.sameKey (.int .i64 k)) = (putA l k v).map fun p => (Lit.int .i64 p.1, dv p.1 p.2)
  | [], _ => by simp [putA, DataW.insert]
  | p :: r, hr => by
    have hp := List.pairwise_cons.1 hr
    have ih := insert_mapG dv k v r hp.2
    unfold putA
    by_cases h1 : k < p.1
    · rw [if_pos h1]
      have hf : ((p :: r).map fun p => (Lit.int .i64 p.1, dv p.1 p.2)).filter (fun p => !p.1.sameKey (.int .i64 k)) = (p :: r).map fun p => (Lit.int .i64 p.1, dv p.1 p.2) := by
        rw [List.filter_eq_self]
        intro q hq
        obtain ⟨x, hx, rfl⟩ := List.mem_map.1 hq
        have : x.1 ≠ k := by
          rcases List.mem_cons.1 hx with e | e
          · rw [e]; omega
          · have := hp.1 x e; omega
        simp [same_int, this]
      rw [hf]
      simp [DataW.insert, before_int, h1]
    · rw [if_neg h1]
      by_cases h2 : k = p.1
      · rw [if_pos h2]
        have hf : ((p :: r).map fun p => (Lit.int .i64 p.1, dv p.1 p.2)).filter (fun p => !p.1.sameKey (.int .i64 k)) = r.map fun p => (Lit.int .i64 p.1, dv p.1 p.2) := by
          rw [List.map_cons, List.filter_cons]
          simp only [same_int, h2, beq_self_eq_true, Bool.not_true, Bool.false_eq_true, if_false]
          rw [List.filter_eq_self]
          intro q hq
          obtain ⟨x, hx, rfl⟩ := List.mem_map.1 hq
          have := hp.1 x hx
          have : x.1 ≠ p.1 := by omega
          simp [same_int, this]
        rw [hf]
        cases r with
        | nil => simp [DataW.insert]
        | cons q s =>
          have := hp.1 q (by simp)
          simp [DataW.insert, before_int]
          omega
      · rw [if_neg h2, List.map_cons, List.filter_cons]
        have : (!(Lit.int .i64 p.1).sameKey (.int .i64 k)) = true := by simp [same_int]; omega
        simp only [this, if_true]
        rw [DataW.insert]
        simp only [before_int, h1, decide_false, Bool.false_eq_true, if_false]
        rw [ih]
        simp
theorem put_mapG (dv : Int → β → DataW H) (l : Al β) (hr : Ris l) (k : Int) (v : β) : (mapG dv l).put (.int .i64 k) (dv k v) = mapG dv (putA l k v) := by
  show DataW.map _ = _
  rw [insert_mapG dv k v l hr]
  rfl
theorem del_mapG (dv : Int → β → DataW H) (l : Al β) (k : Int) : (mapG dv l).del (.int .i64 k) = mapG dv (delA l k) := by
  show DataW.map _ = DataW.map _
  congr 1
  unfold delA
  rw [List.filter_map]
  congr 1
  refine List.filter_congr fun p _ => ?_
  simp [same_int, bne]
theorem mapG_nil (dv : Int → β → DataW H) : mapG dv ([] : Al β) = .map [] := rfl
end Li
end Go.Proofs.Ytgdfmoehbgmfkaa
