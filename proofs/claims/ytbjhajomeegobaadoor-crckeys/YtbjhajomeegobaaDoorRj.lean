/- A frame behind a region, written out. -/
import Derived.Test.YtbjhajomeegobaaDoorRh
namespace Go.Proofs.YtbjhajomeegobaaDoor
open Go.RowKit
namespace Cr

theorem frame_fold {A : Act} : ∀ (l : List Oper) (a : Act), a.defers = A.defers → a.tmps.size = A.tmps.size → (∀ d, (∀ o ∈ l, o.dst ≠ some d) → a.tmps[d]? = A.tmps[d]?) →
    l.foldl (fun a o => a.put o.dst (A.tmps.getD (o.dst.getD 0) undef)) a = A
  | [], a, hd, hs, h => by
    cases a with
    | mk t f =>
      cases A with
      | mk t' f' =>
        simp only at hd hs h
        subst hd
        have ht : t = t' := Array.ext_getElem? fun i => h i (by simp)
        subst ht
        rfl
  | o :: r, a, hd, hs, h => by
    rw [List.foldl_cons]
    apply frame_fold r
    · cases ho : o.dst <;> exact hd
    · cases ho : o.dst with
      | none => exact hs
      | some d => simp only [Act.put]; rw [Array.size_setIfInBounds]; exact hs
    · intro d hr
      cases ho : o.dst with
      | none => exact h d (by
          intro o' ho'
          rcases List.mem_cons.1 ho' with e | e
          · rw [e, ho]; simp
          · exact hr o' e)
      | some d' =>
        simp only [Act.put, Option.getD_some]
        by_cases e : d' = d
        · subst e
          rw [Array.getElem?_setIfInBounds]
          rw [if_pos rfl]
          by_cases hlt : d' < a.tmps.size
          · rw [if_pos hlt]
            have : d' < A.tmps.size := hs ▸ hlt
            simp [this]
          · rw [if_neg hlt, Array.getElem?_eq_none (Nat.le_of_not_lt (hs ▸ hlt))]
        · rw [Array.getElem?_setIfInBounds_ne e]
          exact h d (by
            intro o' ho'
            rcases List.mem_cons.1 ho' with e2 | e2
            · rw [e2, ho]; intro e3; exact e (Option.some.inj e3)
            · exact hr o' e2)
theorem frame_puts {l : List Oper} {a0 A : Act} (hdf : A.defers = a0.defers) (hsz : A.tmps.size = a0.tmps.size) (ho : Olds l.toArray a0 A) : A = l.foldl (fun a o => a.put o.dst (A.tmps.getD (o.dst.getD 0) undef)) a0 :=
  (frame_fold l a0 hdf.symm hsz.symm fun d hd => (ho d fun i o hi => hd o (List.mem_of_getElem? (by simpa using hi))).symm).symm

end Cr
end Go.Proofs.YtbjhajomeegobaaDoor
