/- A region that draws its order, with one store in its midst. -/
import Derived.Test.YtjopjffecnflkaaDoorRp
namespace Go.Proofs.YtjopjffecnflkaaDoor
open Go.RowKit
namespace Su
open Cr

section
variable {P : Program} {ops : Array Oper} {a0 : Act} {w0 : World}
/-- The operation n waits for the operation i. -/
def waitsB (ops : Array Oper) (n i : Nat) : Bool := ((ops[n]?).map fun o => o.after.any fun e => Region.binds .any e && (e.on == i)).getD false
/-- A region that draws its order, with one store in its midst: what the others leave is known ahead of the store, and behind it. -/
theorem wp_region_facts_mid {id n : Nat} {on : Oper} {Q : Exit → Act → World → Prop} {G : Bool → Nat → Value → World → Prop} (hm : P.follows .mixedOrders = true) (ht : tidyB ops a0.tmps.size = true) (hon : ops[n]? = some on) (hong : on.guard = none) (hdst : on.dst = none)
    (hG : ∀ b j v (w w' : World), G b j v w → Below w.heap.size w w' → G b j v w')
    (hstep : ∀ (b : Bool) (i : Nat) (o : Oper), i ≠ n → (b = true → waitsB ops n i = false) → ops[i]? = some o → OpOK P ops a0 w0 (G b) i o)
    (hstore : ∀ (A : Act) (w : World), Below w0.heap.size w0 w → Olds ops a0 A → (∀ e ∈ on.after, Region.binds .any e = true → ∀ (oe : Oper) (d : Tmp), ops[e.on]? = some oe → oe.dst = some d → G false e.on (A.tmps.getD d undef) w) → ∃ w', (execOp A.eval on).run P w = .ok .skip w' ∧ Below w0.heap.size w0 w' ∧ ∀ (j : Nat) (o : Oper) (d : Tmp), ops[j]? = some o → o.dst = some d → G false j (A.tmps.getD d undef) w → G true j (A.tmps.getD d undef) w')
    (hfin : ∀ (A : Act) (w : World), Below w0.heap.size w0 w → A.defers = a0.defers → A.tmps.size = a0.tmps.size → Olds ops a0 A → (∀ (i : Nat) (o : Oper) (d : Tmp), ops[i]? = some o → o.dst = some d → G true i (A.tmps.getD d undef) w) → Q .normal A w) :
    (Code.region id ops true).wp P Q a0 w0 := by
  have main : ∀ (fuel : Nat) (done : Array Bool) (A : Act) (w : World), Facts ops a0 w0 (G (done.getD n false)) done A w → (done.getD n false = true → ∀ e ∈ on.after, Region.binds .any e = true → done.getD e.on false = true) → left ops.size done = fuel → wpAny P .any ops Q fuel done A w := by
    intro fuel
    induction fuel with
    | zero =>
      intro done A w h _ hl
      have hz := left_zero hl
      have hdn : done.getD n false = true := getD_true_false (by rw [h.size]; exact (Array.getElem?_eq_some_iff.1 hon).1) (hz n (Array.getElem?_eq_some_iff.1 hon).1)
      rw [hdn] at h
      refine ⟨?_, hfin A w h.below h.defers h.slots h.olds fun i o d hi hd => h.fact i o d hi hd (getD_true_false (by rw [h.size]; exact (Array.getElem?_eq_some_iff.1 hi).1) (hz i (Array.getElem?_eq_some_iff.1 hi).1))⟩
      cases hr : Region.ready .any ops done with
      | nil => rfl
      | cons x r =>
        have hx : x ∈ Region.ready .any ops done := by rw [hr]; simp
        obtain ⟨h0, o, ho, _⟩ := mem_ready.1 hx
        exact absurd h0 (hz x (Array.getElem?_eq_some_iff.1 ho).1)
    | succ fuel ih =>
      intro done A w h hw hl
      refine ⟨fun hr => ?_, fun i hi => ?_⟩
      · have : ∃ i, i < ops.size ∧ done.getD i true = false := by
          refine Classical.byContradiction fun hn => ?_
          have : left ops.size done = 0 := List.countP_eq_zero.2 fun i hi => by
            have hi := List.mem_range.1 hi
            intro h2
            exact hn ⟨i, hi, by simpa using h2⟩
          omega
        obtain ⟨i, hi, hd⟩ := this
        exact absurd hr (some_ready ht h.size i i (Nat.le_refl _) hi hd)
      · obtain ⟨hd, o, ho, hdeps⟩ := mem_ready.1 hi
        have hil : i < ops.size := (Array.getElem?_eq_some_iff.1 ho).1
        by_cases hin : i = n
        · subst hin
          rw [hon] at ho
          cases ho
          have hdf : done.getD i false = false := by
            have : i < done.size := by rw [h.size]; exact hil
            simp [this] at hd ⊢
            exact hd
          rw [hdf] at h
          obtain ⟨w', hrun, hb, hto⟩ := hstore A w h.below h.olds fun e he hb oe d hoe hde => h.fact e.on oe d hoe hde (hdeps e he hb)
          unfold wpOp
          simp only [hon]
          rw [if_pos (by simp [Region.wanted, hong])]
          refine .inl ?_
          unfold Oper.wp
          rw [hrun]
          have hput : A.put on.dst undef = A := by rw [hdst]; rfl
          show wpAny P .any ops Q fuel (done.setIfInBounds i true) (A.put on.dst undef) w'
          rw [hput]
          have hdt : (done.setIfInBounds i true).getD i false = true := by simp [h.size, hil]
          refine ih _ _ _ ?_ ?_ (by have := left_set (n := ops.size) h.size hil hd; omega)
          · rw [hdt]
            refine ⟨by simpa using h.size, hb, h.defers, h.slots, h.olds, fun j oj d hj hdj hdone => ?_⟩
            have hne : i ≠ j := fun e => by
              subst e
              rw [hon] at hj
              cases hj
              rw [hdst] at hdj
              cases hdj
            rw [getD_set_ne false hne] at hdone
            exact hto j oj d hj hdj (h.fact j oj d hj hdj hdone)
          · intro _ e he hbd
            have hlt := tidy_down ht hon e he hbd
            rw [getD_set_ne false (by omega)]
            exact hdeps e he hbd
        · have hs := hstep (done.getD n false) i o hin (fun hb => by
            cases hwt : waitsB ops n i with
            | false => rfl
            | true =>
              unfold waitsB at hwt
              rw [hon, Option.map_some, Option.getD_some, Array.any_eq_true'] at hwt
              obtain ⟨e, he, hbe⟩ := hwt
              rw [Bool.and_eq_true] at hbe
              have h1 := hw hb e he hbe.1
              have h2 : e.on = i := by simpa using hbe.2
              rw [h2] at h1
              have : i < done.size := by rw [h.size]; exact hil
              simp [this] at hd h1
              rw [h1] at hd
              cases hd) ho A w h.below h.olds fun e he hb oe d hoe hde => h.fact e.on oe d hoe hde (hdeps e he hb)
          have hnn : (done.setIfInBounds i true).getD n false = done.getD n false := getD_set_ne false hin
          have hnext : ∀ v w', G (done.getD n false) i v w' → Below w.heap.size w w' → wpAny P .any ops Q fuel (done.setIfInBounds i true) (A.put o.dst v) w' := fun v w' hv hb =>
            ih _ _ _ (by rw [hnn]; exact h.put ht (hG _) ho v hv hb) (fun hx e he hbd => by
              rw [hnn] at hx
              have h1 := hw hx e he hbd
              by_cases hei : i = e.on
              · rw [← hei]
                simp [h.size, hil]
              · rw [getD_set_ne false hei]
                exact h1) (by have := left_set (n := ops.size) h.size hil hd; omega)
          unfold wpOp
          simp only [ho]
          rw [if_pos hs.want]
          refine .inl ?_
          have hg := hs.goes
          unfold Oper.wp
          generalize (execOp A.eval o).run P w = r at hg
          cases r with
          | ok x w' =>
            cases x <;> simp only [GoesTo] at hg
            case value v => exact hnext v w' hg.1 hg.2
            case enter f args =>
              refine hg.mono fun e w'' ⟨v, he, hv, hb⟩ => ?_
              subst he
              exact hnext v w'' hv hb
          | halt x w' => simp only [GoesTo] at hg
  refine wp_region_any hm (main _ _ _ _ ⟨by simp, (Below.refl _ _).drew, rfl, rfl, fun _ _ => rfl, fun i o d hi hd hf => ?_⟩ (fun hf => ?_) left_all)
  · have : i < ops.size := (Array.getElem?_eq_some_iff.1 hi).1
    simp [this] at hf
  · have : n < ops.size := (Array.getElem?_eq_some_iff.1 hon).1
    simp [this] at hf
end
/-- The operations that must be shown. -/
def AllIf (P : Program) (ops : Array Oper) (a0 : Act) (w0 : World) (sp : List Spec) (p : Nat → Bool) : List Oper → Nat → Prop
  | [], _ => True
  | o :: r, k => (p k = true → OpOK P ops a0 w0 (specs sp) k o) ∧ AllIf P ops a0 w0 sp p r (k + 1)
theorem allIf_at {P : Program} {ops : Array Oper} {a0 : Act} {w0 : World} {sp : List Spec} {p : Nat → Bool} : ∀ (l : List Oper) (k : Nat), AllIf P ops a0 w0 sp p l k → ∀ (i : Nat) (o : Oper), l[i]? = some o → p (k + i) = true → OpOK P ops a0 w0 (specs sp) (k + i) o
  | [], _, _, i, o, h, _ => by simp at h
  | x :: r, k, ⟨h1, h2⟩, i, o, h, hp => by
    cases i with
    | zero => simp at h; subst h; exact h1 hp
    | succ i =>
      have := allIf_at r (k + 1) h2 i o (by simpa using h) (by rwa [show k + 1 + i = k + (i + 1) by omega])
      rwa [show k + 1 + i = k + (i + 1) by omega] at this
theorem wp_region_specs_mid {P : Program} {a0 : Act} {w0 : World} {id n : Nat} {on : Oper} {Q : Exit → Act → World → Prop} {l : List Oper} (sp sp1 : List Spec) (hm : P.follows .mixedOrders = true) (ht : tidyB l.toArray a0.tmps.size = true) (hon : l[n]? = some on) (hong : on.guard = none) (hdst : on.dst = none)
    (h0 : AllIf P l.toArray a0 w0 sp (fun i => i != n) l 0) (h1 : AllIf P l.toArray a0 w0 sp1 (fun i => i != n && !waitsB l.toArray n i) l 0)
    (hstore : ∀ (A : Act) (w : World), Below w0.heap.size w0 w → Olds l.toArray a0 A → (∀ e ∈ on.after, Region.binds .any e = true → ∀ (oe : Oper) (d : Tmp), l.toArray[e.on]? = some oe → oe.dst = some d → specs sp e.on (A.tmps.getD d undef) w) → ∃ w', (execOp A.eval on).run P w = .ok .skip w' ∧ Below w0.heap.size w0 w' ∧ ∀ (j : Nat) (o : Oper) (d : Tmp), l.toArray[j]? = some o → o.dst = some d → specs sp j (A.tmps.getD d undef) w → specs sp1 j (A.tmps.getD d undef) w')
    (hfin : ∀ (A : Act) (w : World), Below w0.heap.size w0 w → A.defers = a0.defers → A.tmps.size = a0.tmps.size → Olds l.toArray a0 A → (∀ (i : Nat) (o : Oper) (d : Tmp), l[i]? = some o → o.dst = some d → specs sp1 i (A.tmps.getD d undef) w) → Q .normal A w) :
    (Code.region id l.toArray true).wp P Q a0 w0 :=
  wp_region_facts_mid (G := fun b => specs (if b then sp1 else sp)) hm ht (by simpa using hon) hong hdst (fun b j v w w' h hb => Spec.ok_later _ v w w' h hb)
    (fun b i o hin hwt hi => by
      cases b with
      | false =>
        have := allIf_at l 0 h0 i o (by simpa using hi) (by simpa using hin)
        rwa [Nat.zero_add] at this
      | true =>
        have := allIf_at l 0 h1 i o (by simpa using hi) (by rw [Nat.zero_add]; simp [hin, hwt rfl])
        rwa [Nat.zero_add] at this)
    (fun A w a1 a2 a3 => hstore A w a1 a2 a3)
    (fun A w a1 a2 a3 a4 a5 => hfin A w a1 a2 a3 a4 fun i o d hi hd => a5 i o d (by simpa using hi) hd)

end Su
end Go.Proofs.YtjopjffecnflkaaDoor
