/- A region that draws its order, whose operations read, or lay new memory: whatever the order, what each operation leaves is known by what it leans on alone. -/
import Derived.Test.YtbjhajomeegobaaDoorWa
import Derived.StillTail
namespace Go.Proofs.YtbjhajomeegobaaDoor
open Go.RowKit
namespace Cr

section
variable {P : Program} {ops : Array Oper} {a0 : Act} {w0 : World} {G : Nat → Value → World → Prop}

/-- What comes of one operation: a value of which Gi holds, and all that lay lies. -/
def Goes (P : Program) (Gi : Value → World → Prop) (w : World) : Result Next → Prop
  | .ok (.value v) w' => Gi v w' ∧ Below w.heap.size w w'
  | .ok (.enter f args) w' => Calls P f args w' fun e w'' => ∃ v, e = .returned v ∧ Gi v w'' ∧ Below w.heap.size w w''
  | _ => False
structure StepOK (P : Program) (ops : Array Oper) (o : Oper) (A : Act) (w : World) (Gi : Value → World → Prop) : Prop where
  want : Region.wanted o (yielded ops A.tmps) = true
  goes : Goes P Gi w ((execOp A.eval o).run P w)
/-- The slots that the region does not write are as they were. -/
def Olds (ops : Array Oper) (a0 A : Act) : Prop := ∀ d, (∀ (i : Nat) (o : Oper), ops[i]? = some o → o.dst ≠ some d) → A.tmps[d]? = a0.tmps[d]?
structure Facts (ops : Array Oper) (a0 : Act) (w0 : World) (G : Nat → Value → World → Prop) (done : Array Bool) (A : Act) (w : World) : Prop where
  size : done.size = ops.size
  below : Below w0.heap.size w0 w
  defers : A.defers = a0.defers
  slots : A.tmps.size = a0.tmps.size
  olds : Olds ops a0 A
  fact : ∀ (i : Nat) (o : Oper) (d : Tmp), ops[i]? = some o → o.dst = some d → done.getD i false = true → G i (A.tmps.getD d undef) w
/-- Edges lead back; slots are different ones, and there. -/
def tidyB (ops : Array Oper) (n : Nat) : Bool :=
  (List.range ops.size).all fun i => ((ops[i]?).map fun o => o.after.all (fun e => decide (e.on < i)) && (match o.dst with
    | some d => decide (d < n) && (List.range ops.size).all fun j => decide (i = j) || ((ops[j]?).bind (·.dst)) != some d
    | none => true)).getD true
theorem tidy_down {n : Nat} (h : tidyB ops n = true) {i : Nat} {o : Oper} (hi : ops[i]? = some o) : ∀ e ∈ o.after, e.on < i := by
  have hl : i < ops.size := (Array.getElem?_eq_some_iff.1 hi).1
  have := List.all_eq_true.1 h i (List.mem_range.2 hl)
  rw [hi, Option.map_some, Option.getD_some, Bool.and_eq_true] at this
  intro e he
  have := Array.all_eq_true_iff_forall_mem.1 this.1 e he
  simpa using this
theorem tidy_dst {n : Nat} (h : tidyB ops n = true) {i j : Nat} {oi oj : Oper} {d : Tmp} (hi : ops[i]? = some oi) (hj : ops[j]? = some oj) (hd : oi.dst = some d) (hd' : oj.dst = some d) : i = j := by
  have hl : i < ops.size := (Array.getElem?_eq_some_iff.1 hi).1
  have hlj : j < ops.size := (Array.getElem?_eq_some_iff.1 hj).1
  have := List.all_eq_true.1 h i (List.mem_range.2 hl)
  rw [hi, Option.map_some, Option.getD_some, Bool.and_eq_true, hd] at this
  have h2 := this.2
  simp only [Bool.and_eq_true] at h2
  have h3 := List.all_eq_true.1 h2.2 j (List.mem_range.2 hlj)
  rw [hj, Option.bind_some, hd'] at h3
  simpa using h3
theorem tidy_in {n : Nat} (h : tidyB ops n = true) {i : Nat} {oi : Oper} {d : Tmp} (hi : ops[i]? = some oi) (hd : oi.dst = some d) : d < n := by
  have hl : i < ops.size := (Array.getElem?_eq_some_iff.1 hi).1
  have := List.all_eq_true.1 h i (List.mem_range.2 hl)
  rw [hi, Option.map_some, Option.getD_some, Bool.and_eq_true, hd] at this
  have h2 := this.2
  simp only [Bool.and_eq_true, decide_eq_true_eq] at h2
  exact h2.1
theorem getD_true_false {done : Array Bool} {i : Nat} (hi : i < done.size) (h : ¬ done.getD i true = false) : done.getD i false = true := by
  simp [hi] at h ⊢
  exact h
/-- Who is not yet done: somebody is ready. -/
theorem some_ready {n : Nat} (h : tidyB ops n = true) {done : Array Bool} (hs : done.size = ops.size) : ∀ (m i : Nat), i ≤ m → i < ops.size → done.getD i true = false → Region.ready .any ops done ≠ [] := by
  intro m
  induction m with
  | zero =>
    intro i hm hi hd hr
    have : i ∈ Region.ready .any ops done := mem_ready.2 ⟨hd, ops[i], Array.getElem?_eq_getElem hi, fun e he _ => by
      have := tidy_down h (Array.getElem?_eq_getElem hi) e he
      omega⟩
    rw [hr] at this
    simp at this
  | succ m ih =>
    intro i hm hi hd
    by_cases hall : ∀ e ∈ (ops[i]'hi).after, Region.binds .any e = true → done.getD e.on false = true
    · intro hr
      have : i ∈ Region.ready .any ops done := mem_ready.2 ⟨hd, ops[i], Array.getElem?_eq_getElem hi, hall⟩
      rw [hr] at this
      simp at this
    · have hx : ∃ e, e ∈ (ops[i]'hi).after ∧ ¬ done.getD e.on false = true := by
        refine Classical.byContradiction fun hn => hall fun e he _ => Classical.byContradiction fun h2 => hn ⟨e, he, h2⟩
      obtain ⟨e, he, hne⟩ := hx
      have hlt := tidy_down h (Array.getElem?_eq_getElem hi) e he
      have hel : e.on < done.size := by omega
      exact ih e.on (by omega) (by omega) (by simp [hel] at hne ⊢; exact hne)
/-- How many are not yet done. -/
def left (n : Nat) (done : Array Bool) : Nat := (List.range n).countP fun i => !done.getD i true
theorem countP_one {p q : Nat → Bool} {i : Nat} : ∀ (l : List Nat), l.Nodup → i ∈ l → p i = true → q i = false → (∀ j, j ≠ i → q j = p j) → l.countP q + 1 = l.countP p
  | [], _, hm, _, _, _ => by simp at hm
  | x :: r, hn, hm, hp, hq, ho => by
    rw [List.nodup_cons] at hn
    by_cases hx : x = i
    · subst hx
      have e : r.countP q = r.countP p := List.countP_congr fun j hj => by
        rw [ho j (fun e => hn.1 (e ▸ hj))]
      rw [List.countP_cons, List.countP_cons, hp, hq, e]
      simp
    · have hm' : i ∈ r := by
        rcases List.mem_cons.1 hm with h | h
        · exact absurd h.symm hx
        · exact h
      have ih := countP_one r hn.2 hm' hp hq ho
      rw [List.countP_cons, List.countP_cons, ho x hx]
      omega
theorem left_set {n : Nat} {done : Array Bool} {i : Nat} (hs : done.size = n) (hi : i < n) (hd : done.getD i true = false) : left n (done.setIfInBounds i true) + 1 = left n done :=
  countP_one (List.range n) List.nodup_range (List.mem_range.2 hi) (by rw [hd]; rfl) (by simp [hs, hi]) fun j hj => by rw [getD_set_ne true (Ne.symm hj)]
theorem left_zero {n : Nat} {done : Array Bool} (h : left n done = 0) : ∀ i, i < n → ¬ done.getD i true = false := by
  intro i hi hd
  have := List.countP_eq_zero.1 h i (List.mem_range.2 hi)
  rw [hd] at this
  simp at this
theorem left_all {n : Nat} : left n (Array.replicate n false) = n := by
  have : left n (Array.replicate n false) = (List.range n).length := List.countP_eq_length.2 fun i hi => by
    have := List.mem_range.1 hi
    simp [this]
  rwa [List.length_range] at this

theorem Facts.put {done : Array Bool} {A : Act} {w w' : World} {i : Nat} {o : Oper} (ht : tidyB ops a0.tmps.size = true) (hG : ∀ j v (w w' : World), G j v w → Below w.heap.size w w' → G j v w') (h : Facts ops a0 w0 G done A w) (hi : ops[i]? = some o) (v : Value) (hv : G i v w') (hb : Below w.heap.size w w') :
    Facts ops a0 w0 G (done.setIfInBounds i true) (A.put o.dst v) w' := by
  have hil : i < ops.size := (Array.getElem?_eq_some_iff.1 hi).1
  refine ⟨by simpa using h.size, h.below.trans (hb.mono h.below.size), ?_, ?_, ?_, ?_⟩
  · cases hd : o.dst <;> simp only [Act.put] <;> exact h.defers
  · cases hd : o.dst <;> simp only [Act.put] <;> first | exact h.slots | (rw [Array.size_setIfInBounds]; exact h.slots)
  · intro d hd
    rw [← h.olds d hd]
    cases ho : o.dst with
    | none => rfl
    | some d' =>
      simp only [Act.put]
      rw [Array.getElem?_setIfInBounds_ne]
      intro e
      exact hd i o hi (by rw [ho, e])
  · intro j oj d hj hd hdone
    by_cases hij : i = j
    · subst hij
      rw [hi] at hj
      cases hj
      have hlt : d < A.tmps.size := by rw [h.slots]; exact tidy_in ht hi hd
      rw [hd]
      simp only [Act.put]
      simpa [hlt] using hv
    · rw [getD_set_ne false hij] at hdone
      have hf := hG _ _ _ _ (h.fact j oj d hj hd hdone) hb
      cases ho : o.dst with
      | none => exact hf
      | some d' =>
        have hne : d' ≠ d := fun e => hij (tidy_dst ht hi hj (e ▸ ho) hd)
        simp only [Act.put]
        rw [show (A.tmps.setIfInBounds d' v).getD d undef = A.tmps.getD d undef by simp [Array.getElem?_setIfInBounds_ne hne]]
        exact hf

/-- What one operation must show. -/
def OpOK (P : Program) (ops : Array Oper) (a0 : Act) (w0 : World) (G : Nat → Value → World → Prop) (i : Nat) (o : Oper) : Prop :=
  ∀ (A : Act) (w : World), Below w0.heap.size w0 w → Olds ops a0 A → (∀ e ∈ o.after, Region.binds .any e = true → ∀ (oe : Oper) (d : Tmp), ops[e.on]? = some oe → oe.dst = some d → G e.on (A.tmps.getD d undef) w) → StepOK P ops o A w (G i)

theorem wp_region_facts {id : Nat} {Q : Exit → Act → World → Prop} (hm : P.follows .mixedOrders = true) (ht : tidyB ops a0.tmps.size = true)
    (hG : ∀ j v (w w' : World), G j v w → Below w.heap.size w w' → G j v w') (hstep : ∀ (i : Nat) (o : Oper), ops[i]? = some o → OpOK P ops a0 w0 G i o)
    (hfin : ∀ (A : Act) (w : World), Below w0.heap.size w0 w → A.defers = a0.defers → A.tmps.size = a0.tmps.size → Olds ops a0 A → (∀ (i : Nat) (o : Oper) (d : Tmp), ops[i]? = some o → o.dst = some d → G i (A.tmps.getD d undef) w) → Q .normal A w) :
    (Code.region id ops true).wp P Q a0 w0 := by
  have main : ∀ (fuel : Nat) (done : Array Bool) (A : Act) (w : World), Facts ops a0 w0 G done A w → left ops.size done = fuel → wpAny P .any ops Q fuel done A w := by
    intro fuel
    induction fuel with
    | zero =>
      intro done A w h hl
      have hz := left_zero hl
      refine ⟨?_, hfin A w h.below h.defers h.slots h.olds fun i o d hi hd => h.fact i o d hi hd (getD_true_false (by rw [h.size]; exact (Array.getElem?_eq_some_iff.1 hi).1) (hz i (Array.getElem?_eq_some_iff.1 hi).1))⟩
      cases hr : Region.ready .any ops done with
      | nil => rfl
      | cons x r =>
        have hx : x ∈ Region.ready .any ops done := by rw [hr]; simp
        obtain ⟨h0, o, ho, _⟩ := mem_ready.1 hx
        exact absurd h0 (hz x (Array.getElem?_eq_some_iff.1 ho).1)
    | succ fuel ih =>
      intro done A w h hl
      refine ⟨fun hr => ?_, fun i hi => ?_⟩
      · have : ∃ i, i < ops.size ∧ done.getD i true = false := by
          refine Classical.byContradiction fun hn => ?_
          have : left ops.size done = 0 := List.countP_eq_zero.2 fun i hi => by
            have hi := List.mem_range.1 hi
            intro h2
            exact hn ⟨i, hi, by simpa using h2⟩
          omega
        obtain ⟨i, hi, hd⟩ := this
        exact absurd hr (some_ready ht h.size i i (Nat.le_refl _) hi hd)
      · obtain ⟨hd, o, ho, hdeps⟩ := mem_ready.1 hi
        have hil : i < ops.size := (Array.getElem?_eq_some_iff.1 ho).1
        have hs := hstep i o ho A w h.below h.olds fun e he hb oe d hoe hde => h.fact e.on oe d hoe hde (hdeps e he hb)
        have hnext : ∀ v w', G i v w' → Below w.heap.size w w' → wpAny P .any ops Q fuel (done.setIfInBounds i true) (A.put o.dst v) w' := fun v w' hv hb =>
          ih _ _ _ (h.put ht hG ho v hv hb) (by have := left_set (n := ops.size) h.size hil hd; omega)
        unfold wpOp
        simp only [ho]
        rw [if_pos hs.want]
        refine .inl ?_
        have hg := hs.goes
        unfold Oper.wp
        generalize (execOp A.eval o).run P w = r at hg
        cases r with
        | ok x w' =>
          cases x <;> simp only [Goes] at hg
          case value v => exact hnext v w' hg.1 hg.2
          case enter f args =>
            refine hg.mono fun e w'' ⟨v, he, hv, hb⟩ => ?_
            subst he
            exact hnext v w'' hv hb
        | halt x w' => simp only [Goes] at hg
  refine wp_region_any hm (main _ _ _ _ ⟨by simp, (Below.refl _ _).drew, rfl, rfl, fun _ _ => rfl, fun i o d hi hd hf => ?_⟩ left_all)
  have : i < ops.size := (Array.getElem?_eq_some_iff.1 hi).1
  simp [this] at hf
end

end Cr
end Go.Proofs.YtbjhajomeegobaaDoor
