/- A region that draws its order, whose operations read, or lay new memory: whatever the order, what each operation leaves is known by what it leans on alone. -/
import Derived.Test.YtnpbgjafahhadaaDoorQw
import Derived.StillTail
namespace Go.Proofs.YtnpbgjafahhadaaDoor
open Go.RowKit
namespace Su
open Cr

section
variable {P : Program} {ops : Array Oper} {a0 : Act} {w0 : World} {G : Nat → Value → World → Prop}

/-- What comes of one operation: a value of which Gi holds, and all that lay lies. -/
def GoesTo (P : Program) (Gi : Value → World → Prop) (w : World) : Result Next → Prop
  | .ok (.value v) w' => Gi v w' ∧ Below w.heap.size w w'
  | .ok (.enter f args) w' => Calls P f args w' fun e w'' => ∃ v, e = .returned v ∧ Gi v w'' ∧ Below w.heap.size w w''
  | _ => False
structure StepOK (P : Program) (ops : Array Oper) (o : Oper) (A : Act) (w : World) (Gi : Value → World → Prop) : Prop where
  want : Region.wanted o (yielded ops A.tmps) = true
  goes : GoesTo P Gi w ((execOp A.eval o).run P w)
/-- The slots that the region does not write are as they were. -/
def Olds (ops : Array Oper) (a0 A : Act) : Prop := ∀ d, (∀ (i : Nat) (o : Oper), ops[i]? = some o → o.dst ≠ some d) → A.tmps[d]? = a0.tmps[d]?
structure Facts (ops : Array Oper) (a0 : Act) (w0 : World) (G : Nat → Value → World → Prop) (done : Array Bool) (A : Act) (w : World) : Prop where
  size : done.size = ops.size
  below : Below w0.heap.size w0 w
  defers : A.defers = a0.defers
  slots : A.tmps.size = a0.tmps.size
  olds : Olds ops a0 A
  fact : ∀ (i : Nat) (o : Oper) (d : Tmp), ops[i]? = some o → o.dst = some d → done.getD i false = true → G i (A.tmps.getD d undef) w
/-- Edges lead back; slots are different ones, and there. -/
def tidyB (ops : Array Oper) (n : Nat) : Bool :=
  (List.range ops.size).all fun i => ((ops[i]?).map fun o => o.after.all (fun e => !Region.binds .any e || decide (e.on < i)) && (match o.dst with
    | some d => decide (d < n) && (List.range ops.size).all fun j => decide (i = j) || ((ops[j]?).bind (·.dst)) != some d
    | none => true)).getD true
theorem tidy_down {n : Nat} (h : tidyB ops n = true) {i : Nat} {o : Oper} (hi : ops[i]? = some o) : ∀ e ∈ o.after, Region.binds .any e = true → e.on < i := by
  have hl : i < ops.size := (Array.getElem?_eq_some_iff.1 hi).1
  have := List.all_eq_true.1 h i (List.mem_range.2 hl)
  rw [hi, Option.map_some, Option.getD_some, Bool.and_eq_true] at this
  intro e he hb
  have := Array.all_eq_true_iff_forall_mem.1 this.1 e he
  simpa [hb] using this
theorem tidy_dst {n : Nat} (h : tidyB ops n = true) {i j : Nat} {oi oj : Oper} {d : Tmp} (hi : ops[i]? = some oi) (hj : ops[j]? = some oj) (hd : oi.dst = some d) (hd' : oj.dst = some d) : i = j := by
  have hl : i < ops.size := (Array.getElem?_eq_some_iff.1 hi).1
  have hlj : j < ops.size := (Array.getElem?_eq_some_iff.1 hj).1
  have := List.all_eq_true.1 h i (List.mem_range.2 hl)
  rw [hi, Option.map_some, Option.getD_some, Bool.and_eq_true, hd] at this
  have h2 := this.2
  simp only [Bool.and_eq_true] at h2
  have h3 := List.all_eq_true.1 h2.2 j (List.mem_range.2 hlj)
  rw [hj, Option.bind_some, hd'] at h3
  simpa using h3
theorem tidy_in {n : Nat} (h : tidyB ops n = true) {i : Nat} {oi : Oper} {d : Tmp} (hi : ops[i]? = some oi) (hd : oi.dst = some d) : d < n := by
  have hl : i < ops.size := (Array.getElem?_eq_some_iff.1 hi).1
  have := List.all_eq_true.1 h i (List.mem_range.2 hl)
  rw [hi, Option.map_some, Option.getD_some, Bool.and_eq_true, hd] at this
  have h2 := this.2
  simp only [Bool.and_eq_true, decide_eq_true_eq] at h2
  exact h2.1
theorem getD_true_false {done : Array Bool} {i : Nat} (hi : i < done.size) (h : ¬ done.getD i true = false) : done.getD i false = true := by
  simp [hi] at h ⊢
  exact h
/-- Who is not yet done: somebody is ready. -/
theorem some_ready {n : Nat} (h : tidyB ops n = true) {done : Array Bool} (hs : done.size = ops.size) : ∀ (m i : Nat), i ≤ m → i < ops.size → done.getD i true = false → Region.ready .any ops done ≠ [] := by
  intro m
  induction m with
  | zero =>
    intro i hm hi hd hr
    have : i ∈ Region.ready .any ops done := mem_ready.2 ⟨hd, ops[i], Array.getElem?_eq_getElem hi, fun e he hb => by
      have := tidy_down h (Array.getElem?_eq_getElem hi) e he hb
      omega⟩
    rw [hr] at this
    simp at this
  | succ m ih =>
    intro i hm hi hd
    by_cases hall : ∀ e ∈ (ops[i]'hi).after, Region.binds .any e = true → done.getD e.on false = true
    · intro hr
      have : i ∈ Region.ready .any ops done := mem_ready.2 ⟨hd, ops[i], Array.getElem?_eq_getElem hi, hall⟩
      rw [hr] at this
      simp at this
    · have hx : ∃ e, e ∈ (ops[i]'hi).after ∧ Region.binds .any e = true ∧ ¬ done.getD e.on false = true := by
        refine Classical.byContradiction fun hn => hall fun e he hb => Classical.byContradiction fun h2 => hn ⟨e, he, hb, h2⟩
      obtain ⟨e, he, hbb, hne⟩ := hx
      have hlt := tidy_down h (Array.getElem?_eq_getElem hi) e he hbb
      have hel : e.on < done.size := by omega
      exact ih e.on (by omega) (by omega) (by simp [hel] at hne ⊢; exact hne)
/-- How many are not yet done. -/
def left (n : Nat) (done : Array Bool) : Nat := (List.range n).countP fun i => !done.getD i true
theorem countP_one {p q : Nat → Bool} {i : Nat} : ∀ (l : List Nat), l.Nodup → i ∈ l → p i = true → q i = false → (∀ j, j ≠ i → q j = p j) → l.countP q + 1 = l.countP p
  | [], _, hm, _, _, _ => by simp at hm
  | x :: r, hn, hm, hp, hq, ho => by
    rw [List.nodup_cons] at hn
    by_cases hx : x = i
    · subst hx
      have e : r.countP q = r.countP p := List.countP_congr fun j hj => by
        rw [ho j (fun e => hn.1 (e ▸ hj))]
      rw [List.countP_cons, List.countP_cons, hp, hq, e]
      simp
    · have hm' : i ∈ r := by
        rcases List.mem_cons.1 hm with h | h
        · exact absurd h.symm hx
        · exact h
      have ih := countP_one r hn.2 hm' hp hq ho
      rw [List.countP_cons, List.countP_cons, ho x hx]
      omega
theorem left_set {n : Nat} {done : Array Bool} {i : Nat} (hs : done.size = n) (hi : i < n) (hd : done.getD i true = false) : left n (done.setIfInBounds i true) + 1 = left n done :=
  countP_one (List.range n) List.nodup_range (List.mem_range.2 hi) (by rw [hd]; rfl) (by simp [hs, hi]) fun j hj => by rw [getD_set_ne true (Ne.symm hj)]
theorem left_zero {n : Nat} {done : Array Bool} (h : left n done = 0) : ∀ i, i < n → ¬ done.getD i true = false := by
  intro i hi hd
  have := List.countP_eq_zero.1 h i (List.mem_range.2 hi)
  rw [hd] at this
  simp at this
theorem left_all {n : Nat} : left n (Array.replicate n false) = n := by
  have : left n (Array.replicate n false) = (List.range n).length := List.countP_eq_length.2 fun i hi => by
    have := List.mem_range.1 hi
    simp [this]
  rwa [List.length_range] at this

theorem Facts.put {done : Array Bool} {A : Act} {w w' : World} {i : Nat} {o : Oper} (ht : tidyB ops a0.tmps.size = true) (hG : ∀ j v (w w' : World), G j v w → Below w.heap.size w w' → G j v w') (h : Facts ops a0 w0 G done A w) (hi : ops[i]? = some o) (v : Value) (hv : G i v w') (hb : Below w.heap.size w w') :
    Facts ops a0 w0 G (done.setIfInBounds i true) (A.put o.dst v) w' := by
  have hil : i < ops.size := (Array.getElem?_eq_some_iff.1 hi).1
  refine ⟨by simpa using h.size, h.below.trans (hb.mono h.below.size), ?_, ?_, ?_, ?_⟩
  · cases hd : o.dst <;> simp only [Act.put] <;> exact h.defers
  · cases hd : o.dst <;> simp only [Act.put] <;> first | exact h.slots | (rw [Array.size_setIfInBounds]; exact h.slots)
  · intro d hd
    rw [← h.olds d hd]
    cases ho : o.dst with
    | none => rfl
    | some d' =>
      simp only [Act.put]
      rw [Array.getElem?_setIfInBounds_ne]
      intro e
      exact hd i o hi (by rw [ho, e])
  · intro j oj d hj hd hdone
    by_cases hij : i = j
    · subst hij
      rw [hi] at hj
      cases hj
      have hlt : d < A.tmps.size := by rw [h.slots]; exact tidy_in ht hi hd
      rw [hd]
      simp only [Act.put]
      simpa [hlt] using hv
    · rw [getD_set_ne false hij] at hdone
      have hf := hG _ _ _ _ (h.fact j oj d hj hd hdone) hb
      cases ho : o.dst with
      | none => exact hf
      | some d' =>
        have hne : d' ≠ d := fun e => hij (tidy_dst ht hi hj (e ▸ ho) hd)
        simp only [Act.put]
        rw [show (A.tmps.setIfInBounds d' v).getD d undef = A.tmps.getD d undef by simp [Array.getElem?_setIfInBounds_ne hne]]
        exact hf

/-- What one operation must show. -/
def OpOK (P : Program) (ops : Array Oper) (a0 : Act) (w0 : World) (G : Nat → Value → World → Prop) (i : Nat) (o : Oper) : Prop :=
  ∀ (A : Act) (w : World), Below w0.heap.size w0 w → Olds ops a0 A → (∀ e ∈ o.after, Region.binds .any e = true → ∀ (oe : Oper) (d : Tmp), ops[e.on]? = some oe → oe.dst = some d → G e.on (A.tmps.getD d undef) w) → StepOK P ops o A w (G i)

theorem wp_region_facts {id : Nat} {Q : Exit → Act → World → Prop} (hm : P.follows .mixedOrders = true) (ht : tidyB ops a0.tmps.size = true)
    (hG : ∀ j v (w w' : World), G j v w → Below w.heap.size w w' → G j v w') (hstep : ∀ (i : Nat) (o : Oper), ops[i]? = some o → OpOK P ops a0 w0 G i o)
    (hfin : ∀ (A : Act) (w : World), Below w0.heap.size w0 w → A.defers = a0.defers → A.tmps.size = a0.tmps.size → Olds ops a0 A → (∀ (i : Nat) (o : Oper) (d : Tmp), ops[i]? = some o → o.dst = some d → G i (A.tmps.getD d undef) w) → Q .normal A w) :
    (Code.region id ops true).wp P Q a0 w0 := by
  have main : ∀ (fuel : Nat) (done : Array Bool) (A : Act) (w : World), Facts ops a0 w0 G done A w → left ops.size done = fuel → wpAny P .any ops Q fuel done A w := by
    intro fuel
    induction fuel with
    | zero =>
      intro done A w h hl
      have hz := left_zero hl
      refine ⟨?_, hfin A w h.below h.defers h.slots h.olds fun i o d hi hd => h.fact i o d hi hd (getD_true_false (by rw [h.size]; exact (Array.getElem?_eq_some_iff.1 hi).1) (hz i (Array.getElem?_eq_some_iff.1 hi).1))⟩
      cases hr : Region.ready .any ops done with
      | nil => rfl
      | cons x r =>
        have hx : x ∈ Region.ready .any ops done := by rw [hr]; simp
        obtain ⟨h0, o, ho, _⟩ := mem_ready.1 hx
        exact absurd h0 (hz x (Array.getElem?_eq_some_iff.1 ho).1)
    | succ fuel ih =>
      intro done A w h hl
      refine ⟨fun hr => ?_, fun i hi => ?_⟩
      · have : ∃ i, i < ops.size ∧ done.getD i true = false := by
          refine Classical.byContradiction fun hn => ?_
          have : left ops.size done = 0 := List.countP_eq_zero.2 fun i hi => by
            have hi := List.mem_range.1 hi
            intro h2
            exact hn ⟨i, hi, by simpa using h2⟩
          omega
        obtain ⟨i, hi, hd⟩ := this
        exact absurd hr (some_ready ht h.size i i (Nat.le_refl _) hi hd)
      · obtain ⟨hd, o, ho, hdeps⟩ := mem_ready.1 hi
        have hil : i < ops.size := (Array.getElem?_eq_some_iff.1 ho).1
        have hs := hstep i o ho A w h.below h.olds fun e he hb oe d hoe hde => h.fact e.on oe d hoe hde (hdeps e he hb)
        have hnext : ∀ v w', G i v w' → Below w.heap.size w w' → wpAny P .any ops Q fuel (done.setIfInBounds i true) (A.put o.dst v) w' := fun v w' hv hb =>
          ih _ _ _ (h.put ht hG ho v hv hb) (by have := left_set (n := ops.size) h.size hil hd; omega)
        unfold wpOp
        simp only [ho]
        rw [if_pos hs.want]
        refine .inl ?_
        have hg := hs.goes
        unfold Oper.wp
        generalize (execOp A.eval o).run P w = r at hg
        cases r with
        | ok x w' =>
          cases x <;> simp only [GoesTo] at hg
          case value v => exact hnext v w' hg.1 hg.2
          case enter f args =>
            refine hg.mono fun e w'' ⟨v, he, hv, hb⟩ => ?_
            subst he
            exact hnext v w'' hv hb
        | halt x w' => simp only [GoesTo] at hg
  refine wp_region_any hm (main _ _ _ _ ⟨by simp, (Below.refl _ _).drew, rfl, rfl, fun _ _ => rfl, fun i o d hi hd hf => ?_⟩ left_all)
  have : i < ops.size := (Array.getElem?_eq_some_iff.1 hi).1
  simp [this] at hf
/-- The last operation leans on all others. -/
def lastB (ops : Array Oper) (n : Nat) : Bool := ((ops[n]?).map fun o => (List.range n).all fun i => o.after.any fun e => Region.binds .any e && (e.on == i)).getD false
theorem last_waits {n : Nat} (h : lastB ops n = true) {done : Array Bool} (hr : n ∈ Region.ready .any ops done) : ∀ i, i < n → done.getD i false = true := fun i hi => by
  obtain ⟨_, o, ho, hall⟩ := mem_ready.1 hr
  unfold lastB at h
  rw [ho, Option.map_some, Option.getD_some] at h
  have h2 := List.all_eq_true.1 h i (List.mem_range.2 hi)
  rw [Array.any_eq_true'] at h2
  obtain ⟨e, he, hb⟩ := h2
  rw [Bool.and_eq_true] at hb
  have h3 := hall e he hb.1
  have h4 : e.on = i := by simpa using hb.2
  rwa [h4] at h3

theorem wp_region_facts_last {id n : Nat} {on : Oper} {Q : Exit → Act → World → Prop} (hm : P.follows .mixedOrders = true) (ht : tidyB ops a0.tmps.size = true) (hn : ops.size = n + 1) (hon : ops[n]? = some on) (hong : on.guard = none) (hlast : lastB ops n = true)
    (hG : ∀ j v (w w' : World), G j v w → Below w.heap.size w w' → G j v w') (hstep : ∀ (i : Nat) (o : Oper), i < n → ops[i]? = some o → OpOK P ops a0 w0 G i o)
    (hfin : ∀ (A : Act) (w : World), Below w0.heap.size w0 w → A.defers = a0.defers → A.tmps.size = a0.tmps.size → Olds ops a0 A → (∀ (i : Nat) (o : Oper) (d : Tmp), i < n → ops[i]? = some o → o.dst = some d → G i (A.tmps.getD d undef) w) → ∃ w', (execOp A.eval on).run P w = .ok .skip w' ∧ Q .normal (A.put on.dst undef) w') :
    (Code.region id ops true).wp P Q a0 w0 := by
  have main : ∀ (fuel : Nat) (done : Array Bool) (A : Act) (w : World), Facts ops a0 w0 G done A w → done.getD n true = false → left ops.size done = fuel + 1 → wpAny P .any ops Q (fuel + 1) done A w := by
    intro fuel
    induction fuel with
    | zero =>
      intro done A w h hnd hl
      have honly : ∀ i, i < ops.size → i ≠ n → ¬ done.getD i true = false := fun i hi hne hd => by
        have h1 := left_set (n := ops.size) h.size hi hd
        have h2 : left ops.size (done.setIfInBounds i true) = 0 := by omega
        exact left_zero h2 n (by omega) (by rw [getD_set_ne true hne]; exact hnd)
      have hdone : ∀ i, i < n → done.getD i false = true := fun i hi => getD_true_false (by rw [h.size]; omega) (honly i (by omega) (by omega))
      refine ⟨fun hr => absurd hr (some_ready ht h.size n n (Nat.le_refl _) (by omega) hnd), fun i hi => ?_⟩
      obtain ⟨hd, o, ho, hdeps⟩ := mem_ready.1 hi
      have hil : i < ops.size := (Array.getElem?_eq_some_iff.1 ho).1
      have hin : i = n := Classical.byContradiction fun hne => honly i hil hne hd
      subst hin
      rw [hon] at ho
      cases ho
      obtain ⟨w', hrun, hq⟩ := hfin A w h.below h.defers h.slots h.olds fun k ok d hk hok hdk => h.fact k ok d hok hdk (hdone k hk)
      unfold wpOp
      simp only [hon]
      rw [if_pos (by simp [Region.wanted, hong])]
      refine .inl ?_
      unfold Oper.wp
      rw [hrun]
      refine ⟨?_, hq⟩
      cases hr : Region.ready .any ops (done.setIfInBounds i true) with
      | nil => rfl
      | cons x r =>
        have hx : x ∈ Region.ready .any ops (done.setIfInBounds i true) := by rw [hr]; simp
        obtain ⟨h0, o, ho, _⟩ := mem_ready.1 hx
        have hxl := (Array.getElem?_eq_some_iff.1 ho).1
        by_cases e : i = x
        · subst e
          simp [h.size, hil] at h0
        · rw [getD_set_ne true e] at h0
          exact absurd h0 (honly x hxl fun e2 => e e2.symm)
    | succ fuel ih =>
      intro done A w h hnd hl
      refine ⟨fun hr => absurd hr (some_ready ht h.size n n (Nat.le_refl _) (by omega) hnd), fun i hi => ?_⟩
      obtain ⟨hd, o, ho, hdeps⟩ := mem_ready.1 hi
      have hil : i < ops.size := (Array.getElem?_eq_some_iff.1 ho).1
      have hin : i ≠ n := fun e => by
        subst e
        have hw := last_waits hlast hi
        have hz := left_set (n := ops.size) h.size hil hd
        have : left ops.size (done.setIfInBounds i true) = 0 := List.countP_eq_zero.2 fun k hk => by
          have hk := List.mem_range.1 hk
          by_cases e : i = k
          · subst e
            simp [h.size, hil]
          · rw [getD_set_ne true e]
            have := hw k (by omega)
            have hks : k < done.size := by rw [h.size]; exact hk
            simp [hks] at this ⊢
            exact this
        omega
      have hs := hstep i o (by omega) ho A w h.below h.olds fun e he hb oe d hoe hde => h.fact e.on oe d hoe hde (hdeps e he hb)
      have hnext : ∀ v w', G i v w' → Below w.heap.size w w' → wpAny P .any ops Q (fuel + 1) (done.setIfInBounds i true) (A.put o.dst v) w' := fun v w' hv hb =>
        ih _ _ _ (h.put ht hG ho v hv hb) (by rw [getD_set_ne true hin]; exact hnd) (by have := left_set (n := ops.size) h.size hil hd; omega)
      unfold wpOp
      simp only [ho]
      rw [if_pos hs.want]
      refine .inl ?_
      have hg := hs.goes
      unfold Oper.wp
      generalize (execOp A.eval o).run P w = r at hg
      cases r with
      | ok x w' =>
        cases x <;> simp only [GoesTo] at hg
        case value v => exact hnext v w' hg.1 hg.2
        case enter f args =>
          refine hg.mono fun e w'' ⟨v, he, hv, hb⟩ => ?_
          subst he
          exact hnext v w'' hv hb
      | halt x w' => simp only [GoesTo] at hg
  have hR := main n (Array.replicate ops.size false) a0 w0.drew ⟨by simp, (Below.refl _ _).drew, rfl, rfl, fun _ _ => rfl, fun i o d hi hd hf => by
    have : i < ops.size := (Array.getElem?_eq_some_iff.1 hi).1
    simp [this] at hf⟩ (by simp [show n < ops.size by omega]) (by rw [left_all, hn])
  rw [← hn] at hR
  exact wp_region_any hm hR

end
/-- What an operation leaves. -/
structure Spec where
  ok : Value → World → Prop
  later : ∀ (v : Value) (w w' : World), ok v w → Below w.heap.size w w' → ok v w'
def Spec.val (v : Value) : Spec := ⟨fun u _ => u = v, fun _ _ _ h _ => h⟩
theorem Spec.ok_later (s : Spec) (v : Value) (w w' : World) (h : s.ok v w) (hb : Below w.heap.size w w') : s.ok v w' := s.later v w w' h hb
def specs (sp : List Spec) (i : Nat) : Value → World → Prop := (sp.getD i (.val undef)).ok
def AllOps (P : Program) (ops : Array Oper) (a0 : Act) (w0 : World) (sp : List Spec) : List Oper → Nat → Prop
  | [], _ => True
  | o :: r, k => OpOK P ops a0 w0 (specs sp) k o ∧ AllOps P ops a0 w0 sp r (k + 1)
theorem allOps_at {P : Program} {ops : Array Oper} {a0 : Act} {w0 : World} {sp : List Spec} : ∀ (l : List Oper) (k : Nat), AllOps P ops a0 w0 sp l k → ∀ (i : Nat) (o : Oper), l[i]? = some o → OpOK P ops a0 w0 (specs sp) (k + i) o
  | [], _, _, i, o, h => by simp at h
  | x :: r, k, ⟨h1, h2⟩, i, o, h => by
    cases i with
    | zero => simp at h; subst h; exact h1
    | succ i =>
      have := allOps_at r (k + 1) h2 i o (by simpa using h)
      rwa [show k + 1 + i = k + (i + 1) by omega] at this
theorem wp_region_specs {P : Program} {a0 : Act} {w0 : World} {id : Nat} {Q : Exit → Act → World → Prop} {l : List Oper} (sp : List Spec) (hm : P.follows .mixedOrders = true) (ht : tidyB l.toArray a0.tmps.size = true)
    (hstep : AllOps P l.toArray a0 w0 sp l 0)
    (hfin : ∀ (A : Act) (w : World), Below w0.heap.size w0 w → A.defers = a0.defers → A.tmps.size = a0.tmps.size → Olds l.toArray a0 A → (∀ (i : Nat) (o : Oper) (d : Tmp), l[i]? = some o → o.dst = some d → specs sp i (A.tmps.getD d undef) w) → Q .normal A w) :
    (Code.region id l.toArray true).wp P Q a0 w0 :=
  wp_region_facts (G := specs sp) hm ht (fun j v w w' h hb => Spec.ok_later _ v w w' h hb)
    (fun i o hi => by
      have := allOps_at l 0 hstep i o (by simpa using hi)
      rwa [Nat.zero_add] at this)
    (fun A w h1 h2 h3 h4 h5 => hfin A w h1 h2 h3 h4 fun i o d hi hd => h5 i o d (by simpa using hi) hd)
/-- The same, where the last operation may turn what lies. -/
theorem wp_region_specs_last {P : Program} {a0 : Act} {w0 : World} {id n : Nat} {on : Oper} {Q : Exit → Act → World → Prop} {l : List Oper} (sp : List Spec) (hm : P.follows .mixedOrders = true) (ht : tidyB l.toArray a0.tmps.size = true) (hn : l.toArray.size = n + 1) (hon : l[n]? = some on) (hong : on.guard = none) (hlast : lastB l.toArray n = true)
    (hstep : AllOps P l.toArray a0 w0 sp (l.take n) 0)
    (hfin : ∀ (A : Act) (w : World), Below w0.heap.size w0 w → A.defers = a0.defers → A.tmps.size = a0.tmps.size → Olds l.toArray a0 A → (∀ (i : Nat) (o : Oper) (d : Tmp), i < n → l[i]? = some o → o.dst = some d → specs sp i (A.tmps.getD d undef) w) → ∃ w', (execOp A.eval on).run P w = .ok .skip w' ∧ Q .normal (A.put on.dst undef) w') :
    (Code.region id l.toArray true).wp P Q a0 w0 :=
  wp_region_facts_last (G := specs sp) hm ht hn (by simpa using hon) hong hlast (fun j v w w' h hb => Spec.ok_later _ v w w' h hb)
    (fun i o hin hi => by
      have := allOps_at (l.take n) 0 hstep i o (by rw [List.getElem?_take_of_lt hin]; simpa using hi)
      rwa [Nat.zero_add] at this)
    (fun A w h1 h2 h3 h4 h5 => hfin A w h1 h2 h3 h4 fun i o d hin hi hd => h5 i o d hin (by simpa using hi) hd)
def noDstB (ops : Array Oper) (d : Tmp) : Bool := ops.all fun o => o.dst != some d
theorem olds_get {ops : Array Oper} {a0 A : Act} (ho : Olds ops a0 A) (d : Tmp) (h : noDstB ops d = true) : A.tmps[d]?.getD undef = a0.tmps.getD d undef := by
  have := ho d fun i o hi e => by
    have hm := Array.all_eq_true_iff_forall_mem.1 h o (Array.mem_of_getElem? hi)
    rw [e] at hm
    simp at hm
  rw [this]
  simp
theorem getq {A : Act} {d : Tmp} {v : Value} (h : A.tmps.getD d undef = v) : A.tmps[d]?.getD undef = v := by rw [← h]; simp
theorem goes_value {P : Program} {Gi : Value → World → Prop} {w : World} {r : Result Next} {v : Value} (h : r = .ok (.value v) w) (hg : Gi v w) : GoesTo P Gi w r := by rw [h]; exact ⟨hg, Below.refl _ _⟩
theorem goes_alloc {P : Program} {Gi : Value → World → Prop} {w : World} {r : Result Next} {v : Value} {o : Obj} (h : r = .ok (.value v) (w.alloc o)) (hg : Gi v (w.alloc o)) : GoesTo P Gi w r := by rw [h]; exact ⟨hg, below_alloc _ _⟩
theorem goes_call {P : Program} {x : Value} {w : World} {r : Result Next} {f : FuncId} {args : Array Value} (h : r = .ok (.enter f args) w) (hc : Calls P f args w fun e w' => e = .returned x ∧ Below w.heap.size w w') : GoesTo P (fun v _ => v = x) w r := by
  rw [h]
  exact hc.mono fun e w' ⟨he, hb⟩ => ⟨x, he, rfl, hb⟩
theorem want_true {ops : Array Oper} {A : Act} {o : Oper} {g : Nat} {og : Oper} {d : Tmp} (ho : o.guard = some (g, true)) (hg : ops[g]? = some og) (hd : og.dst = some d) (h : A.tmps.getD d undef = .bool true) : Region.wanted o (yielded ops A.tmps) = true := by
  have hx : A.tmps[d]? = some (.bool true) := by
    have := getq h
    cases hq : A.tmps[d]? with
    | none => rw [hq] at this; exact absurd this (by simp [undef])
    | some v => rw [hq] at this; simpa using this
  unfold Region.wanted yielded
  simp [ho, hg, hd, hx]

theorem frame_fold {A : Act} : ∀ (l : List Oper) (a : Act), a.defers = A.defers → a.tmps.size = A.tmps.size → (∀ d, (∀ o ∈ l, o.dst ≠ some d) → a.tmps[d]? = A.tmps[d]?) →
    l.foldl (fun a o => a.put o.dst (A.tmps.getD (o.dst.getD 0) undef)) a = A
  | [], a, hd, hs, h => by
    cases a with
    | mk t f =>
      cases A with
      | mk t' f' =>
        simp only at hd hs h
        subst hd
        have ht : t = t' := Array.ext_getElem? fun i => h i (by simp)
        subst ht
        rfl
  | o :: r, a, hd, hs, h => by
    rw [List.foldl_cons]
    apply frame_fold r
    · cases ho : o.dst <;> exact hd
    · cases ho : o.dst with
      | none => exact hs
      | some d => simp only [Act.put]; rw [Array.size_setIfInBounds]; exact hs
    · intro d hr
      cases ho : o.dst with
      | none => exact h d (by
          intro o' ho'
          rcases List.mem_cons.1 ho' with e | e
          · rw [e, ho]; simp
          · exact hr o' e)
      | some d' =>
        simp only [Act.put, Option.getD_some]
        by_cases e : d' = d
        · subst e
          rw [Array.getElem?_setIfInBounds]
          rw [if_pos rfl]
          by_cases hlt : d' < a.tmps.size
          · rw [if_pos hlt]
            have : d' < A.tmps.size := hs ▸ hlt
            simp [this]
          · rw [if_neg hlt, Array.getElem?_eq_none (Nat.le_of_not_lt (hs ▸ hlt))]
        · rw [Array.getElem?_setIfInBounds_ne e]
          exact h d (by
            intro o' ho'
            rcases List.mem_cons.1 ho' with e2 | e2
            · rw [e2, ho]; intro e3; exact e (Option.some.inj e3)
            · exact hr o' e2)
theorem frame_puts {l : List Oper} {a0 A : Act} (hdf : A.defers = a0.defers) (hsz : A.tmps.size = a0.tmps.size) (ho : Olds l.toArray a0 A) : A = l.foldl (fun a o => a.put o.dst (A.tmps.getD (o.dst.getD 0) undef)) a0 :=
  (frame_fold l a0 hdf.symm hsz.symm fun d hd => (ho d fun i o hi => hd o (List.mem_of_getElem? (by simpa using hi))).symm).symm

end Su
end Go.Proofs.YtnpbgjafahhadaaDoor
