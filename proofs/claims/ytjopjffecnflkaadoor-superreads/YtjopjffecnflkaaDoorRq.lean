/- A region that draws its order, whose last operation writes a slot that others read. -/
import Derived.Test.YtjopjffecnflkaaDoorRp
namespace Go.Proofs.YtjopjffecnflkaaDoor
open Go.RowKit
namespace Su
open Cr
section
variable {P : Program} {ops : Array Oper} {a0 : Act} {w0 : World} {G : Nat → Value → World → Prop}
/-- The slots that none of the first n operations writes are as they were. -/
def OldsN (n : Nat) (ops : Array Oper) (a0 A : Act) : Prop := ∀ d, (∀ (i : Nat) (o : Oper), i < n → ops[i]? = some o → o.dst ≠ some d) → A.tmps[d]? = a0.tmps[d]?
structure FactsN (n : Nat) (ops : Array Oper) (a0 : Act) (w0 : World) (G : Nat → Value → World → Prop) (done : Array Bool) (A : Act) (w : World) : Prop where
  size : done.size = ops.size
  below : Below w0.heap.size w0 w
  defers : A.defers = a0.defers
  slots : A.tmps.size = a0.tmps.size
  olds : OldsN n ops a0 A
  fact : ∀ (i : Nat) (o : Oper) (d : Tmp), ops[i]? = some o → o.dst = some d → done.getD i false = true → G i (A.tmps.getD d undef) w
theorem FactsN.put {done : Array Bool} {A : Act} {w w' : World} {i n : Nat} {o : Oper} (ht : tidyB ops a0.tmps.size = true) (hG : ∀ j v (w w' : World), G j v w → Below w.heap.size w w' → G j v w') (h : FactsN n ops a0 w0 G done A w) (hi : ops[i]? = some o) (hin : i < n) (v : Value) (hv : G i v w') (hb : Below w.heap.size w w') :
    FactsN n ops a0 w0 G (done.setIfInBounds i true) (A.put o.dst v) w' := by
  have hil : i < ops.size := (Array.getElem?_eq_some_iff.1 hi).1
  refine ⟨by simpa using h.size, h.below.trans (hb.mono h.below.size), ?_, ?_, ?_, ?_⟩
  · cases hd : o.dst <;> simp only [Act.put] <;> exact h.defers
  · cases hd : o.dst <;> simp only [Act.put] <;> first | exact h.slots | (rw [Array.size_setIfInBounds]; exact h.slots)
  · intro d hd
    rw [← h.olds d hd]
    cases ho : o.dst with
    | none => rfl
    | some d' =>
      simp only [Act.put]
      rw [Array.getElem?_setIfInBounds_ne]
      intro e
      exact hd i o hin hi (by rw [ho, e])
  · intro j oj d hj hd hdone
    by_cases hij : i = j
    · subst hij
      rw [hi] at hj
      cases hj
      have hlt : d < A.tmps.size := by rw [h.slots]; exact tidy_in ht hi hd
      rw [hd]
      simp only [Act.put]
      simpa [hlt] using hv
    · rw [getD_set_ne false hij] at hdone
      have hf := hG _ _ _ _ (h.fact j oj d hj hd hdone) hb
      cases ho : o.dst with
      | none => exact hf
      | some d' =>
        have hne : d' ≠ d := fun e => hij (tidy_dst ht hi hj (e ▸ ho) hd)
        simp only [Act.put]
        rw [show (A.tmps.setIfInBounds d' v).getD d undef = A.tmps.getD d undef by simp [Array.getElem?_setIfInBounds_ne hne]]
        exact hf

/-- What one operation must show. -/
def OpOKN (n : Nat) (P : Program) (ops : Array Oper) (a0 : Act) (w0 : World) (G : Nat → Value → World → Prop) (i : Nat) (o : Oper) : Prop :=
  ∀ (A : Act) (w : World), Below w0.heap.size w0 w → OldsN n ops a0 A → (∀ e ∈ o.after, Region.binds .any e = true → ∀ (oe : Oper) (d : Tmp), ops[e.on]? = some oe → oe.dst = some d → G e.on (A.tmps.getD d undef) w) → StepOK P ops o A w (G i)

theorem wp_region_facts_end {id n : Nat} {on : Oper} {Q : Exit → Act → World → Prop} (hm : P.follows .mixedOrders = true) (ht : tidyB ops a0.tmps.size = true) (hn : ops.size = n + 1) (hon : ops[n]? = some on) (hong : on.guard = none) (hlast : lastB ops n = true)
    (hG : ∀ j v (w w' : World), G j v w → Below w.heap.size w w' → G j v w') (hstep : ∀ (i : Nat) (o : Oper), i < n → ops[i]? = some o → OpOKN n P ops a0 w0 G i o)
    (hfin : ∀ (A : Act) (w : World), Below w0.heap.size w0 w → A.defers = a0.defers → A.tmps.size = a0.tmps.size → OldsN n ops a0 A → (∀ (i : Nat) (o : Oper) (d : Tmp), i < n → ops[i]? = some o → o.dst = some d → G i (A.tmps.getD d undef) w) → ∃ v w', (execOp A.eval on).run P w = .ok (.value v) w' ∧ Q .normal (A.put on.dst v) w') :
    (Code.region id ops true).wp P Q a0 w0 := by
  have main : ∀ (fuel : Nat) (done : Array Bool) (A : Act) (w : World), FactsN n ops a0 w0 G done A w → done.getD n true = false → left ops.size done = fuel + 1 → wpAny P .any ops Q (fuel + 1) done A w := by
    intro fuel
    induction fuel with
    | zero =>
      intro done A w h hnd hl
      have honly : ∀ i, i < ops.size → i ≠ n → ¬ done.getD i true = false := fun i hi hne hd => by
        have h1 := left_set (n := ops.size) h.size hi hd
        have h2 : left ops.size (done.setIfInBounds i true) = 0 := by omega
        exact left_zero h2 n (by omega) (by rw [getD_set_ne true hne]; exact hnd)
      have hdone : ∀ i, i < n → done.getD i false = true := fun i hi => getD_true_false (by rw [h.size]; omega) (honly i (by omega) (by omega))
      refine ⟨fun hr => absurd hr (some_ready ht h.size n n (Nat.le_refl _) (by omega) hnd), fun i hi => ?_⟩
      obtain ⟨hd, o, ho, hdeps⟩ := mem_ready.1 hi
      have hil : i < ops.size := (Array.getElem?_eq_some_iff.1 ho).1
      have hin : i = n := Classical.byContradiction fun hne => honly i hil hne hd
      subst hin
      rw [hon] at ho
      cases ho
      obtain ⟨v, w', hrun, hq⟩ := hfin A w h.below h.defers h.slots h.olds fun k ok d hk hok hdk => h.fact k ok d hok hdk (hdone k hk)
      unfold wpOp
      simp only [hon]
      rw [if_pos (by simp [Region.wanted, hong])]
      refine .inl ?_
      unfold Oper.wp
      rw [hrun]
      refine ⟨?_, hq⟩
      cases hr : Region.ready .any ops (done.setIfInBounds i true) with
      | nil => rfl
      | cons x r =>
        have hx : x ∈ Region.ready .any ops (done.setIfInBounds i true) := by rw [hr]; simp
        obtain ⟨h0, o, ho, _⟩ := mem_ready.1 hx
        have hxl := (Array.getElem?_eq_some_iff.1 ho).1
        by_cases e : i = x
        · subst e
          simp [h.size, hil] at h0
        · rw [getD_set_ne true e] at h0
          exact absurd h0 (honly x hxl fun e2 => e e2.symm)
    | succ fuel ih =>
      intro done A w h hnd hl
      refine ⟨fun hr => absurd hr (some_ready ht h.size n n (Nat.le_refl _) (by omega) hnd), fun i hi => ?_⟩
      obtain ⟨hd, o, ho, hdeps⟩ := mem_ready.1 hi
      have hil : i < ops.size := (Array.getElem?_eq_some_iff.1 ho).1
      have hin : i ≠ n := fun e => by
        subst e
        have hw := last_waits hlast hi
        have hz := left_set (n := ops.size) h.size hil hd
        have : left ops.size (done.setIfInBounds i true) = 0 := List.countP_eq_zero.2 fun k hk => by
          have hk := List.mem_range.1 hk
          by_cases e : i = k
          · subst e
            simp [h.size, hil]
          · rw [getD_set_ne true e]
            have := hw k (by omega)
            have hks : k < done.size := by rw [h.size]; exact hk
            simp [hks] at this ⊢
            exact this
        omega
      have hs := hstep i o (by omega) ho A w h.below h.olds fun e he hb oe d hoe hde => h.fact e.on oe d hoe hde (hdeps e he hb)
      have hnext : ∀ v w', G i v w' → Below w.heap.size w w' → wpAny P .any ops Q (fuel + 1) (done.setIfInBounds i true) (A.put o.dst v) w' := fun v w' hv hb =>
        ih _ _ _ (h.put ht hG ho (by omega) v hv hb) (by rw [getD_set_ne true hin]; exact hnd) (by have := left_set (n := ops.size) h.size hil hd; omega)
      unfold wpOp
      simp only [ho]
      rw [if_pos hs.want]
      refine .inl ?_
      have hg := hs.goes
      unfold Oper.wp
      generalize (execOp A.eval o).run P w = r at hg
      cases r with
      | ok x w' =>
        cases x <;> simp only [GoesTo] at hg
        case value v => exact hnext v w' hg.1 hg.2
        case enter f args =>
          refine hg.mono fun e w'' ⟨v, he, hv, hb⟩ => ?_
          subst he
          exact hnext v w'' hv hb
      | halt x w' => simp only [GoesTo] at hg
  have hR := main n (Array.replicate ops.size false) a0 w0.drew ⟨by simp, (Below.refl _ _).drew, rfl, rfl, fun _ _ => rfl, fun i o d hi hd hf => by
    have : i < ops.size := (Array.getElem?_eq_some_iff.1 hi).1
    simp [this] at hf⟩ (by simp [show n < ops.size by omega]) (by rw [left_all, hn])
  rw [← hn] at hR
  exact wp_region_any hm hR


end
def AllOpsN (n : Nat) (P : Program) (ops : Array Oper) (a0 : Act) (w0 : World) (sp : List Spec) : List Oper → Nat → Prop
  | [], _ => True
  | o :: r, k => OpOKN n P ops a0 w0 (specs sp) k o ∧ AllOpsN n P ops a0 w0 sp r (k + 1)
theorem allOpsN_at {n : Nat} {P : Program} {ops : Array Oper} {a0 : Act} {w0 : World} {sp : List Spec} : ∀ (l : List Oper) (k : Nat), AllOpsN n P ops a0 w0 sp l k → ∀ (i : Nat) (o : Oper), l[i]? = some o → OpOKN n P ops a0 w0 (specs sp) (k + i) o
  | [], _, _, i, o, h => by simp at h
  | x :: r, k, ⟨h1, h2⟩, i, o, h => by
    cases i with
    | zero => simp at h; subst h; exact h1
    | succ i =>
      have := allOpsN_at r (k + 1) h2 i o (by simpa using h)
      rwa [show k + 1 + i = k + (i + 1) by omega] at this
/-- The last operation leaves a value in a slot that others may read. -/
theorem wp_region_specs_end {P : Program} {a0 : Act} {w0 : World} {id n : Nat} {on : Oper} {Q : Exit → Act → World → Prop} {l : List Oper} (sp : List Spec) (hm : P.follows .mixedOrders = true) (ht : tidyB l.toArray a0.tmps.size = true) (hn : l.toArray.size = n + 1) (hon : l[n]? = some on) (hong : on.guard = none) (hlast : lastB l.toArray n = true)
    (hstep : AllOpsN n P l.toArray a0 w0 sp (l.take n) 0)
    (hfin : ∀ (A : Act) (w : World), Below w0.heap.size w0 w → A.defers = a0.defers → A.tmps.size = a0.tmps.size → OldsN n l.toArray a0 A → (∀ (i : Nat) (o : Oper) (d : Tmp), i < n → l[i]? = some o → o.dst = some d → specs sp i (A.tmps.getD d undef) w) → ∃ v w', (execOp A.eval on).run P w = .ok (.value v) w' ∧ Q .normal (A.put on.dst v) w') :
    (Code.region id l.toArray true).wp P Q a0 w0 :=
  wp_region_facts_end (G := specs sp) hm ht hn (by simpa using hon) hong hlast (fun j v w w' h hb => Spec.ok_later _ v w w' h hb)
    (fun i o hin hi => by
      have := allOpsN_at (l.take n) 0 hstep i o (by rw [List.getElem?_take_of_lt hin]; simpa using hi)
      rwa [Nat.zero_add] at this)
    (fun A w h1 h2 h3 h4 h5 => hfin A w h1 h2 h3 h4 fun i o d hin hi hd => h5 i o d hin (by simpa using hi) hd)

def noDstN (ops : List Oper) (d : Tmp) : Bool := ops.all fun o => o.dst != some d
theorem oldsN_get {n : Nat} {ops : Array Oper} {a0 A : Act} (ho : OldsN n ops a0 A) (d : Tmp) (h : noDstN (ops.toList.take n) d = true) : A.tmps[d]?.getD undef = a0.tmps.getD d undef := by
  have := ho d fun i o hin hi e => by
    have hl : (ops.toList.take n)[i]? = some o := by rw [List.getElem?_take_of_lt hin]; simpa using hi
    have hm := List.all_eq_true.1 h o (List.mem_of_getElem? hl)
    rw [e] at hm
    simp at hm
  rw [this]
  simp
theorem frame_putsN {n : Nat} {l : List Oper} {a0 A : Act} (hdf : A.defers = a0.defers) (hsz : A.tmps.size = a0.tmps.size) (ho : OldsN n l.toArray a0 A) : A = (l.take n).foldl (fun a o => a.put o.dst (A.tmps.getD (o.dst.getD 0) undef)) a0 :=
  (frame_fold (l.take n) a0 hdf.symm hsz.symm fun d hd => (ho d fun i o hin hi => hd o (List.mem_of_getElem? (i := i) (by rw [List.getElem?_take_of_lt hin]; simpa using hi))).symm).symm
end Su
end Go.Proofs.YtjopjffecnflkaaDoor
