/- A region that draws its order, with what each of its operations leaves written out in a list. -/
import Derived.Test.YtbjhajomeegobaaDoorRg
namespace Go.Proofs.YtbjhajomeegobaaDoor
open Go.RowKit
namespace Cr

/-- What an operation leaves: this value, or a slice of these strings. -/
def Spec : Type := Sum Value (List ByteArray)
def Spec.val (v : Value) : Spec := Sum.inl v
def Spec.strs (xs : List ByteArray) : Spec := Sum.inr xs
def Spec.ok (s : Spec) (v : Value) (w : World) : Prop := match s with
  | Sum.inl x => v = x
  | Sum.inr xs => ∃ a n cap, v = .slice a n cap ∧ Ss w a n xs
theorem Spec.ok_later (s : Spec) (v : Value) (w w' : World) (h : s.ok v w) (hb : Below w.heap.size w w') : s.ok v w' := by
  cases s with
  | inl x => exact h
  | inr xs =>
    obtain ⟨a, n, cap, hv, hs⟩ := h
    exact ⟨a, n, cap, hv, hs.later hb⟩
def specs (sp : List Spec) (i : Nat) : Value → World → Prop := (sp.getD i (.val undef)).ok
def AllOps (P : Program) (ops : Array Oper) (a0 : Act) (w0 : World) (sp : List Spec) : List Oper → Nat → Prop
  | [], _ => True
  | o :: r, k => OpOK P ops a0 w0 (specs sp) k o ∧ AllOps P ops a0 w0 sp r (k + 1)
theorem allOps_at {P : Program} {ops : Array Oper} {a0 : Act} {w0 : World} {sp : List Spec} : ∀ (l : List Oper) (k : Nat), AllOps P ops a0 w0 sp l k → ∀ (i : Nat) (o : Oper), l[i]? = some o → OpOK P ops a0 w0 (specs sp) (k + i) o
  | [], _, _, i, o, h => by simp at h
  | x :: r, k, ⟨h1, h2⟩, i, o, h => by
    cases i with
    | zero => simp at h; subst h; exact h1
    | succ i =>
      have := allOps_at r (k + 1) h2 i o (by simpa using h)
      rwa [show k + 1 + i = k + (i + 1) by omega] at this
theorem wp_region_specs {P : Program} {a0 : Act} {w0 : World} {id : Nat} {Q : Exit → Act → World → Prop} {l : List Oper} (sp : List Spec) (hm : P.follows .mixedOrders = true) (ht : tidyB l.toArray a0.tmps.size = true)
    (hstep : AllOps P l.toArray a0 w0 sp l 0)
    (hfin : ∀ (A : Act) (w : World), Below w0.heap.size w0 w → A.defers = a0.defers → A.tmps.size = a0.tmps.size → Olds l.toArray a0 A → (∀ (i : Nat) (o : Oper) (d : Tmp), l[i]? = some o → o.dst = some d → specs sp i (A.tmps.getD d undef) w) → Q .normal A w) :
    (Code.region id l.toArray true).wp P Q a0 w0 :=
  wp_region_facts (G := specs sp) hm ht (fun j v w w' h hb => Spec.ok_later _ v w w' h hb)
    (fun i o hi => by
      have := allOps_at l 0 hstep i o (by simpa using hi)
      rwa [Nat.zero_add] at this)
    (fun A w h1 h2 h3 h4 h5 => hfin A w h1 h2 h3 h4 fun i o d hi hd => h5 i o d (by simpa using hi) hd)
def noDstB (ops : Array Oper) (d : Tmp) : Bool := ops.all fun o => o.dst != some d
theorem olds_get {ops : Array Oper} {a0 A : Act} (ho : Olds ops a0 A) (d : Tmp) (h : noDstB ops d = true) : A.tmps[d]?.getD undef = a0.tmps.getD d undef := by
  have := ho d fun i o hi e => by
    have hm := Array.all_eq_true_iff_forall_mem.1 h o (Array.mem_of_getElem? hi)
    rw [e] at hm
    simp at hm
  rw [this]
  simp
theorem getq {A : Act} {d : Tmp} {v : Value} (h : A.tmps.getD d undef = v) : A.tmps[d]?.getD undef = v := by rw [← h]; simp
theorem goes_value {P : Program} {Gi : Value → World → Prop} {w : World} {r : Result Next} {v : Value} (h : r = .ok (.value v) w) (hg : Gi v w) : Goes P Gi w r := by rw [h]; exact ⟨hg, Below.refl _ _⟩
theorem goes_alloc {P : Program} {Gi : Value → World → Prop} {w : World} {r : Result Next} {v : Value} {o : Obj} (h : r = .ok (.value v) (w.alloc o)) (hg : Gi v (w.alloc o)) : Goes P Gi w r := by rw [h]; exact ⟨hg, below_alloc _ _⟩
theorem goes_call {P : Program} {x : Value} {w : World} {r : Result Next} {f : FuncId} {args : Array Value} (h : r = .ok (.enter f args) w) (hc : Calls P f args w fun e w' => e = .returned x ∧ Below w.heap.size w w') : Goes P (fun v _ => v = x) w r := by
  rw [h]
  exact hc.mono fun e w' ⟨he, hb⟩ => ⟨x, he, rfl, hb⟩
theorem want_true {ops : Array Oper} {A : Act} {o : Oper} {g : Nat} {og : Oper} {d : Tmp} (ho : o.guard = some (g, true)) (hg : ops[g]? = some og) (hd : og.dst = some d) (h : A.tmps.getD d undef = .bool true) : Region.wanted o (yielded ops A.tmps) = true := by
  have hx : A.tmps[d]? = some (.bool true) := by
    have := getq h
    cases hq : A.tmps[d]? with
    | none => rw [hq] at this; exact absurd this (by simp [undef])
    | some v => rw [hq] at this; simpa using this
  unfold Region.wanted yielded
  simp [ho, hg, hd, hx]

end Cr
end Go.Proofs.YtbjhajomeegobaaDoor
