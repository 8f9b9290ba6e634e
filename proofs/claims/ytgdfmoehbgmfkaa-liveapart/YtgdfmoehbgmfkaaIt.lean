/- maps.Values of a map of rows: its iterator, for every loop body. -/
import Derived.Test.YtgdfmoehbgmfkaaMa
import Derived.Test.YtgdfmoehbgmfkaaProg
import Derived.RangeFuncNested
import Derived.RangeFuncMany
import Derived.RangeFuncLeaves
import Derived.RangeFuncBound
import Derived.RangeFuncCalls
import Derived.RangeFuncOne
import Derived.Sort.MapsRangeIn
import Derived.WalkKit
import Derived.OwnWalkIn
import Derived.TacticsInMore
import Derived.RegionIn
import Derived.LoopNIn
import Derived.LoopIn
import Derived.Shelf.Abstract
import Derived.Maps.AppendAt
namespace Go.Proofs.Ytgdfmoehbgmfkaa
open Go.RowKit
namespace Li
abbrev Ro := Int × (Int × Int)
abbrev roV (r : Ro) : Value := .agg #[.int .i64 r.1, .int .i64 r.2.1, .int .i64 r.2.2]
section
variable {H : Type}
def roD (r : Ro) : DataW H := .agg [.lit (.int .i64 r.1), .lit (.int .i64 r.2.1), .lit (.int .i64 r.2.2)]
/-- How a map's element reads as a row. -/
def rowR (v : Value) : Option (DataW H × List MemPlace) :=
  match v with
  | .agg xs => match xs.toList with
    | [.int .i64 a, .int .i64 b, .int .i64 c] => some (roD (a, b, c), [])
    | _ => none
  | _ => none
theorem rowR_mk (r : Ro) : rowR (H := H) (roV r) = some (roD r, []) := rfl
theorem roV_inj {r s : Ro} (h : roV r = roV s) : r = s := by
  obtain ⟨a, b, c⟩ := r
  obtain ⟨a', b', c'⟩ := s
  simp [roV] at h
  obtain ⟨rfl, rfl, rfl⟩ := h
  rfl
theorem roD_inj {r s : Ro} (h : roD (H := H) r = roD s) : r = s := by
  obtain ⟨a, b, c⟩ := r
  obtain ⟨a', b', c'⟩ := s
  simp [roD] at h
  obtain ⟨rfl, rfl, rfl⟩ := h
  rfl
theorem rowR_inv {v : Value} {y : DataW H × List MemPlace} (h : rowR v = some y) : ∃ r, v = roV r ∧ y = (roD r, []) := by
  unfold rowR at h
  split at h
  · rename_i xs
    split at h
    · rename_i a b c e
      refine ⟨(a, b, c), ?_, by cases h; rfl⟩
      unfold roV
      congr 1
      apply Array.toList_inj.1
      exact e
    · cases h
  · cases h
def roDv (k : Int) (p : Int × Int) : DataW H := roD (k, p)
end
abbrev Rows := Al (Int × Int)
/-- Block b is a map of at most n rows that holds l. -/
def MapAt (w : World) (b n : Nat) (l : Rows) : Prop := Ris l ∧ w.ownsMap (H := Unit) Try.prog 3 rowR b n (mapG roDv l)
theorem del_perm {l : Rows} (h : l.Pairwise (fun p q => p.1 ≠ q.1)) {r : Ro} (hr : r ∈ l) : l.Perm (r :: delA l r.1) := by
  induction l with
  | nil => cases hr
  | cons p s ih =>
    have hp := List.pairwise_cons.1 h
    rcases List.mem_cons.1 hr with e | e
    · subst e
      have : delA (r :: s) r.1 = s := by
        unfold delA
        rw [List.filter_cons]
        simp only [bne_self_eq_false, Bool.false_eq_true, if_false]
        rw [List.filter_eq_self]
        intro q hq
        have := hp.1 q hq
        simp [bne_iff_ne]; exact fun e => this e.symm
      rw [this]
    · have hne := hp.1 r e
      have : delA (p :: s) r.1 = p :: delA s r.1 := by
        unfold delA
        rw [List.filter_cons]
        have : (p.1 != r.1) = true := by simpa [bne_iff_ne] using hne
        simp [this]
      rw [this]
      exact ((ih hp.2 e).cons p).trans (List.Perm.swap _ _ _)
theorem Ris.ne {β : Type} {l : Al β} (h : Ris l) : l.Pairwise (fun p q => p.1 ≠ q.1) := List.Pairwise.imp (fun h => by omega) h
theorem perm_ne {l m : Rows} (h : l.Pairwise (fun p q => p.1 ≠ q.1)) (hp : l.Perm m) : m.Pairwise (fun p q => p.1 ≠ q.1) := hp.pairwise h (fun h e => h e.symm)
theorem int_keyed3 : Maps.Keyed Try.prog 3 := Maps.int_keyed Try.underlying3

set_option maxRecDepth 100000 in
set_option maxHeartbeats 1000000 in
/-- What maps.Values answers, called: the rows come, each once, in some order. -/
theorem vals_in (F : Fence) (n : Nat) (h8 : F.fn 52) (hro : F.round = none) (hn : 1 ≤ n) (l Bm b nn : Nat) (rs : Rows) (hris : Ris rs) (J Jx : List Ro → World → Prop)
    (hY : ∀ pre x W, J pre W → pre.length < rs.length → YieldAt F (n - 1) Try.prog l #[roV x] W fun e W' =>
      (e = .returned (.bool true) ∧ J (pre ++ [x]) W' ∧ KeepsWalks W W') ∨ (e = .returned (.bool false) ∧ Jx (pre ++ [x]) W'))
    (W : World) (hJ : AbidesFrom W.heap.size J) (hm : W.cell? ⟨Bm, 0, none⟩ = some (.map (some b))) (hown : W.ownsMap (H := Unit) Try.prog 3 rowR b nn (mapG roDv rs)) (h0 : J [] W) :
    CallsIn F n Try.prog 52 #[.func (.yield l) #[] #[], .pointer (some ⟨Bm, 0, none⟩)] W fun e W' => (∃ v, e = .returned v) ∧
      ((∃ xs : List Ro, xs.Perm rs ∧ J xs W') ∨ (∃ pre, (∃ ys : List Ro, (pre ++ ys).Perm rs) ∧ Jx pre W')) := by
  refine callsIn_of_wp Try.func52 rfl h8 ?_ hro
  simp only [Try.ntmps52, List.size_toArray, List.length_cons, List.length_nil, Nat.reduceAdd, Nat.reduceSub, Array.replicate_succ, Array.replicate_zero, List.push_toArray, List.append_toArray, List.nil_append, List.cons_append]
  gi_wp2_with (first
    | (gi_at_range; refine wpListIn_range_own _ rfl _ 69 rfl 3 58 int_keyed3 Try.underlying69 _ b nn _ rfl hown ?_; intro w0 hrg0 hg0 hs0)
    | gi_in)
  go_frame
  gi_loopw [4] (fun _ wr => ∃ (left : Lit → Bool) (cnt : Nat) (ps rest : List Ro), wr.ranges Try.prog 3 rowR b W.heap.size nn (mapG roDv rs) left cnt ∧ ps.length + cnt ≤ rs.length ∧ (ps ++ rest).Perm rs ∧ (∀ k, left (.int .i64 k) = (getA rest k).isSome) ∧ J ps wr)
    (fun _ wr => wr.rangeLeft b W.heap.size)
  case atStart =>
    refine ⟨_, _, [], rs, hrg0, by simp [size_mapG], by simp, fun k => has_mapG _ _ _, hJ [] W w0 none h0 hg0 (fun r e => by cases e)⟩
  case round =>
    obtain ⟨left, cnt, ps, rest, hrg, hcs, hC, hlk0, hJs⟩ := hrel
    gi_wp2_with (first
      | (gi_at_next; refine wpListIn_next_ranges _ rfl _ rfl 3 int_keyed3 rowR (Value.int .i64) roV (fun key kl hk => by obtain ⟨x, hx, _⟩ := Maps.keyOf_int_inv Try.underlying3 hk; exact ⟨x, hx⟩) (fun v y hv => by obtain ⟨c, rfl, _⟩ := rowR_inv hv; exact ⟨c, rfl⟩) b W.heap.size nn _ _ _ rfl hrg ?_ ?_)
      | gi_in)
    · intro hc0 hl0
      gi_wp2
      go_end0
      refine ⟨⟨_, rfl⟩, .inl ⟨ps, ?_, hJs⟩⟩
      have : rest = [] := by
        cases rest with
        | nil => rfl
        | cons p s => have := hlk0 p.1; rw [hl0, getA_cons, if_pos rfl] at this; cases this
      rw [this, List.append_nil] at hC
      exact hC
    · intro x ca cb cc kl yd yp w2 cnt2 hkey hlk hv hat hrg2 hlt hg2 hs2 hen
      obtain ⟨x', ex, rfl, hwx⟩ := Maps.keyOf_int_inv Try.underlying3 hkey
      obtain rfl : x = x' := by simpa using ex
      obtain ⟨c', ec, ez⟩ := rowR_inv (v := roV (ca, cb, cc)) hv
      obtain rfl := roV_inj ec
      obtain ⟨c, hcd⟩ : ∃ c : Ro, c = (ca, cb, cc) := ⟨_, rfl⟩
      rw [← hcd] at ez
      have hc : getA rs x = some c.2 ∧ c.1 = x := by
        have h1 := hat .nil
        have ez1 : yd = roD c := congrArg Prod.fst ez
        rw [ez1, at_mapG] at h1
        cases hg : getA rs x with
        | none => rw [hg] at h1; cases h1
        | some p =>
          rw [hg] at h1
          have h2 := roD_inj (H := Unit) (show roD (x, p) = roD c from h1)
          rw [← h2]; exact ⟨rfl, rfl⟩
      obtain ⟨hc1, hc2⟩ := hc
      have hne := perm_ne hris.ne hC.symm
      have hmem : c ∈ rest := by
        have h1 := hlk0 x
        rw [hlk] at h1
        cases hg : getA rest x with
        | none => rw [hg] at h1; cases h1
        | some p =>
          have h2 : (x, p) ∈ rest := getA_mem hg
          have h3 : (x, p) ∈ rs := hC.mem_iff.1 (List.mem_append_right _ h2)
          rw [getA_of_mem hris h3] at hc1
          have : c = (x, p) := by rw [← hc2]; exact Prod.ext rfl (Option.some.inj hc1).symm
          rw [this]; exact h2
      have hrestne : rest.Pairwise (fun p q => p.1 ≠ q.1) := (List.pairwise_append.1 hne).2.1
      have hperm := del_perm hrestne hmem
      have hC2 : ((ps ++ [c]) ++ delA rest x).Perm rs := by
        rw [List.append_assoc]
        refine List.Perm.trans ?_ hC
        refine List.Perm.append_left ps ?_
        rw [← hc2]
        exact hperm.symm
      have hlk2 : ∀ k, (left (.int .i64 k) && !(Lit.int .i64 k).sameKey (.int .i64 x)) = (getA (delA rest x) k).isSome := fun k => by
        rw [hlk0, same_int, getA_del]
        by_cases e : k = x
        · simp [e]
        · have : (k == x) = false := by simpa using e
          simp [this, e]
      have hJ2 : J ps w2 := hJ ps wr w2 (some W.heap.size) hJs hg2 (fun r e => by cases e; exact ⟨Nat.le_refl _, hrg.iter_walk⟩)
      have hJ3 : J ps (w2.alloc (.cells #[.int .i64 ca, .int .i64 cb, .int .i64 cc] 58)) := hJ ps w2 _ none hJ2 (World.grownBy_alloc w2 _ none) (fun r e => by cases e)
      obtain ⟨fn, tmps, assign, body, hy, hR⟩ := hY ps c _ hJ3 (by omega)
      rw [hcd, roV] at hy
      dsimp only at hy
      clear hs2
      gi_wp2
      refine hR.mono ?_
      rintro e W3 (⟨rfl, hJ4, hk3⟩ | ⟨rfl, hJx3⟩)
      · gi_wp2
        have hrg3 := (hrg2.of_walks (KeepsWalks.alloc _ _)).of_walks hk3
        go_roundw
        case rel => exact ⟨_, cnt2, ps ++ [c], delA rest x, hrg3, by simp; omega, hC2, hlk2, hJ4⟩
        case measure => rw [hrg3.left_eq, hrg.left_eq]; exact hlt
      · gi_wp2
        refine bodyPost_ret (results_none rfl _ _ _) rfl ?_
        exact ⟨⟨_, rfl⟩, .inr ⟨ps ++ [c], ⟨_, hC2⟩, hJx3⟩⟩

/-- maps.Values: the map is boxed; the function value captures the box. -/
theorem values_in (F : Fence) (n : Nat) (hf : F.fn 36) (hro : F.round = none) (mb : Option Nat) (w : World) :
    CallsIn F n Try.prog 36 #[.map mb] w fun e w' => e = .returned (.func (.func 52) #[] #[.pointer (some ⟨w.heap.size, 0, none⟩)]) ∧ w' = w.alloc (.cells #[.map mb] 69) := by
  refine callsIn_of_wp Try.func36 rfl hf ?_ hro
  simp only [Try.ntmps36, List.size_toArray, List.length_cons, List.length_nil, Nat.reduceAdd, Nat.reduceSub, Array.replicate_succ, Array.replicate_zero, List.push_toArray, List.append_toArray, List.nil_append, List.cons_append]
  gi_wp2
  go_ret
  exact ⟨rfl, rfl⟩

/-- maps.Values hands back a value that stops. -/
theorem vals_stops (F : Fence) (n : Nat) (h7 : F.fn 52) (hro : F.round = none) (hn : 1 ≤ n) (Bm b nn : Nat) (rs : Rows) (hris : Ris rs) (w : World) (hBm : Bm < w.heap.size)
    (hm : w.cell? ⟨Bm, 0, none⟩ = some (.map (some b))) (hown : w.ownsMap (H := Unit) Try.prog 3 rowR b nn (mapG roDv rs)) :
    SeqStopsK F n Try.prog 52 #[.pointer (some ⟨Bm, 0, none⟩)] (fun x : Ro => #[roV x]) KeepsWalks (fun xs => xs.Perm rs) (fun pre => ∃ ys : List Ro, (pre ++ ys).Perm rs) rs.length w := fun l J Jx W hW hJ _ hY h0 => by
  have hown' : W.ownsMap (H := Unit) Try.prog 3 rowR b nn (mapG roDv rs) := by
    have hbl := hown.lt
    obtain ⟨es, clock, hb, Ft, hs, hD⟩ := hown
    exact ⟨es, clock, (hW.block b hbl).trans hb, Ft, hs, hD⟩
  exact vals_in F n h7 hro hn l Bm b nn rs hris J Jx hY W hJ ((hW.cell (p := ⟨Bm, 0, none⟩) hBm).trans hm) hown' h0
end Li
end Go.Proofs.Ytgdfmoehbgmfkaa
