/- A part of the proofs about package span: what its functions answer, call by call. -/
import Derived.Test.YthbgniclplfpgaaWt
import Derived.Test.YthbgniclplfpgaaSh
import Derived.Test.YthbgniclplfpgaaPe
namespace Go.Proofs.Ythbgniclplfpgaa
open Go.RowKit
namespace Sp

open Go.Sort (flatK get_flatK size_flatK grow grow_grow alloc_eq_grow putRowK putRow putCells mapBlock onCells HoldsK SWO PermIn SortedIn heap_grow_old)
/-- A span's two cells. -/
def encSp (x : Int × Int) : List Value := [.int .i64 x.1, .int .i64 x.2]
theorem enc2_flat (d : Array (Int × Int)) (t : Nat) (h : t < d.size * 2) : (enc2 d.toList)[t]? = some (flatK encSp 2 d)[t]! := by
  rw [get_flatK _ _ _ _ h]
  have hk : t / 2 < d.toList.length := by simp; omega
  have hn : nth d.toList (t / 2) = d[t / 2]! := by
    rw [nth_eq hk, getElem!_pos d (t / 2) (by simpa using hk)]
    simp
  rcases Nat.mod_two_eq_zero_or_one t with h0 | h0
  · have := enc2_get0 d.toList (t / 2) hk
    rw [show t / 2 * 2 = t by omega] at this
    rw [this, hn, h0]; rfl
  · have := enc2_get1 d.toList (t / 2) hk
    rw [show t / 2 * 2 + 1 = t by omega] at this
    rw [this, hn, h0]; rfl

set_option maxHeartbeats 1000000 in
theorem closure35 (x y : Int × Int) (W : World) : Calls Try.prog 35 #[.agg #[.int .i64 x.1, .int .i64 x.2], .agg #[.int .i64 y.1, .int .i64 y.2]] W fun e w' => e = .returned (.int .i64 (Lib.compareInt x.1 y.1)) ∧ ∃ q os', w' = grow (W.drewN q) os' := by
  have hcon := fun W' => AnyG.cmp_Compare_int Try.cmpInt x.1 y.1 W'
  change ∀ W', Calls Try.prog 36 _ _ _ at hcon
  generalize Lib.compareInt x.1 y.1 = r at hcon ⊢
  go_enter Try.func35, Try.ntmps35
  go_wp2_with (go_at_call 36; refine (hcon _).mono ?_; rintro e w' ⟨rfl, rfl⟩)
  go_ret
  exact ⟨rfl, 0, _, by rw [alloc_eq_grow, alloc_eq_grow, grow_grow]; rfl⟩
theorem cmpLays35 (blk off size : Nat) (w : World) : CmpLays Try.prog 35 #[] encSp 2 (fun x y => Lib.compareInt x.1 y.1) blk off size w := fun _ _ _ _ x y => closure35 x y _
theorem ltSp (x y : Int × Int) : ltOf (fun x y : Int × Int => Lib.compareInt x.1 y.1) x y = decide (x.1 < y.1) := by
  unfold ltOf Lib.compareInt
  by_cases h1 : x.1 < y.1
  · simp [h1]
  · by_cases h2 : y.1 < x.1 <;> simp [h1, h2]
theorem swoSp : SWO (ltOf fun x y : Int × Int => Lib.compareInt x.1 y.1) := {
  irrefl := fun x => by rw [ltSp]; simp
  trans := fun x y z h1 h2 => by rw [ltSp] at *; simp at *; omega
  ntrans := fun x y z h1 h2 => by rw [ltSp] at *; simp at *; omega }
def SortPost (v : Value) (xs : List (Int × Int)) (w : World) (e : Ending) (w' : World) : Prop := e = .returned (.tuple #[]) ∧ ∃ ys : List (Int × Int), ys.Perm xs ∧ Rises ys ∧ Own w' v ys ∧ w.grownBy w' v.ownBlock

theorem sort_any (v : Value) (xs : List (Int × Int)) (w : World) (h : Own w v xs) (hl : xs.length ≤ 1000000) :
    Calls Try.prog 34 #[v, .func (.func 35) #[] #[]] w (SortPost v xs w) := by
  rcases id h with ⟨hx, ⟨hv, hn⟩ | ⟨g, cap, cur, hv, _, hg, hnc, hcm, hcs, htake⟩⟩
  · have hxs : xs = [] := List.eq_nil_of_length_eq_zero hn
    have hc := AnyF.slices_SortFunc_none Try.sortSp none 0 (.func (.func 35) #[] #[]) w
    change Calls Try.prog 34 _ _ _ at hc
    rw [hv]
    refine hc.mono fun e w' ⟨he, hw⟩ => ⟨he, [], by rw [hxs], fun i j _ hj => by simp at hj, ?_, ?_⟩
    · rw [hw]; exact Own.nil w
    · rw [hw]; exact ⟨rfl, rfl, rfl, Nat.le_refl _, fun _ _ _ => rfl⟩
  · have eg : ∀ args w, (callFunc 35 args).run Try.prog w = .ok (.enter 35 args) w := enters_of Try.func35 (by kernel_rfl) rfl
    have hH : HoldsK encSp 2 w g 0 xs.toArray := by
      intro t ht
      rw [size_flatK] at ht
      rw [hv] at h
      have c := World.ownsRow.cellAt h t (by simpa using ht)
      have f := World.ownsRow.frozenAt h t
      rw [Nat.zero_add]
      refine ⟨?_, f⟩
      rw [c]
      have := enc2_flat xs.toArray t ht
      simpa using this
    have hcon := AnyQ.slices_SortFunc Try.sortSp 2 Try.isAgg27 Try.sizeOf27 encSp (fun _ => rfl) (fun x v hv => by simp [encSp] at hv; rcases hv with rfl | rfl <;> rfl) (fun x y => Lib.compareInt x.1 y.1) swoSp 35 #[] g 0 cap xs.toArray w eg (cmpLays35 g 0 _ w) hH (Array.getElem?_eq_some_iff.1 hg).1 (by simp; omega)
    change Calls Try.prog 34 _ _ _ at hcon
    rw [hv]
    rw [List.size_toArray] at hcon
    refine hcon.mono fun e w' ⟨he, d', m, os, hp, hs, hw⟩ => ⟨he, d'.toList, ?_, ?_, ?_, ?_⟩
    · have h3 := hp.2.2
      have e1 : d'.extract 0 xs.length = d' := by rw [show xs.length = d'.size by simpa using hp.1.symm]; simp
      have e2 : xs.toArray.extract 0 xs.length = xs.toArray := by simp
      rw [e1, e2] at h3
      simpa using h3
    · intro i j hij hj
      have hsz : d'.size = xs.length := by simpa using hp.1
      have h1 := hs i j (Nat.zero_le _) hij (by simp at hj; omega)
      rw [ltSp] at h1
      simp only [Array.length_toList] at hj
      rw [nth_eq (by simp; omega), nth_eq (by simp; omega)]
      rw [getElem!_pos d' j hj, getElem!_pos d' i (by omega)] at h1
      simpa using h1
    · have hsz : d'.size = xs.length := by simpa using hp.1
      have hgl := (Array.getElem?_eq_some_iff.1 hg).1
      refine ⟨by rw [enc2_length], .inr ⟨g, cap, putCells id 0 (flatK encSp 2 d') cur, ?_, Nat.zero_le _, ?_, by simp [hsz]; exact hnc, hcm, by simp [putCells, hcs], ?_⟩⟩
      · simp [hsz]
      · rw [hw]
        show (grow (putRow id (Sort.ahead w m) g 0 (flatK encSp 2 d')) os).heap[g]? = _
        rw [heap_grow_old _ _ (by simpa using hgl)]
        simp [putRow, mapBlock, Sort.ahead, Array.getElem?_modify, hg, onCells]
      · apply List.ext_getElem?
        intro t
        by_cases ht : t < d'.size * 2
        · have hcur : t < cur.size := by rw [hcs]; omega
          rw [List.getElem?_take_of_lt (by simpa using ht), enc2_flat d' t ht]
          simp [putCells, hcur, ht]
        · rw [List.getElem?_eq_none (by simp; omega), List.getElem?_eq_none (by rw [enc2_length]; simp; omega)]
    · rw [hw]
      refine ⟨rfl, rfl, rfl, ?_, fun k hk hne => ?_⟩
      · show _ ≤ (grow (putRow id (Sort.ahead w m) g 0 (flatK encSp 2 d')) os).heap.size
        simp [grow, putRow, mapBlock, Sort.ahead]
      · show (grow (putRow id (Sort.ahead w m) g 0 (flatK encSp 2 d')) os).heap[k]? = _
        rw [heap_grow_old _ _ (by simpa [putRow, mapBlock, Sort.ahead] using hk)]
        have hgk : g ≠ k := fun e => hne (by rw [e]; rfl)
        simp [putRow, mapBlock, Sort.ahead, Array.getElem?_modify, hgk]

end Sp
end Go.Proofs.Ythbgniclplfpgaa
