/- slices.SortFunc of rows by their numbers, slices.SortedFunc, Rows. -/
import Derived.Test.YtgdfmoehbgmfkaaIu
import Derived.Test.YtgdfmoehbgmfkaaSh
import Derived.Test.YtgdfmoehbgmfkaaKw
namespace Go.Proofs.Ytgdfmoehbgmfkaa
open Go.RowKit
namespace Li
open Wi
open Go.Sort (flatK get_flatK size_flatK grow grow_grow alloc_eq_grow putRowK putRow putCells mapBlock onCells HoldsK SWO PermIn SortedIn heap_grow_old)
theorem rcs_get : ∀ (l : List Ro) (t : Nat), t < l.length * 3 → (rcs l)[t]? = some (rc l[t / 3]!)[t % 3]!
  | [], t, h => by simp at h
  | r :: l, t, h => by
    rw [rcs_cons]
    have hl : (rc r).length = 3 := rfl
    by_cases h3 : t < 3
    · rw [List.getElem?_append_left (by omega)]
      match t, h3 with
      | 0, _ => rfl
      | 1, _ => rfl
      | 2, _ => rfl
    · rw [List.getElem?_append_right (by omega), hl, rcs_get l (t - 3) (by simp at h; omega)]
      have e1 : t / 3 = (t - 3) / 3 + 1 := by omega
      have e2 : t % 3 = (t - 3) % 3 := by omega
      rw [e1, e2]
      simp
theorem rcs_flat {α : Type} [Inhabited α] (f : α → Ro) (d : Array α) (t : Nat) (h : t < d.size * 3) : (rcs (d.toList.map f))[t]? = some (flatK (fun x => rc (f x)) 3 d)[t]! := by
  rw [get_flatK _ _ _ _ h, rcs_get _ _ (by simpa using h)]
  have hk : t / 3 < d.size := by omega
  have e1 : (d.toList.map f)[t / 3]! = f d[t / 3]! := by
    rw [getElem!_pos (d.toList.map f) (t / 3) (by simpa using hk), getElem!_pos d (t / 3) hk]
    simp
  rw [e1]

section
variable {α : Type} [Inhabited α]
/-- What a sort leaves: a row of the same block. -/
theorem own_sorted (f : α → Ro) {w : World} {n0 g m cap : Nat} {cur : Array Value} {os : Array Obj} {d d' : Array α} (hb : n0 ≤ g) (hg : w.heap[g]? = some (.cells cur 58 (0, 0))) (hsz : d'.size = d.size) (hnc : d.size ≤ cap) (hcm : cap ≤ maxLen) (hcs : cur.size = cap * 3) :
    (sortWorldK (fun x => rc (f x)) 3 w g 0 m d' os).ownsRow n0 58 3 (.slice (some ⟨g, 0, none⟩) d.size cap) d.size (rcs (d'.toList.map f)) ∧ w.grownBy (sortWorldK (fun x => rc (f x)) 3 w g 0 m d' os) (some g) := by
  have hgl := (Array.getElem?_eq_some_iff.1 hg).1
  constructor
  · refine ⟨by rw [rcs_length]; simp [hsz], .inr ⟨g, cap, putCells id 0 (flatK (fun x => rc (f x)) 3 d') cur, rfl, hb, ?_, hnc, hcm, by simp [putCells, hcs], ?_⟩⟩
    · show (grow (putRow id (Sort.ahead w m) g 0 (flatK (fun x => rc (f x)) 3 d')) os).heap[g]? = _
      rw [heap_grow_old _ _ (by simpa using hgl)]
      simp [putRow, mapBlock, Sort.ahead, Array.getElem?_modify, hg, onCells]
    · apply List.ext_getElem?
      intro t
      by_cases ht : t < d'.size * 3
      · have hcur : t < cur.size := by rw [hcs]; omega
        rw [List.getElem?_take_of_lt (by rw [← hsz]; exact ht), rcs_flat f d' t ht]
        simp [putCells, hcur, ht]
      · rw [List.getElem?_eq_none (by simp; omega), List.getElem?_eq_none (by rw [rcs_length]; simp; omega)]
  · refine ⟨rfl, rfl, rfl, ?_, fun k hk hne => ?_⟩
    · show _ ≤ (grow (putRow id (Sort.ahead w m) g 0 (flatK (fun x => rc (f x)) 3 d')) os).heap.size
      simp [grow, putRow, mapBlock, Sort.ahead]
    · show (grow (putRow id (Sort.ahead w m) g 0 (flatK (fun x => rc (f x)) 3 d')) os).heap[k]? = _
      rw [heap_grow_old _ _ (by simpa [putRow, mapBlock, Sort.ahead] using hk)]
      have hgk : g ≠ k := fun e => hne (by rw [e])
      simp [putRow, mapBlock, Sort.ahead, Array.getElem?_modify, hgk]
theorem holds_rows (f : α → Ro) {w : World} {n0 g n cap : Nat} {d : Array α} (h : w.ownsRow n0 58 3 (.slice (some ⟨g, 0, none⟩) n cap) n (rcs (d.toList.map f))) (hn : n = d.size) : HoldsK (fun x => rc (f x)) 3 w g 0 d := by
  intro t ht
  rw [size_flatK] at ht
  have c := World.ownsRow.cellAt h t (by rw [hn]; exact ht)
  have fz := World.ownsRow.frozenAt h t
  rw [Nat.zero_add]
  refine ⟨?_, fz⟩
  rw [c, rcs_flat f d t ht]
  rfl
end

set_option maxHeartbeats 1000000 in
theorem closure37 (x y : Ro) (W : World) : Calls Try.prog 37 #[.agg #[.int .i64 x.1, .int .i64 x.2.1, .int .i64 x.2.2], .agg #[.int .i64 y.1, .int .i64 y.2.1, .int .i64 y.2.2]] W fun e w' => e = .returned (.int .i64 (Lib.compareInt x.1 y.1)) ∧ ∃ q os', w' = grow (W.drewN q) os' := by
  have hcon := fun W' => AnyG.cmp_Compare_int Try.cmpInt x.1 y.1 W'
  change ∀ W', Calls Try.prog 38 _ _ _ at hcon
  generalize Lib.compareInt x.1 y.1 = r at hcon ⊢
  go_enter Try.func37, Try.ntmps37
  go_wp2_with (go_at_call 38; refine (hcon _).mono ?_; rintro e w' ⟨rfl, rfl⟩)
  go_ret
  exact ⟨rfl, 0, _, by rw [alloc_eq_grow, alloc_eq_grow, grow_grow]; rfl⟩
theorem cmpLays37 (blk off size : Nat) (w : World) : CmpLays Try.prog 37 #[] rc 3 (fun x y => Lib.compareInt x.1 y.1) blk off size w := fun _ _ _ _ x y => closure37 x y _
theorem ltRo (x y : Ro) : ltOf (fun x y : Ro => Lib.compareInt x.1 y.1) x y = decide (x.1 < y.1) := by
  unfold ltOf Lib.compareInt
  by_cases h1 : x.1 < y.1
  · simp [h1]
  · by_cases h2 : y.1 < x.1 <;> simp [h1, h2]
theorem swoRo : SWO (ltOf fun x y : Ro => Lib.compareInt x.1 y.1) := {
  irrefl := fun x => by rw [ltRo]; simp
  trans := fun x y z h1 h2 => by rw [ltRo] at *; simp at *; omega
  ntrans := fun x y z h1 h2 => by rw [ltRo] at *; simp at *; omega }
theorem sorted_is {ys rs : Rows} (hp : List.Perm ys rs) (hr : Ris rs) (hs : ys.Pairwise (fun p q => p.1 ≤ q.1)) : ys = rs := by
  have hne := perm_ne hr.ne hp.symm
  have hy : Ris ys := (List.Pairwise.and hs hne).imp (fun h => by omega)
  refine Ris.ext hy hr fun k => ?_
  cases hg : getA ys k with
  | some v => exact (getA_of_mem hr (hp.mem_iff.1 (getA_mem hg))).symm
  | none =>
    cases hg2 : getA rs k with
    | none => rfl
    | some v => rw [getA_of_mem hy (hp.mem_iff.2 (getA_mem hg2))] at hg; cases hg

set_option maxHeartbeats 1000000 in
theorem sort_any (n0 : Nat) (v : Value) (xs rs : Rows) (w : World) (hp : List.Perm xs rs) (hr : Ris rs) (h : w.ownsRow n0 58 3 v xs.length (rcs xs)) (hl : xs.length ≤ 1000000) :
    Calls Try.prog 51 #[v, .func (.func 37) #[] #[]] w fun e w' => e = .returned (.tuple #[]) ∧ w'.ownsRow n0 58 3 v rs.length (rcs rs) ∧ w.grownBy w' v.ownBlock := by
  rcases id h with ⟨hx, ⟨hv, hn⟩ | ⟨g, cap, cur, hv, hbg, hg, hnc, hcm, hcs, htake⟩⟩
  · have hxs : xs = [] := List.eq_nil_of_length_eq_zero hn
    subst hxs
    have hrs : rs = [] := (List.Perm.nil_eq hp).symm
    have hc := AnyF.slices_SortFunc_none Try.sortSp none 0 (.func (.func 37) #[] #[]) w
    change Calls Try.prog 51 _ _ _ at hc
    rw [hv]
    refine hc.mono fun e w' ⟨he, hw⟩ => ⟨he, ?_, ?_⟩
    · rw [hw, hrs]; exact World.ownsRow_nil _ _ _ _
    · rw [hw]; exact ⟨rfl, rfl, rfl, Nat.le_refl _, fun _ _ _ => rfl⟩
  · have eg : ∀ args w, (callFunc 37 args).run Try.prog w = .ok (.enter 37 args) w := enters_of Try.func37 (by kernel_rfl) rfl
    have hH : HoldsK rc 3 w g 0 xs.toArray := by
      rw [hv] at h
      exact holds_rows (α := Ro) id (d := xs.toArray) (by simpa using h) (by simp)
    have hcon := AnyQ.slices_SortFunc Try.sortSp 3 Try.isAgg58 Try.sizeOf58 rc (fun _ => rfl) (fun x v hv => by simp [rc] at hv; rcases hv with rfl | rfl | rfl <;> rfl) (fun x y => Lib.compareInt x.1 y.1) swoRo 37 #[] g 0 cap xs.toArray w eg (cmpLays37 g 0 _ w) hH (Array.getElem?_eq_some_iff.1 hg).1 (by simp; omega)
    change Calls Try.prog 51 _ _ _ at hcon
    rw [hv]
    rw [List.size_toArray] at hcon
    refine hcon.mono fun e w' ⟨he, d', m, os, hpm, hs, hw⟩ => ?_
    have hsz : d'.size = xs.length := by simpa using hpm.1
    have hpl : d'.toList.Perm xs := by
      have h3 := hpm.2.2
      have e1 : d'.extract 0 xs.length = d' := by rw [show xs.length = d'.size by simpa using hpm.1.symm]; simp
      have e2 : xs.toArray.extract 0 xs.length = xs.toArray := by simp
      rw [e1, e2] at h3
      simpa using h3
    have hord : d'.toList.Pairwise (fun p q : Ro => p.1 ≤ q.1) := by
      rw [List.pairwise_iff_getElem]
      intro i j hi hj hij
      simp only [Array.length_toList] at hi hj
      have h1 := hs i j (Nat.zero_le _) hij (by omega)
      rw [ltRo, getElem!_pos d' j hj, getElem!_pos d' i hi] at h1
      simpa using h1
    have hd : d'.toList = rs := sorted_is (hpl.trans hp) hr hord
    obtain ⟨o1, o2⟩ := own_sorted (α := Ro) id (w := w) (m := m) (os := os) (d := xs.toArray) (d' := d') hbg hg (by simpa using hsz) (by simpa using hnc) hcm hcs
    have hlen : rs.length = xs.length := hp.length_eq.symm
    rw [hw]
    refine ⟨he, ?_, o2⟩
    rw [hlen]
    rw [List.map_id, hd] at o1
    simpa using o1
end Li
end Go.Proofs.Ytgdfmoehbgmfkaa
