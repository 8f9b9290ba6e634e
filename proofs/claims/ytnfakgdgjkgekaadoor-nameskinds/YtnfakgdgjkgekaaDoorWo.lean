/- Numbers in their order, each once: rising. -/
import Derived.Test.YtnfakgdgjkgekaaDoorWn
import Derived.Test.YtnfakgdgjkgekaaDoorMc
import Derived.Test.YtnfakgdgjkgekaaDoorWc
namespace Go.Proofs.YtnfakgdgjkgekaaDoor
open Go.RowKit
namespace Wi

open Go.Sort (putRow putCells mapBlock onCells grow heap_grow_old Holds)
def encI (l : List Int) : List Value := l.map fun x => .int .i64 x
theorem encI_length (l : List Int) : (encI l).length = l.length := List.length_map ..
theorem encI_append (l m : List Int) : encI (l ++ m) = encI l ++ encI m := List.map_append
theorem encI_one (l : List Int) : ∀ u ∈ encI l, u.oneCell' = true := by
  intro u hu
  obtain ⟨o, _, rfl⟩ := List.mem_map.1 hu
  rfl
theorem encI_get {l : List Int} {j : Nat} {x : Int} (h : l[j]? = some x) : (encI l)[j]? = some (.int .i64 x) := by simp [encI, h]
theorem sort_world {w : World} {g off cap n : Nat} {zs ys : List Int} (h : Rw w 3 1 (.slice (some ⟨g, off, none⟩) n cap) n (encI zs)) (hl : ys.length = n) (m : Nat) (os : Array Obj) :
    Rw (grow (putRow (Value.int .i64) (Sort.ahead w m) g off ys.toArray) os) 3 1 (.slice (some ⟨g, off, none⟩) n cap) n (encI ys) ∧ Keep (fun k => k = g) w (grow (putRow (Value.int .i64) (Sort.ahead w m) g off ys.toArray) os) := by
  rcases h.2 with ⟨hv, _⟩ | ⟨g', off', cap', cur, hv, hg, k1, k2, k3, k4⟩
  · cases hv
  · cases hv
    have hgl := lt_of_block hg
    constructor
    · refine ⟨by rw [encI_length, hl, Nat.mul_one], .inr ⟨g, off, cap, putCells (Value.int .i64) off ys.toArray cur, rfl, ?_, k1, k2, by simpa [putCells] using k3, ?_⟩⟩
      · rw [heap_grow_old _ _ (by simpa [putRow, mapBlock, Sort.ahead] using hgl)]
        simp [putRow, mapBlock, Sort.ahead, Array.getElem?_modify, hg, onCells]
      · apply List.ext_getElem?
        intro t
        by_cases ht : t < n
        · have hcur : off + t < cur.size := by omega
          rw [List.getElem?_take_of_lt (by omega), List.getElem?_drop]
          have hy : ys[t]? = some (ys[t]'(by omega)) := List.getElem?_eq_getElem (by omega)
          rw [encI_get hy]
          simp [putCells, hcur, hl, ht]
        · rw [List.getElem?_eq_none (by simp; omega), List.getElem?_eq_none (by rw [encI_length]; omega)]
    · refine ⟨rfl, rfl, rfl, by simp [grow, putRow, mapBlock, Sort.ahead], fun k hk hne => ?_⟩
      rw [heap_grow_old _ _ (by simpa [putRow, mapBlock, Sort.ahead] using hk)]
      simp [putRow, mapBlock, Sort.ahead, Array.getElem?_modify, show g ≠ k from fun e => hne e.symm]
theorem rw_getD {w : World} {g off cap n : Nat} {zs : List Int} (h : Rw w 3 1 (.slice (some ⟨g, off, none⟩) n cap) n (encI zs)) : ∀ j, j < zs.length → w.cell? ⟨g, off + j, none⟩ = some (.int .i64 (zs.getD j 0)) ∧ w.frozen? ⟨g, off + j, none⟩ = false := fun j hj => by
  have hx : zs[j]? = some zs[j] := List.getElem?_eq_getElem hj
  have := h.cell (encI_get hx)
  rw [List.getD_eq_getElem?_getD, hx]
  exact this
/-- What rising leaves: the same block, the numbers in their order. -/
structure Rose (w : World) (v : Value) (zs : List Int) (w' : World) (v' : Value) : Prop where
  row : Rw w' 3 1 v' (SR zs).length (encI (SR zs))
  keep : Keep (fun k => v.ownBlock = some k) w w'
  own : v'.ownBlock = v.ownBlock
theorem Rw.narrow {w : World} {e : TypeId} {size n m : Nat} {g off cap : Nat} {xs : List Value} (h : Rw w e size (.slice (some ⟨g, off, none⟩) n cap) n xs) (hm : m ≤ n) : Rw w e size (.slice (some ⟨g, off, none⟩) m cap) m (xs.take (m * size)) := by
  rcases h.2 with ⟨hv, _⟩ | ⟨g', off', cap', cur, hv, hg, k1, k2, k3, k4⟩
  · cases hv
  · cases hv
    have hle : m * size ≤ n * size := Nat.mul_le_mul_right _ hm
    refine ⟨by rw [List.length_take, h.1]; omega, ?_⟩
    exact .inr ⟨g, off, cap, cur, rfl, hg, by omega, k2, k3, by rw [← k4, List.take_take, Nat.min_eq_left hle]⟩
theorem splice_all {α : Type} (xs c : List α) (h : c.length = xs.length) : splice xs 0 c = c := by
  simp [splice, h]
theorem drewN_keep (X : Nat → Prop) (w : World) (q : Nat) : Keep X w (w.drewN q) := by
  induction q with
  | zero => exact Keep.refl _ _
  | succ q ih => exact ih.drew
set_option maxHeartbeats 2000000 in
theorem rising_any {w : World} {v : Value} {n : Nat} {zs : List Int} (h : Rw w 3 1 v n (encI zs)) (hn : zs.length = n) (hb : n ≤ 1000000) : Calls Tryd.prog 32 #[v] w fun e w' => ∃ v', e = .returned v' ∧ Rose w v zs w' v' := by
  by_cases h0 : n = 0
  · subst h0
    have hz : zs = [] := List.eq_nil_of_length_eq_zero hn
    subst hz
    obtain ⟨a, cap, rfl⟩ := h.form
    have hs := Tryd.slices_Sort_int_none a cap w
    have hc := Tryd.slices_Compact_int_empty a cap w
    have e0 : SR [] = [] := List.eq_nil_of_length_eq_zero (by have := SR_length []; simpa using this)
    have HF : Hid (Rose w (.slice a 0 cap) [] w (.slice a 0 cap)) := ⟨by rw [e0]; exact h, Keep.refl _ _, rfl⟩
    clear e0
    clear h hn
    go_enter Tryd.func32, Tryd.ntmps32
    go_wp2_with fail
    refine hs.mono ?_
    rintro e w1 ⟨rfl, hww⟩
    subst hww
    clear hs
    go_wp2_with fail
    refine hc.mono ?_
    rintro e w2 ⟨rfl, hww⟩
    subst hww
    clear hc
    go_wp2
    go_ret
    exact ⟨_, rfl, HF.out⟩
  · obtain ⟨g, off, cap, rfl, hgl, hnc, hcm⟩ := h.pos (by omega)
    have hsz := hn
    have hs := Tryd.slices_Sort_int g off cap zs w (fun j hj => by
      have := rw_getD h j (by simpa using hj)
      rw [getElem!_pos zs.toArray j hj]
      rw [List.getD_eq_getElem?_getD, List.getElem?_eq_getElem (by simpa using hj)] at this
      simpa using this) hgl (by omega)
    rw [hn] at hs
    have HH := hide h
    have HN := hide hn
    clear h hn
    go_enter Tryd.func32, Tryd.ntmps32
    go_wp2_with fail
    refine hs.mono ?_
    rintro e w1 ⟨rfl, m, os, hw1⟩
    obtain ⟨h1, k1⟩ := sort_world HH.out (ys := zs.mergeSort fun x y => decide (x ≤ y)) (by rw [List.length_mergeSort]; exact HN.out) m os
    rw [← hw1] at h1 k1
    have hlm : (zs.mergeSort fun x y => decide (x ≤ y)).length = n := by rw [List.length_mergeSort]; exact HN.out
    have hc := Tryd.slices_Compact_int_cells g off n cap (zs.mergeSort fun x y => decide (x ≤ y)) w1 (by omega) (by omega) hnc (fun j hj => (rw_getD h1 j hj).1) (fun j hj => (rw_getD h1 j (by omega)).2)
    rw [List.take_of_length_le (by omega)] at hc
    rw [show Lib.compact (zs.mergeSort fun x y => decide (x ≤ y)) = SR zs from rfl] at hc
    have hSl := SR_length zs
    rw [HN.out] at hSl
    have HF : Hid (∀ q, Rose w (.slice (some ⟨g, off, none⟩) n cap) zs ((w1.drewN q).setCells g off ((SR zs ++ List.replicate (n - (SR zs).length) 0).map (Value.int .i64))) (.slice (some ⟨g, off, none⟩) (SR zs).length cap)) := fun q => by
      have h2 := h1.keep (X := fun _ => False) (drewN_keep _ w1 q) fun _ _ => id
      have hlen : ((SR zs ++ List.replicate (n - (SR zs).length) 0).map (Value.int .i64)).length = n := by
        rw [List.length_map, List.length_append, List.length_replicate]
        omega
      have h3 := h2.set (o := 0) (vs := (SR zs ++ List.replicate (n - (SR zs).length) 0).map (Value.int .i64)) (by rw [hlen]; omega) (encI_one _)
      rw [Nat.add_zero, splice_all _ _ (by rw [hlen, encI_length, hlm])] at h3
      have h4 := h3.narrow (m := (SR zs).length) hSl
      rw [Nat.mul_one, ← List.map_take, List.take_left] at h4
      refine ⟨h4, ?_, rfl⟩
      have k2 := Keep.setCells (X := fun k => k = g) g rfl ((SR zs ++ List.replicate (n - (SR zs).length) 0).map (Value.int .i64)) off (w1.drewN q)
      have k3 := (k1.trans (drewN_keep (fun k => k = g) w1 q) fun _ _ e => e).trans k2 fun _ _ e => e
      exact ⟨k3.os, k3.tape, k3.output, k3.size, fun k hk hne => k3.block k hk fun e => hne (by rw [e]; rfl)⟩
    clear hs h1 k1 hw1
    generalize SR zs = S at *
    go_wp2_with fail
    refine hc.mono ?_
    rintro e w2 ⟨rfl, q, hw2⟩
    have HF2 := hide (HF.out q)
    rw [← hw2] at HF2
    clear hc HF hw2
    go_wp2
    go_ret
    exact ⟨_, rfl, HF2.out⟩

end Wi
end Go.Proofs.YtnfakgdgjkgekaaDoor
