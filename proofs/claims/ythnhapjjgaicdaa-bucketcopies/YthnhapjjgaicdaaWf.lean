/- slices.Insert at objects: one object is put among others. -/
import Derived.Test.YthnhapjjgaicdaaWe
import Derived.Lib.Overlaps
import Derived.Laws.IdiomCopy
import Derived.Lib.AppendZeros
import Derived.Deep.RegionLawGrows
namespace Go.Proofs.Ythnhapjjgaicdaa
open Go.RowKit
namespace Wi

theorem info76 : (Try.prog.info? 76).map (fun i => (i.zero, i.size, i.bytes)) = some (some (.agg #[.string { data := #[] }, .string { data := #[] }]), 2, 32) := by kernel_rfl
/-- copy, of elements of so many cells. -/
theorem run_copy_sized {P : Program} (w : World) (dT sT ty elem : TypeId) (size b o dLen dCap : Nat) (a : Addr) (sLen sCap : Nat) (cs : List Value)
    (hu : P.underlying dT = some (.slice elem)) (hs : (P.info? elem).map (·.size) = some size) (hn : cs.length = Nat.min sLen dLen * size)
    (hsrc : ∀ j v, cs[j]? = some v → w.cell? (a.add j) = some v) (hc : ∀ j, j < cs.length → (w.cell? ⟨b, o + j, none⟩).isSome = true) (hf : ∀ j, j < cs.length → w.frozen? ⟨b, o + j, none⟩ = false) (h1 : ∀ v ∈ cs, v.oneCell' = true) :
    (Builtin.copy_ #[dT, sT] ty #[.slice (some ⟨b, o, none⟩) dLen dCap, .slice (some a) sLen sCap]).run P w = .ok (goInt (Nat.min sLen dLen)) (w.setCells b o cs) := by
  have hl := run_loadCells_list (P := P) w a cs hsrc
  have hst := run_storeCells_cells (P := P) b o cs 0 w (by simpa using hc) (by simpa using hf) h1
  rw [hn] at hl
  cases hq : P.info? elem with
  | none => simp [hq] at hs
  | some i =>
    have hi : i.size = size := by simpa [hq] using hs
    simp [Builtin.copy_, run_underlying hu, Builtin.lenOf, Builtin.firstCells, sizeOf, typeInfo, hq, hi, hl] at hst ⊢
    simp [hst]
/-- append of zero values that do not fit. -/
theorem run_append_zeros_grow {P : Program} (w : World) (t tn ty e : TypeId) (i : TypeInfo) (z : Value) (kn : IntKind) (ht : P.underlying t = some (.slice e)) (htn : P.underlying tn = some (.int kn)) (hi : P.info? e = some i) (hz : i.zero = some z)
    (b : Addr) (sLen sCap : Nat) (olds : List Value) (hlo : olds.length = sLen * i.size) (holds : ∀ j v, olds[j]? = some v → w.cell? (b.add j) = some v)
    (n : Nat) (hn0 : 0 < n) (hsz : 0 < i.size) (hg : sCap < sLen + n) (h63 : ((sLen + n : Nat) : Int) ≤ 9223372036854775807) (hfit : Builtin.nextslicecap (sLen + n) sCap * i.bytes ≤ 281474976710656) (h48 : n * i.bytes ≤ 281474976710656) :
    (Builtin.append_ #[t, tn] ty #[.slice (some b) sLen sCap, .int .i64 n]).run P w =
      .ok (.slice (some ⟨w.heap.size, 0, none⟩) (sLen + n) (grownCap w (sLen + n) sCap e))
        (w.drew.alloc (.cells (olds.toArray ++ Builtin.zeroCells z.cells n ++ Builtin.zeroCells z.cells (grownCap w (sLen + n) sCap e - (sLen + n))) e)) := by
  have hn : ¬ (sLen + n ≤ sCap) := by omega
  have hw : IntKind.i64.wrap (n : Int) = n := by rw [IntKind.wrap_i64]; omega
  have h63' : ¬ (9223372036854775807 < ((sLen : Int) + (n : Int))) := by omega
  have h48' : ¬ (281474976710656 < Builtin.nextslicecap (sLen + n) sCap * i.bytes) := by omega
  have h48i : ¬ (281474976710656 < (n : Int) * (i.bytes : Int)) := by
    rw [← Int.natCast_mul]
    omega
  have hneg : ¬ ((n : Int) < 0) := by omega
  have hns : ¬ (n * i.size = 0) := Nat.mul_ne_zero (by omega) (by omega)
  have hfo := run_firstCells_some (P := P) w.drew i.size sLen b sLen sCap olds hlo (by simpa using holds)
  simp [Builtin.append_, run_underlying ht, run_underlying htn, sizeOf, typeInfo, zeroValue, hi, hz, asInt, asIntOf, hw, hn, hneg, hns, h63', h48', h48i, Question.forced, hfo, newRow, grownCap]
theorem Rw.widen {w : World} {e : TypeId} {size n g off cap m : Nat} {xs : List Value} (h : Rw w e size (.slice (some ⟨g, off, none⟩) n cap) n xs) (hm : n + m ≤ cap) : ∃ E, E.length = m * size ∧ Rw w e size (.slice (some ⟨g, off, none⟩) (n + m) cap) (n + m) (xs ++ E) := by
  rcases h.2 with ⟨hv, _⟩ | ⟨g', off', cap', cur, hv, hg, k1, k2, k3, k4⟩
  · cases hv
  · cases hv
    have hle : (n + m) * size ≤ cap * size := Nat.mul_le_mul_right _ hm
    have hE : (cur.toList.drop off).take ((n + m) * size) = xs ++ ((cur.toList.drop off).drop (n * size)).take (m * size) := by
      rw [Nat.add_mul, List.take_add, k4]
    refine ⟨((cur.toList.drop off).drop (n * size)).take (m * size), ?_, ?_, .inr ⟨g, off, cap, cur, rfl, hg, hm, k2, k3, hE⟩⟩
    · rw [Nat.add_mul] at hle
      rw [List.length_take, List.length_drop, List.length_drop]
      simp
      omega
    · rw [← hE, List.length_take, List.length_drop]
      simp
      omega
theorem splice_shift {α : Type} (xs E c : List α) (i : Nat) (hi : i ≤ xs.length) (hE : E.length = c.length) : splice (splice (xs ++ E) (i + c.length) (xs.drop i)) i c = xs.take i ++ (c ++ xs.drop i) := by
  have e1 : splice (xs ++ E) (i + c.length) (xs.drop i) = (xs ++ E).take (i + c.length) ++ xs.drop i := by
    unfold splice
    have h0 : (xs ++ E).drop (i + c.length + (xs.drop i).length) = [] := List.drop_eq_nil_of_le (by rw [List.length_append, List.length_drop]; omega)
    rw [h0, List.append_nil]
  have hl : ((xs ++ E).take (i + c.length)).length = i + c.length := by rw [List.length_take, List.length_append]; omega
  rw [e1]
  unfold splice
  rw [List.drop_left' hl, List.take_append_of_le_length (by omega), List.take_take, Nat.min_eq_left (by omega), List.take_append_of_le_length hi]
theorem splice_fresh {α : Type} (T Z c R : List α) (hZ : Z.length = c.length + R.length) : splice (splice (T ++ Z) T.length c) (T.length + c.length) R = T ++ (c ++ R) := by
  have e1 : splice (T ++ Z) T.length c = T ++ (c ++ Z.drop c.length) := by
    unfold splice
    rw [List.take_left, ← List.drop_drop, List.drop_left]
  rw [e1, ← List.append_assoc]
  have hl : (T ++ c).length = T.length + c.length := List.length_append
  unfold splice
  rw [← hl, List.take_left, ← List.drop_drop, List.drop_left, List.drop_drop, List.drop_eq_nil_of_le (by omega), List.append_nil, List.append_assoc]
/-- What an Insert leaves: the new slice, and what it turned. -/
structure Grew (w : World) (e : TypeId) (size : Nat) (v : Value) (n : Nat) (xs : List Value) (w' : World) (v' : Value) : Prop where
  row : Rw w' e size v' n xs
  keep : Keep (fun k => v.ownBlock = some k) w w'
  moved : Moved w v v'
theorem Rw.there {w : World} {e : TypeId} {size n g off cap : Nat} {xs : List Value} (h : Rw w e size (.slice (some ⟨g, off, none⟩) n cap) n xs) {o m : Nat} (hm : o + m ≤ n * size) : ∀ j, j < m → (w.cell? ⟨g, off + o + j, none⟩).isSome = true ∧ w.frozen? ⟨g, off + o + j, none⟩ = false := fun j hj => by
  have hl : o + j < xs.length := by rw [h.1]; omega
  have := h.cell (List.getElem?_eq_getElem hl)
  rw [Nat.add_assoc, this.1]
  exact ⟨rfl, this.2⟩
theorem Rw.src {w : World} {e : TypeId} {size n g off cap : Nat} {xs : List Value} (h : Rw w e size (.slice (some ⟨g, off, none⟩) n cap) n xs) (o : Nat) : ∀ j u, (xs.drop o)[j]? = some u → w.cell? ((⟨g, off + o, none⟩ : Addr).add j) = some u := fun j u hj => by
  rw [Addr.add_mid, Nat.add_assoc]
  rw [List.getElem?_drop] at hj
  exact (h.cell hj).1
set_option maxHeartbeats 4000000 in
set_option maxRecDepth 20000 in
theorem insert_end {w : World} {v : Value} {objs : List Ob} (h : Rw w 76 2 v objs.length (encOs objs)) (hn : objs.length ≤ 1000000) (o : Ob) (g1 : Nat) (hg : w.heap[g1]? = some (.cells (encO o).toArray 76 (0, 0))) :
    Calls Try.prog 57 #[v, .int .i64 (objs.length : Nat), .slice (some ⟨g1, 0, none⟩) 1 1] w fun e w' => ∃ v', e = .returned v' ∧ Grew w 76 2 v (objs.length + 1) (encOs objs ++ encO o) w' v' := by
  obtain ⟨i0, hi, hz0, hz1, hz2⟩ := info_parts info76
  obtain ⟨a, cap, rfl⟩ := h.form
  have hcap : objs.length ≤ cap := by
    rcases h.2 with ⟨hv, h0⟩ | ⟨g, off, cap', cur, hv, _, h1, _⟩
    · omega
    · cases hv; exact h1
  have HR := hide h
  have HC : Hid (∀ j u, (encO o)[j]? = some u → w.cell? ((⟨g1, 0, none⟩ : Addr).add j) = some u) := fun j u hj => by
    rw [Addr.add_mid, Nat.zero_add, cell_of_row _ _ _ _ _ _ hg]
    simpa using hj
  have h1 : ∀ u ∈ encO o, u.oneCell' = true := fun u hu => encOs_one [o] u (by simpa [encOs] using hu)
  have H1 := hide h1
  have hmx : objs.length + 1 ≤ maxLen := by unfold maxLen; omega
  have hby : (objs.length + 1) * 32 ≤ 140737488355328 := by omega
  clear h h1 hg
  by_cases hc : cap = objs.length
  · rw [hc] at HR ⊢
    clear hc hcap
    go_enter Try.func57, Try.ntmps57
    go_wp2_with (at_builtin; refine wpList_append_rw rfl (.tmp 23) (.tmp 24) 66 rfl 76 i0 _ 2 32 Try.underlying66 hi hz0 hz1 hz2 rfl (by decide) _ objs.length (encOs objs) rfl HR.out ⟨g1, 0, none⟩ 1 1 (encO o) rfl rfl HC.out H1.out hmx hby ?_; intro v2 w2 r1 r2 r3; replace r1 := hide r1; replace r2 := hide r2; replace r3 := hide r3)
    have HG : Hid (Grew w 76 2 (.slice a objs.length objs.length) (objs.length + 1) (encOs objs ++ encO o) w2 v2) := ⟨r1.out, Keep.grown r2.out fun _ e => e, r3.out⟩
    clear r1 r2 r3
    go_ret
    exact ⟨_, rfl, HG.out⟩
  · skip
    go_enter Try.func57, Try.ntmps57
    go_wp2_with (at_builtin; refine wpList_append_rw rfl (.tmp 23) (.tmp 24) 66 rfl 76 i0 _ 2 32 Try.underlying66 hi hz0 hz1 hz2 rfl (by decide) _ objs.length (encOs objs) rfl HR.out ⟨g1, 0, none⟩ 1 1 (encO o) rfl rfl HC.out H1.out hmx hby ?_; intro v2 w2 r1 r2 r3; replace r1 := hide r1; replace r2 := hide r2; replace r3 := hide r3)
    have HG : Hid (Grew w 76 2 (.slice a objs.length cap) (objs.length + 1) (encOs objs ++ encO o) w2 v2) := ⟨r1.out, Keep.grown r2.out fun _ e => e, r3.out⟩
    clear r1 r2 r3
    go_ret
    exact ⟨_, rfl, HG.out⟩

end Wi
end Go.Proofs.Ythnhapjjgaicdaa
