/- The map of the document in memory: new, put, cut. -/
import Derived.Test.YtjbgojccfkmlnaaLb
namespace Go.Proofs.Ytjbgojccfkmlnaa
open Go.RowKit
namespace Wi

theorem info4 : (Try.prog.info? 4).map (fun i => (i.zero, i.size, i.bytes)) = some (some (.bool false), 1, 1) := by kernel_rfl
theorem info32 : (Try.prog.info? 32).map (fun i => (i.zero, i.size, i.bytes)) = some (some (.agg #[.int .i64 0, .int .i64 0]), 2, 16) := by kernel_rfl
/-- What the document's map has of sectors. -/
structure Rf where
  is : Nat → Bool
  sq : Nat → Nat
  to : Nat → Nat
def encBs (n : Nat) (f : Nat → Bool) : List Value := (List.range n).map fun i => .bool (f i)
def encPs (n : Nat) (d : Rf) : List Value := (List.range n).flatMap fun i => [.int .i64 (d.sq i : Nat), .int .i64 (d.to i : Nat)]
theorem encBs_get {n i : Nat} (f : Nat → Bool) (h : i < n) : (encBs n f)[i]? = some (.bool (f i)) := by
  simp [encBs, h]
theorem encPs_get {n i : Nat} (d : Rf) (h : i < n) : (encPs n d)[i * 2]? = some (.int .i64 (d.sq i : Nat)) ∧ (encPs n d)[i * 2 + 1]? = some (.int .i64 (d.to i : Nat)) := by
  have hp : ((encPs n d).drop (i * 2)).take 2 = [.int .i64 (d.sq i : Nat), .int .i64 (d.to i : Nat)] := flat_part (f := fun i => [Value.int .i64 (d.sq i : Nat), .int .i64 (d.to i : Nat)]) (k := 2) (List.range n) i i (fun _ _ => rfl) (by simp [h])
  have e := fun j : Nat => congrArg (fun l : List Value => l[j]?) hp
  exact ⟨by simpa using e 0, by simpa using e 1⟩
theorem encBs_len (n : Nat) (f : Nat → Bool) : (encBs n f).length = n := by simp [encBs]
theorem encPs_len (n : Nat) (d : Rf) : (encPs n d).length = n * 2 := by
  have := flat_len (f := fun i => [Value.int .i64 (d.sq i : Nat), .int .i64 (d.to i : Nat)]) (k := 2) (List.range n) fun _ _ => rfl
  simpa [encPs] using this
/-- The document's map of so many sectors in memory. -/
structure RefM (w : World) (r gi gs n : Nat) (d : Rf) : Prop where
  blk : w.heap[r]? = some (.cells #[.slice (some ⟨gi, 0, none⟩) n n, .slice (some ⟨gs, 0, none⟩) n n] 48 (0, 0))
  is_ : w.heap[gi]? = some (.cells (encBs n d.is).toArray 4 (0, 0))
  sp_ : w.heap[gs]? = some (.cells (encPs n d).toArray 32 (0, 0))
  n1 : r ≠ gi
  n2 : r ≠ gs
  n3 : gi ≠ gs
def refT (r n : Nat) (d : Rf) : Th := fun w X => ∃ gi gs, RefM w r gi gs n d ∧ ∀ k, X k ↔ k = r ∨ k = gi ∨ k = gs
theorem refT_good (r n : Nat) (d : Rf) : (refT r n d).Good :=
  ⟨fun ⟨gi, gs, h, hx⟩ k hn => ⟨gi, gs, ⟨(k.block r (lt_of_block h.blk) (hn r ((hx r).2 (.inl rfl)))).trans h.blk, (k.block gi (lt_of_block h.is_) (hn gi ((hx gi).2 (.inr (.inl rfl))))).trans h.is_, (k.block gs (lt_of_block h.sp_) (hn gs ((hx gs).2 (.inr (.inr rfl))))).trans h.sp_, h.n1, h.n2, h.n3⟩, hx⟩,
   fun ⟨gi, gs, h, hx⟩ k hk => by
    rcases (hx k).1 hk with rfl | rfl | rfl
    · exact lt_of_block h.blk
    · exact lt_of_block h.is_
    · exact lt_of_block h.sp_⟩
theorem RefM.later {w w' : World} {r gi gs n : Nat} {d : Rf} (h : RefM w r gi gs n d) (hb : Below w.heap.size w w') : RefM w' r gi gs n d :=
  ⟨(hb.block r (lt_of_block h.blk)).trans h.blk, (hb.block gi (lt_of_block h.is_)).trans h.is_, (hb.block gs (lt_of_block h.sp_)).trans h.sp_, h.n1, h.n2, h.n3⟩
theorem RefM.c0 {w : World} {r gi gs n : Nat} {d : Rf} (h : RefM w r gi gs n d) : w.cell? ⟨r, 0, none⟩ = some (.slice (some ⟨gi, 0, none⟩) n n) := by rw [cell_of_row _ _ _ _ _ _ h.blk]; rfl
theorem RefM.c1 {w : World} {r gi gs n : Nat} {d : Rf} (h : RefM w r gi gs n d) : w.cell? ⟨r, 1, none⟩ = some (.slice (some ⟨gs, 0, none⟩) n n) := by rw [cell_of_row _ _ _ _ _ _ h.blk]; rfl
theorem RefM.b {w : World} {r gi gs n : Nat} {d : Rf} (h : RefM w r gi gs n d) {i : Nat} (hi : i < n) : w.cell? ⟨gi, i, none⟩ = some (.bool (d.is i)) := by
  rw [cell_of_row _ _ _ _ _ _ h.is_]
  simpa using encBs_get d.is hi
theorem RefM.p0 {w : World} {r gi gs n : Nat} {d : Rf} (h : RefM w r gi gs n d) {i : Nat} (hi : i < n) : w.cell? ⟨gs, i * 2, none⟩ = some (.int .i64 (d.sq i : Nat)) := by
  rw [cell_of_row _ _ _ _ _ _ h.sp_]
  simpa using (encPs_get d hi).1
theorem RefM.p1 {w : World} {r gi gs n : Nat} {d : Rf} (h : RefM w r gi gs n d) {i : Nat} (hi : i < n) : w.cell? ⟨gs, i * 2 + 1, none⟩ = some (.int .i64 (d.to i : Nat)) := by
  rw [cell_of_row _ _ _ _ _ _ h.sp_]
  simpa using (encPs_get d hi).2
def Rf.setIs (d : Rf) (i : Nat) (b : Bool) : Rf := { d with is := fun j => if j = i then b else d.is j }
def Rf.setSp (d : Rf) (i q t : Nat) : Rf := { d with sq := fun j => if j = i then q else d.sq j, to := fun j => if j = i then t else d.to j }
theorem encBs_set (n : Nat) (f : Nat → Bool) (i : Nat) (b : Bool) : (encBs n f).toArray.setIfInBounds i (.bool b) = (encBs n (fun j => if j = i then b else f j)).toArray := by
  rw [List.setIfInBounds_toArray]
  congr 1
  apply List.ext_getElem?
  intro j
  rw [List.getElem?_set]
  by_cases hj : j < n
  · rw [encBs_get _ hj, encBs_get _ hj, encBs_len]
    by_cases e : i = j
    · subst e
      simp [hj]
    · rw [if_neg e, if_neg (Ne.symm e)]
  · have h1 : ∀ g, (encBs n g)[j]? = none := fun g => List.getElem?_eq_none (by rw [encBs_len]; omega)
    rw [h1, h1, encBs_len]
    by_cases e : i = j
    · subst e
      simp [hj]
    · rw [if_neg e]
theorem setCell_keep {w : World} {g i : Nat} {cs : Array Value} {t : TypeId} (_h : w.heap[g]? = some (.cells cs t (0, 0))) (v : Value) {k : Nat} (hk : k ≠ g) (hl : k < w.heap.size) : (w.setCell ⟨g, i, none⟩ v).heap[k]? = w.heap[k]? :=
  (Keep.setCell (X := fun j => j = g) w ⟨g, i, none⟩ v rfl).block k hl hk
/-- One sector's bit is written. -/
theorem RefM.setIs {w : World} {r gi gs n : Nat} {d : Rf} (h : RefM w r gi gs n d) (i : Nat) (b : Bool) : RefM (w.setCell ⟨gi, i, none⟩ (.bool b)) r gi gs n (d.setIs i b) :=
  ⟨(setCell_keep h.is_ _ h.n1 (lt_of_block h.blk)).trans h.blk, by rw [setCell_blk h.is_, encBs_set]; rfl, (setCell_keep h.is_ _ (Ne.symm h.n3) (lt_of_block h.sp_)).trans h.sp_, h.n1, h.n2, h.n3⟩
theorem encPs_set (n : Nat) (d : Rf) (i q t : Nat) (hi : i < n) : splice (encPs n d) (i * 2) [.int .i64 (q : Nat), .int .i64 (t : Nat)] = encPs n (d.setSp i q t) := by
  have hs := flat_set (f := fun p : Nat × Nat => [Value.int .i64 (p.1 : Nat), .int .i64 (p.2 : Nat)]) (k := 2) ((List.range n).map fun j => (d.sq j, d.to j)) i (q, t) (fun _ _ => rfl) rfl (by simpa using hi)
  have e1 : ((List.range n).map fun j => (d.sq j, d.to j)).flatMap (fun p : Nat × Nat => [Value.int .i64 (p.1 : Nat), .int .i64 (p.2 : Nat)]) = encPs n d := by
    unfold encPs
    rw [List.flatMap_map]
  rw [e1] at hs
  rw [← hs]
  unfold encPs
  rw [← List.flatMap_map (f := fun j => ((d.setSp i q t).sq j, (d.setSp i q t).to j)) (g := fun p : Nat × Nat => [Value.int .i64 (p.1 : Nat), .int .i64 (p.2 : Nat)])]
  congr 1
  apply List.ext_getElem?
  intro j
  rw [List.getElem?_set]
  by_cases hj : j < n
  · by_cases e : i = j
    · subst e
      simp [hj, Rf.setSp]
    · have e2 : ¬ j = i := fun h => e h.symm
      simp [hj, Rf.setSp, e, e2]
  · by_cases e : i = j
    · omega
    · simp [hj, e]
/-- One sector's spot is written. -/
theorem RefM.setSp {w : World} {r gi gs n : Nat} {d : Rf} (h : RefM w r gi gs n d) {i : Nat} (q t : Nat) (hi : i < n) : RefM (w.setCells gs (i * 2) [.int .i64 (q : Nat), .int .i64 (t : Nat)]) r gi gs n (d.setSp i q t) := by
  have hk := Keep.setCells (X := fun j => j = gs) gs rfl [.int .i64 (q : Nat), .int .i64 (t : Nat)] (i * 2) w
  refine ⟨(hk.block r (lt_of_block h.blk) h.n2).trans h.blk, (hk.block gi (lt_of_block h.is_) h.n3).trans h.is_, ?_, h.n1, h.n2, h.n3⟩
  rw [setCells_eq_setRow h.sp_ (by simp [encPs_len]; omega) (by simp [Value.oneCell']), setRow_heap w gs _ _ _ _ h.sp_]
  rw [List.toList_toArray, encPs_set n d i q t hi]
theorem made4 (n : Nat) : madeCells (Value.bool false).cells n = (encBs n fun _ => false).toArray := by
  apply Array.ext'
  rw [show (Value.bool false).cells = #[Value.bool false] from rfl, toList_madeCells_one]
  apply List.ext_getElem?
  intro j
  by_cases hj : j < n
  · rw [List.toList_toArray, encBs_get _ hj]
    simp [hj]
  · have e1 : (encBs n fun _ => false)[j]? = none := List.getElem?_eq_none (by rw [encBs_len]; omega)
    rw [List.toList_toArray, e1, List.getElem?_eq_none (by rw [List.length_replicate]; omega)]
theorem made32 (n : Nat) : madeCells (Value.agg #[.int .i64 0, .int .i64 0]).cells (n * 2) = (encPs n ⟨fun _ => false, fun _ => 0, fun _ => 0⟩).toArray := by
  apply Array.ext'
  rw [show (Value.agg #[.int .i64 0, .int .i64 0]).cells = #[Value.int .i64 0, Value.int .i64 0] from rfl]
  apply List.ext_getElem?
  intro j
  have hz : ∀ k, (#[Value.int .i64 0, Value.int .i64 0] : Array Value)[k % 2]! = .int .i64 0 := fun k => by
    have hk : k % 2 = 0 ∨ k % 2 = 1 := by omega
    rcases hk with e | e <;> rw [e] <;> rfl
  rw [List.toList_toArray]
  by_cases hj : j < n * 2
  · obtain ⟨i, hi⟩ : ∃ i, j = i * 2 ∨ j = i * 2 + 1 := ⟨j / 2, by omega⟩
    have hin : i < n := by omega
    have e1 := encPs_get (⟨fun _ => false, fun _ => 0, fun _ => 0⟩ : Rf) hin
    have e2 : (madeCells #[Value.int .i64 0, Value.int .i64 0] (n * 2)).toList[j]? = some (.int .i64 0) := by
      unfold madeCells
      have h3 := hz j
      simp [hj] at h3 ⊢
      exact h3
    rw [e2]
    rcases hi with rfl | rfl
    · rw [e1.1]; rfl
    · rw [e1.2]; rfl
  · rw [List.getElem?_eq_none (by simp [madeCells]; omega), List.getElem?_eq_none (by rw [encPs_len]; omega)]
def rf0 : Rf := ⟨fun _ => false, fun _ => 0, fun _ => 0⟩
theorem make45 {N : Nat} (h : N ≤ 1000000) (w : World) : (Instr.makeSlice 45 (.int .i64 (N : Int)) (.int .i64 (N : Int))).run Try.prog w = .ok (.slice (some ⟨w.heap.size, 0, none⟩) N N) (w.alloc (.cells (encBs N fun _ => false).toArray 4)) := by
  obtain ⟨i0, hi, hz0, hz1, hz2⟩ := info_parts info4
  have hr := run_make (P := Try.prog) w 45 4 i0 (.bool false) Try.underlying45 hi hz0 .i64 .i64 (N : Int) (N : Int) (by omega) (by omega) (by rw [hz2]; omega) (by omega)
  rw [hz1] at hr
  simp only [Int.toNat_natCast, Nat.mul_one] at hr
  rw [made4] at hr
  exact hr
theorem make46 {N : Nat} (h : N ≤ 1000000) (w : World) : (Instr.makeSlice 46 (.int .i64 (N : Int)) (.int .i64 (N : Int))).run Try.prog w = .ok (.slice (some ⟨w.heap.size, 0, none⟩) N N) (w.alloc (.cells (encPs N rf0).toArray 32)) := by
  obtain ⟨i0, hi, hz0, hz1, hz2⟩ := info_parts info32
  have hr := run_make (P := Try.prog) w 46 32 i0 _ Try.underlying46 hi hz0 .i64 .i64 (N : Int) (N : Int) (by omega) (by omega) (by rw [hz2]; omega) (by omega)
  rw [hz1] at hr
  simp only [Int.toNat_natCast] at hr
  rw [made32] at hr
  exact hr
theorem three (w : World) (A B C : Obj) : (((w.alloc A).alloc B).alloc C).drew.heap[w.heap.size]? = some A ∧ (((w.alloc A).alloc B).alloc C).drew.heap[w.heap.size + 1]? = some B ∧ (((w.alloc A).alloc B).alloc C).drew.heap[w.heap.size + 1 + 1]? = some C ∧ Below w.heap.size w (((w.alloc A).alloc B).alloc C).drew := by
  have b1 := below_alloc w A
  have b2 := below_alloc (w.alloc A) B
  have b3 := below_alloc ((w.alloc A).alloc B) C
  have s1 : (w.alloc A).heap.size = w.heap.size + 1 := by simp
  have s2 : ((w.alloc A).alloc B).heap.size = w.heap.size + 1 + 1 := by simp
  have h1 := heap_alloc_new w A
  have h2 := heap_alloc_new (w.alloc A) B
  have h3 := heap_alloc_new ((w.alloc A).alloc B) C
  rw [s1] at h2
  rw [s2] at h3
  refine ⟨((b3.block _ (by omega)).trans (b2.block _ (by omega))).trans h1, (b3.block _ (by omega)).trans h2, h3, ?_⟩
  exact ((b1.trans (b2.mono b1.size)).trans (b3.mono (b1.trans (b2.mono b1.size)).size)).drew
set_option maxHeartbeats 4000000 in
set_option maxRecDepth 20000 in
theorem refnew_any (w : World) : Calls Try.prog 13 #[.int .i64 300] w fun e w' => ∃ r X, e = .returned (.pointer (some ⟨r, 0, none⟩)) ∧ refT r 300 rf0 w' X ∧ (∀ k, X k → w.heap.size ≤ k) ∧ Below w.heap.size w w' := by
  have h1 : ∀ w, (Instr.makeSlice 45 (.int .i64 300) (.int .i64 300)).run Try.prog w = .ok (.slice (some ⟨w.heap.size, 0, none⟩) 300 300) (w.alloc (.cells (encBs 300 fun _ => false).toArray 4)) := fun w => make45 (N := 300) (by omega) w
  have h2 : ∀ w, (Instr.makeSlice 46 (.int .i64 300) (.int .i64 300)).run Try.prog w = .ok (.slice (some ⟨w.heap.size, 0, none⟩) 300 300) (w.alloc (.cells (encPs 300 rf0).toArray 32)) := fun w => make46 (N := 300) (by omega) w
  have HFA : Hid (∀ (A B : Obj), Below w.heap.size w (((w.drew.alloc A).alloc B))) := fun A B => ((((Below.refl _ _).drew).alloc (Nat.le_refl _) A).alloc (by simp) B)
  generalize hA : (encBs 300 fun _ => false).toArray = A at *
  generalize hB : (encPs 300 rf0).toArray = B at *
  have HA := hide hA
  have HB := hide hB
  clear hA hB
  go_enter Try.func13, Try.ntmps13
  go_wp2
  go_region
  · rename_i KK hKK
    refine hKK _ _ ?_
    obtain ⟨t1, t2, t3, t4⟩ := three w (.cells A 4) (.cells B 32) (.cells #[.slice (some ⟨w.heap.size, 0, none⟩) 300 300, .slice (some ⟨w.heap.size + 1, 0, none⟩) 300 300] 48)
    have hR : RefM (((w.alloc (.cells A 4)).alloc (.cells B 32)).alloc (.cells #[.slice (some ⟨w.heap.size, 0, none⟩) 300 300, .slice (some ⟨w.heap.size + 1, 0, none⟩) 300 300] 48)).drew (w.heap.size + 1 + 1) w.heap.size (w.heap.size + 1) 300 rf0 := ⟨t3, by rw [t1, ← HA.out]; rfl, by rw [t2, ← HB.out], by omega, by omega, by omega⟩
    have HR := hide hR
    have HT := hide t4
    clear hKK t1 t2 t3 t4 hR
    go_wp2
    go_ret
    exact ⟨_, fun k => k = w.heap.size + 1 + 1 ∨ k = w.heap.size ∨ k = w.heap.size + 1, rfl, ⟨_, _, HR.out, fun k => Iff.rfl⟩, fun k hk => by omega, HT.out⟩
  · rename_i KK hKK
    refine hKK _ _ ?_
    obtain ⟨t1, t2, t3, t4⟩ := three w (.cells B 32) (.cells A 4) (.cells #[.slice (some ⟨w.heap.size + 1, 0, none⟩) 300 300, .slice (some ⟨w.heap.size, 0, none⟩) 300 300] 48)
    have hR : RefM (((w.alloc (.cells B 32)).alloc (.cells A 4)).alloc (.cells #[.slice (some ⟨w.heap.size + 1, 0, none⟩) 300 300, .slice (some ⟨w.heap.size, 0, none⟩) 300 300] 48)).drew (w.heap.size + 1 + 1) (w.heap.size + 1) w.heap.size 300 rf0 := ⟨t3, by rw [t2, ← HA.out]; rfl, by rw [t1, ← HB.out], by omega, by omega, by omega⟩
    have HR := hide hR
    have HT := hide t4
    clear hKK t1 t2 t3 t4 hR
    go_wp2
    go_ret
    exact ⟨_, fun k => k = w.heap.size + 1 + 1 ∨ k = w.heap.size + 1 ∨ k = w.heap.size, rfl, ⟨_, _, HR.out, fun k => Iff.rfl⟩, fun k hk => by omega, HT.out⟩

end Wi
end Go.Proofs.Ytjbgojccfkmlnaa
