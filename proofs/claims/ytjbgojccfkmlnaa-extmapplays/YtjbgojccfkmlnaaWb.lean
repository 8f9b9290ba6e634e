/- Rows, things in memory, and what a call keeps: for the proofs about package bucket. -/
import Derived.Test.YtjbgojccfkmlnaaWk
import Derived.OneCell
import Derived.Deep.RegionLawGrows
import Derived.Maps.AppendAt
import Derived.Deep.MidRow
import Derived.Laws.CopyOwn
namespace Go.Proofs.Ytjbgojccfkmlnaa
open Go.RowKit
namespace Wi
/-- Nothing that lay has turned but blocks of X. -/
structure Keep (X : Nat → Prop) (w w' : World) : Prop where
  os : w'.os = w.os
  tape : w'.tape = w.tape
  output : w'.output = w.output
  size : w.heap.size ≤ w'.heap.size
  block : ∀ k, k < w.heap.size → ¬ X k → w'.heap[k]? = w.heap[k]?
theorem Keep.refl (X : Nat → Prop) (w : World) : Keep X w w := ⟨rfl, rfl, rfl, Nat.le_refl _, fun _ _ _ => rfl⟩
theorem Keep.of_below {X : Nat → Prop} {w w' : World} (h : Below w.heap.size w w') : Keep X w w' := ⟨h.os, h.tape, h.output, h.size, fun k hk _ => h.block k hk⟩
theorem Keep.trans {X Y : Nat → Prop} {w a b : World} (h : Keep X w a) (k : Keep Y a b) (hy : ∀ i, i < w.heap.size → Y i → X i) : Keep X w b :=
  ⟨k.os.trans h.os, k.tape.trans h.tape, k.output.trans h.output, Nat.le_trans h.size k.size, fun i hi hx => (k.block i (Nat.lt_of_lt_of_le hi h.size) fun y => hx (hy i hi y)).trans (h.block i hi hx)⟩
theorem Keep.below {X : Nat → Prop} {w w' : World} {B : Nat} (h : Keep X w w') (hB : B ≤ w.heap.size) (hx : ∀ k, k < B → ¬ X k) : Below B w w' :=
  ⟨h.os, h.tape, h.output, h.size, fun k hk => h.block k (Nat.lt_of_lt_of_le hk hB) (hx k hk)⟩
theorem Keep.grown {X : Nat → Prop} {w w' : World} {row : Option Nat} (h : w.grownBy w' row) (hx : ∀ k, row = some k → X k) : Keep X w w' :=
  ⟨h.os, h.tape, h.output, h.size, fun k hk hn => h.block k hk fun e => hn (hx k e.symm)⟩
theorem Keep.setCell {X : Nat → Prop} (w : World) (p : Addr) (u : Value) (hx : X p.block) : Keep X w (w.setCell p u) :=
  ⟨rfl, rfl, rfl, by simp [World.setCell], fun k _ hn => Below.heap_setCell _ _ _ _ fun e => hn (e ▸ hx)⟩
theorem Keep.drew {X : Nat → Prop} {w w' : World} (h : Keep X w w') : Keep X w w'.drew := ⟨h.os, h.tape, h.output, h.size, h.block⟩
theorem OwnB.keep {X : Nat → Prop} {w w' : World} {v : Value} {l : List Nat} (h : OwnB w v l) (k : Keep X w w') (hx : ∀ i, v.ownBlock = some i → ¬ X i) : OwnB w' v l := by
  refine ⟨h.1, ?_⟩
  rcases h.2 with hn | ⟨g, cap, cur, rfl, hb, hgg, rest⟩
  · exact .inl hn
  · refine .inr ⟨g, cap, cur, rfl, hb, ?_, rest⟩
    rw [k.block g (lt_of_block hgg) (hx g rfl)]
    exact hgg
theorem OwnB.lt {w : World} {v : Value} {l : List Nat} (h : OwnB w v l) : ∀ k, v.ownBlock = some k → k < w.heap.size := by
  intro k hk
  rcases h.2 with ⟨hv, _⟩ | ⟨g, cap, cur, rfl, hb, hgg, rest⟩
  · rw [hv] at hk; simp [Value.ownBlock] at hk
  · simp [Value.ownBlock] at hk; subst hk; exact lt_of_block hgg
theorem step_append_moved {P : Program} {ops : Array Oper} {o : Oper} {a : Act} {w : World} {K : Act → World → Prop} {Q : Exit → Act → World → Prop} {E : Prop}
    (hg : o.guard = none) (s x : Operand) (t : TypeId) (hop : o.op = Op.call { callee := Callee.builtin Builtin.append, args := #[s, x], argTypes := #[t, t] })
    (e : TypeId) (i : TypeInfo) (z : Value) (size bytes : Nat) (ht : P.underlying t = some (.slice e)) (hi : P.info? e = some i) (hz : i.zero = some z)
    (hsize : i.size = size) (hby : i.bytes = bytes) (hzs : z.cells.size = size) (hsz : 0 < size)
    (v : Value) (n : Nat) (xs : List Value) (hs : a.eval s = v) (hown : w.ownsRow 0 e size v n xs)
    (ad : Addr) (m c : Nat) (news : List Value) (hx : a.eval x = .slice (some ad) m c) (hl : news.length = m * size) (hnews : ∀ j u, news[j]? = some u → w.cell? (ad.add j) = some u) (h1 : ∀ u ∈ news, u.oneCell' = true)
    (h63 : n + m ≤ maxLen) (hbytes : (n + m) * bytes ≤ 140737488355328)
    (hK : ∀ v' w', w'.ownsRow 0 e size v' (n + m) (xs ++ news) → w.grownBy w' v.ownBlock → Moved w v v' → K (a.put o.dst v') w') :
    if Region.wanted o (yielded ops a.tmps) = true then Oper.wp P o a w K Q else E := by
  have hw : Region.wanted o (yielded ops a.tmps) = true := by simp [Region.wanted, hg]
  rw [if_pos hw]
  obtain ⟨v', w', hrun, r1, r2, r3⟩ := run_append_moved (P := P) (w := w) t o.type e i z size bytes ht hi hz hsize hby hzs hsz v n xs hown ad m c news hl hnews h1 h63 hbytes
  unfold Oper.wp
  simp [execOp, hop, resolve, invoke, builtin, hs, hx, hrun, Result.andThen]
  exact hK v' w' r1 r2 r3
theorem own_form {w : World} {v : Value} {e : TypeId} {size n : Nat} {xs : List Value} (h : w.ownsRow 0 e size v n xs) : ∃ a m c, v = .slice a m c := by
  rcases h.2 with ⟨hv, _⟩ | ⟨g, cap, cur, hv, _⟩
  · exact ⟨_, _, _, hv⟩
  · exact ⟨_, _, _, hv⟩

/-- So many bytes 0. -/
def zs (n : Nat) : Array Value := madeCells (Value.int .u8 0).cells n
theorem zs_size (n : Nat) : (zs n).size = n := size_madeCells _ _
theorem zs_list (n : Nat) : zs n = (encB (List.replicate n 0)).toArray := by
  apply Array.ext'
  rw [zs, show (Value.int .u8 0).cells = #[Value.int .u8 0] from rfl, toList_madeCells_one]
  simp [encB]
section
variable {α : Type} {f : α → List Value} {k : Nat}
theorem flat_len : ∀ l : List α, (∀ x ∈ l, (f x).length = k) → (l.flatMap f).length = l.length * k
  | [], _ => by simp
  | x :: r, h => by
    rw [List.flatMap_cons, List.length_append, flat_len r fun y hy => h y (by simp [hy]), h x (by simp), List.length_cons, Nat.add_mul]
    omega
theorem flat_part : ∀ (l : List α) (i : Nat) (x : α), (∀ y ∈ l, (f y).length = k) → l[i]? = some x → ((l.flatMap f).drop (i * k)).take k = f x
  | [], _, _, _, h => by simp at h
  | y :: r, 0, x, hk, h => by
    simp at h
    subst h
    rw [List.flatMap_cons, Nat.zero_mul, List.drop_zero, ← hk y (by simp), List.take_left]
  | y :: r, i + 1, x, hk, h => by
    have := flat_part r i x (fun z hz => hk z (by simp [hz])) (by simpa using h)
    rw [List.flatMap_cons, Nat.add_mul, Nat.one_mul, Nat.add_comm, ← List.drop_drop, ← hk y (by simp), List.drop_left, hk y (by simp)]
    exact this
theorem splice_zero {β : Type} (A c R : List β) (h : c.length = A.length) : splice (A ++ R) 0 c = c ++ R := by
  simp [splice, h]
theorem splice_behind {β : Type} (A L c : List β) (o : Nat) : splice (A ++ L) (A.length + o) c = A ++ splice L o c := by
  unfold splice
  rw [List.take_length_add_append, Nat.add_assoc, List.drop_length_add_append, List.append_assoc]
theorem flat_set : ∀ (l : List α) (i : Nat) (x : α), (∀ y ∈ l, (f y).length = k) → (f x).length = k → i < l.length → (l.set i x).flatMap f = splice (l.flatMap f) (i * k) (f x)
  | [], _, _, _, _, h => by simp at h
  | y :: r, 0, x, hk, hx, _ => by
    rw [List.set_cons_zero, List.flatMap_cons, List.flatMap_cons, Nat.zero_mul, splice_zero _ _ _ (by rw [hx, hk y (by simp)])]
  | y :: r, i + 1, x, hk, hx, h => by
    rw [List.set_cons_succ, List.flatMap_cons, List.flatMap_cons, flat_set r i x (fun z hz => hk z (by simp [hz])) hx (by simpa using h), Nat.add_mul, Nat.one_mul, Nat.add_comm, ← hk y (by simp), splice_behind]
end
theorem splice_mid {β : Type} (A Z c : List β) (n : Nat) (h : A.length = n) : splice (A ++ Z) n c = A ++ c ++ Z.drop c.length := by
  subst h
  have := splice_behind A Z c 0
  rw [Nat.add_zero] at this
  rw [this]
  simp [splice]
theorem splice_take {β : Type} (L c : List β) (o m : Nat) (h : o + c.length ≤ m) (hm : m ≤ L.length) : (splice L o c).take m = splice (L.take m) o c := by
  unfold splice
  have h1 : (L.take o).length = o := by rw [List.length_take]; omega
  rw [List.take_append, h1, List.take_of_length_le (by omega), List.take_append, List.take_take, show min o m = o by omega, List.take_of_length_le (l := c) (by omega), List.drop_take, show m - (o + c.length) = m - o - c.length by omega]
/-- Sectors as cells. -/
def encS (l : List (List Nat)) : List Value := l.flatMap encB
/-- A change as cells. -/
def encC (p : Nat × List Nat) : List Value := .int .i64 (p.1 : Nat) :: encB p.2
def encL (l : List (Nat × List Nat)) : List Value := l.flatMap encC
theorem encC_oneCell (p : Nat × List Nat) : ∀ u ∈ encC p, u.oneCell' = true := by
  intro u hu
  rw [encC, List.mem_cons] at hu
  rcases hu with rfl | hu
  · rfl
  · exact encB_oneCell _ u hu
theorem encC_length {p : Nat × List Nat} (h : p.2.length = 64) : (encC p).length = 65 := by rw [encC, List.length_cons, encB_length, h]
section
variable {w : World} {e : TypeId} {size n cap g : Nat} {xs : List Value}
theorem row_range (h : w.ownsRow 0 e size (.slice (some ⟨g, 0, none⟩) n cap) n xs) (o m : Nat) : w.rangeAt g o ((xs.drop o).take m) := fun j v hv => by
  have hj : ((xs.drop o).take m)[j]? = xs[o + j]? := by
    rw [List.getElem?_take]
    split
    · rw [List.getElem?_drop]
    · rename_i hh
      rw [List.getElem?_eq_none (by rw [List.length_take]; omega)] at hv
      cases hv
  rw [hj] at hv
  have hlt : o + j < xs.length := (List.getElem?_eq_some_iff.1 hv).1
  rw [World.ownsRow.cellAt h _ (by rw [← h.1]; exact hlt)]
  exact hv
theorem row_free (h : w.ownsRow 0 e size (.slice (some ⟨g, 0, none⟩) n cap) n xs) (j : Nat) : w.frozen? ⟨g, j, none⟩ = false := by
  rcases h.2 with ⟨hv, _⟩ | ⟨g', cap', cur, hv, _, hgg, _⟩
  · cases hv
  · cases hv
    exact frozen_of_row w _ _ _ _ hgg
theorem row_there (h : w.ownsRow 0 e size (.slice (some ⟨g, 0, none⟩) n cap) n xs) {o m : Nat} (hm : o + m ≤ n * size) : w.there g o m := fun j hj => by
  refine ⟨?_, row_free h _⟩
  rw [World.ownsRow.cellAt h _ (by omega), List.getElem?_eq_getElem (by rw [h.1]; omega)]
  rfl
theorem setCells_eq_setRow {t : TypeId} {cur : Array Value} (hg : w.heap[g]? = some (.cells cur t (0, 0))) {o : Nat} {vs : List Value} (hl : o + vs.length ≤ cur.size) (h1 : ∀ v ∈ vs, v.oneCell' = true) :
    w.setCells g o vs = w.setRow g (splice cur.toList o vs).toArray := by
  have a1 := run_storeCells_at Try.prog g o t vs 0 cur w hg (by omega) h1
  have a2 := run_storeCells_cells (P := Try.prog) g o vs 0 w (fun j hj => by
    rw [Nat.add_zero, cell_of_row w g (o + j) cur t (0, 0) hg, Array.getElem?_eq_getElem (by omega)]
    rfl) (fun j _ => frozen_of_row w _ _ _ _ hg) h1
  rw [a1] at a2
  simp only [Nat.add_zero] at a2
  injection a2 with _ e2
  rw [← e2, splice, List.append_assoc]
theorem Keep.setCells {X : Nat → Prop} (g : Nat) (hx : X g) : ∀ (vs : List Value) (o : Nat) (w : World), Keep X w (w.setCells g o vs)
  | [], _, _ => Keep.refl _ _
  | v :: r, o, w => (Keep.setCell (X := X) w ⟨g, o, none⟩ v hx).trans (Keep.setCells g hx r (o + 1) _) fun _ _ e => e
theorem heap_setCells_other (w : World) (g o : Nat) (vs : List Value) {k : Nat} (h : k ≠ g) (hk : k < w.heap.size) : (w.setCells g o vs).heap[k]? = w.heap[k]? :=
  (Keep.setCells (X := fun j => j = g) g rfl vs o w).block k hk h
theorem row_store (h : w.ownsRow 0 e size (.slice (some ⟨g, 0, none⟩) n cap) n xs) {o : Nat} {vs : List Value} (hl : o + vs.length ≤ n * size) (h1 : ∀ v ∈ vs, v.oneCell' = true) :
    (w.setCells g o vs).ownsRow 0 e size (.slice (some ⟨g, 0, none⟩) n cap) n (splice xs o vs) := by
  have hx := h.1
  rcases h.2 with ⟨hv, _⟩ | ⟨g', cap', cur, hv, hb, hgg, hnc, hcm, hcs, htake⟩
  · cases hv
  · cases hv
    have hle : n * size ≤ cur.size := by rw [hcs]; exact Nat.mul_le_mul_right _ hnc
    refine ⟨by rw [length_splice _ _ _ (by omega)]; exact hx, .inr ⟨g, cap, (splice cur.toList o vs).toArray, rfl, hb, ?_, hnc, hcm, ?_, ?_⟩⟩
    · rw [setCells_eq_setRow hgg (by omega) h1]
      exact setRow_heap w g _ _ _ _ hgg
    · rw [List.size_toArray, length_splice _ _ _ (by simpa using (by omega : o + vs.length ≤ cur.size)), ← hcs]
      simp
    · rw [List.toList_toArray, splice_take _ _ _ _ hl (by simpa using hle), htake]
theorem row_keep {X : Nat → Prop} {w' : World} {v : Value} (h : w.ownsRow 0 e size v n xs) (k : Keep X w w') (hx : ∀ i, v.ownBlock = some i → ¬ X i) : w'.ownsRow 0 e size v n xs := by
  refine ⟨h.1, ?_⟩
  rcases h.2 with hn | ⟨g, cap, cur, rfl, hb, hgg, rest⟩
  · exact .inl hn
  · refine .inr ⟨g, cap, cur, rfl, hb, ?_, rest⟩
    rw [k.block g (lt_of_block hgg) (hx g rfl)]
    exact hgg
theorem row_form {v : Value} (h : w.ownsRow 0 e size v n xs) (hn : 0 < n) : ∃ g cap, v = .slice (some ⟨g, 0, none⟩) n cap ∧ g < w.heap.size := by
  rcases h.2 with ⟨_, h0⟩ | ⟨g, cap, cur, hv, _, hgg, _⟩
  · omega
  · exact ⟨g, cap, hv, lt_of_block hgg⟩
theorem row_slice {v : Value} (h : w.ownsRow 0 e size v n xs) : ∃ a cap, v = .slice a n cap := by
  rcases h.2 with ⟨hv, h0⟩ | ⟨g, cap, cur, hv, _⟩
  · subst h0; exact ⟨_, _, hv⟩
  · exact ⟨_, _, hv⟩
end
theorem cells_new (w : World) (l : List Value) (t : TypeId) : ∀ j u, l[j]? = some u → (w.alloc (.cells l.toArray t)).drew.cell? ((⟨w.heap.size, 0, none⟩ : Addr).add j) = some u := by
  intro j u h
  rw [Addr.add_mid, Nat.zero_add]
  show (w.alloc (.cells l.toArray t)).cell? ⟨w.heap.size, j, none⟩ = some u
  rw [cell_of_row _ _ _ _ _ _ (heap_alloc_new w _)]
  simpa using h
theorem cell_grown {w w2 : World} {o : Obj} {b i : Nat} {v u : Value} (h : w.cell? ⟨b, i, none⟩ = some u) (hb : b < w.heap.size) (hne : v.ownBlock ≠ some b) (hg : (w.alloc o).drew.grownBy w2 v.ownBlock) : w2.cell? ⟨b, i, none⟩ = some u := by
  rw [← h, World.cell?_of_block (w := (w.alloc o).drew) (hg.block b (by show b < (w.alloc o).heap.size; simp; omega) fun e => hne e.symm)]
  exact (below_alloc w o).cell hb
theorem free_grown {w w2 : World} {o : Obj} {b i : Nat} {v : Value} (h : w.frozen? ⟨b, i, none⟩ = false) (hb : b < w.heap.size) (hne : v.ownBlock ≠ some b) (hg : (w.alloc o).drew.grownBy w2 v.ownBlock) : w2.frozen? ⟨b, i, none⟩ = false := by
  rw [← h, World.frozen?_of_block (w := (w.alloc o).drew) (hg.block b (by show b < (w.alloc o).heap.size; simp; omega) fun e => hne e.symm)]
  exact (below_alloc w o).frozen hb
/-- A thing in memory, and its blocks. -/
def Th : Type := World → (Nat → Prop) → Prop
structure Th.Good (A : Th) : Prop where
  keep : ∀ {w w' : World} {X Y : Nat → Prop}, A w X → Keep Y w w' → (∀ i, X i → ¬ Y i) → A w' X
  lt : ∀ {w : World} {X : Nat → Prop}, A w X → ∀ k, X k → k < w.heap.size
theorem Th.Good.later {A : Th} (h : A.Good) {w w' : World} {X : Nat → Prop} (ha : A w X) (hb : Below w.heap.size w w') : A w' X := h.keep (Y := fun _ => False) ha (Keep.of_below hb) fun _ _ => id
/-- Two things that share no block. -/
def Th.and (A B : Th) : Th := fun w Z => ∃ X Y, A w X ∧ B w Y ∧ (∀ k, X k → ¬ Y k) ∧ ∀ k, Z k ↔ X k ∨ Y k
theorem Th.Good.and {A B : Th} (ha : A.Good) (hb : B.Good) : (A.and B).Good :=
  ⟨fun ⟨X, Y, h1, h2, h3, h4⟩ k hx => ⟨X, Y, ha.keep h1 k fun i hi => hx i ((h4 i).2 (.inl hi)), hb.keep h2 k fun i hi => hx i ((h4 i).2 (.inr hi)), h3, h4⟩,
   fun ⟨_, _, h1, h2, _, h4⟩ k hk => ((h4 k).1 hk).elim (ha.lt h1 k) (hb.lt h2 k)⟩
/-- What a call leaves of a thing. -/
def LeftT (A : Th) (w : World) (X : Nat → Prop) (w' : World) : Prop := ∃ X', A w' X' ∧ Keep X w w' ∧ ∀ k, X' k → X k ∨ w.heap.size ≤ k
theorem LeftT.first {A : Th} {w w1 w2 : World} {X : Nat → Prop} (hb : Below w.heap.size w w1) (h : LeftT A w1 X w2) : LeftT A w X w2 := by
  obtain ⟨X', h1, h2, h3⟩ := h
  exact ⟨X', h1, (Keep.of_below (X := X) hb).trans h2 fun _ _ e => e, fun k hk => (h3 k hk).imp id fun e => Nat.le_trans hb.size e⟩
theorem LeftT.later {A : Th} (hA : A.Good) {w w1 w2 : World} {X : Nat → Prop} (h : LeftT A w X w1) (hb : Below w1.heap.size w1 w2) : LeftT A w X w2 := by
  obtain ⟨X', h1, h2, h3⟩ := h
  exact ⟨X', hA.later h1 hb, h2.trans (Keep.of_below (X := X) hb) fun _ _ e => e, h3⟩
/-- A thing of the call's own. -/
def Mine (W w : World) (A : Th) : Prop := ∃ X, A w X ∧ (∀ k, X k → W.heap.size ≤ k) ∧ Below W.heap.size W w
theorem Mine.below {W w : World} {A : Th} (h : Mine W w A) : Below W.heap.size W w := let ⟨_, _, _, hb⟩ := h; hb
theorem Mine.later {W w w' : World} {A : Th} (hA : A.Good) (h : Mine W w A) (hb : Below w.heap.size w w') : Mine W w' A := by
  obtain ⟨X, h1, h2, h3⟩ := h
  exact ⟨X, hA.later h1 hb, h2, h3.trans (hb.mono h3.size)⟩
theorem Mine.swap {W w : World} {A B : Th} (h : Mine W w (A.and B)) : Mine W w (B.and A) := by
  obtain ⟨Z, ⟨X, Y, h1, h2, h3, h4⟩, h5, h6⟩ := h
  exact ⟨Z, ⟨Y, X, h2, h1, fun k hk hx => h3 k hx hk, fun k => (h4 k).trans or_comm⟩, h5, h6⟩
theorem Mine.rot {W w : World} {A B C : Th} (h : Mine W w (A.and (B.and C))) : Mine W w (B.and (A.and C)) := by
  obtain ⟨Z, ⟨X, U, h1, ⟨Y, V, k1, k2, k3, k4⟩, h3, h4⟩, h5, h6⟩ := h
  refine ⟨Z, ⟨Y, fun k => X k ∨ V k, k1, ⟨X, V, h1, k2, fun k hx hv => h3 k hx ((k4 k).2 (.inr hv)), fun k => Iff.rfl⟩, fun k hy hz => hz.elim (fun hx => h3 k hx ((k4 k).2 (.inl hy))) (k3 k hy), fun k => ?_⟩, h5, h6⟩
  rw [h4 k, k4 k]
  exact or_left_comm
theorem Mine.go {W w : World} {A B : Th} (hB : B.Good) (h : Mine W w (A.and B)) : ∃ X, A w X ∧ (∀ k, X k → W.heap.size ≤ k) ∧ ∀ {w' : World} {A' : Th}, LeftT A' w X w' → Mine W w' (A'.and B) := by
  obtain ⟨Z, ⟨X, Y, h1, h2, h3, h4⟩, h5, h6⟩ := h
  refine ⟨X, h1, fun k hk => h5 k ((h4 k).2 (.inl hk)), fun {w' A'} ⟨X', l1, l2, l3⟩ => ⟨fun k => X' k ∨ Y k, ⟨X', Y, l1, hB.keep h2 l2 fun i hi hx => h3 i hx hi, fun k hx hy => ?_, fun k => Iff.rfl⟩, fun k hk => ?_, h6.trans (l2.below h6.size fun k hk hx => ?_)⟩⟩
  · rcases l3 k hx with h | h
    · exact h3 k h hy
    · exact Nat.lt_irrefl _ (Nat.lt_of_lt_of_le (hB.lt h2 k hy) h)
  · rcases hk with hk | hk
    · rcases l3 k hk with h | h
      · exact h5 k ((h4 k).2 (.inl h))
      · exact Nat.le_trans h6.size h
    · exact h5 k ((h4 k).2 (.inr hk))
  · exact Nat.lt_irrefl _ (Nat.lt_of_lt_of_le hk (h5 k ((h4 k).2 (.inl hx))))
theorem Mine.new {W w w' : World} {A B : Th} (hA : A.Good) (h : Mine W w A) (hb : Below w.heap.size w w') (hn : ∃ X, B w' X ∧ ∀ k, X k → w.heap.size ≤ k) : Mine W w' (B.and A) := by
  obtain ⟨X, h1, h2, h3⟩ := h
  obtain ⟨Y, k1, k2⟩ := hn
  refine ⟨fun k => Y k ∨ X k, ⟨Y, X, k1, hA.later h1 hb, fun k hy hx => ?_, fun k => Iff.rfl⟩, fun k hk => hk.elim (fun e => Nat.le_trans h3.size (k2 k e)) (h2 k), h3.trans (hb.mono h3.size)⟩
  exact Nat.lt_irrefl _ (Nat.lt_of_lt_of_le (hA.lt h1 k hx) (k2 k hy))
theorem row_later {w w' : World} {e : TypeId} {size n : Nat} {v : Value} {xs : List Value} (h : w.ownsRow 0 e size v n xs) (hb : Below w.heap.size w w') : w'.ownsRow 0 e size v n xs := row_keep (X := fun _ => False) h (Keep.of_below hb) fun _ _ => id
theorem same_b {P : Program} {f : FuncId} {args : Array Value} {w : World} {v : Value} (h : Calls P f args w fun e w' => e = .returned v ∧ w' = w) : Calls P f args w fun e w' => e = .returned v ∧ Below w.heap.size w w' :=
  h.mono fun _ _ ⟨h1, h2⟩ => ⟨h1, h2 ▸ Below.refl _ _⟩
theorem setCell_blk {w : World} {b i : Nat} {cs : Array Value} {t : TypeId} (h : w.heap[b]? = some (.cells cs t (0, 0))) (v : Value) : (w.setCell ⟨b, i, none⟩ v).heap[b]? = some (.cells (cs.setIfInBounds i v) t (0, 0)) := by
  rw [setCell_eq_setRow w b i cs t (0, 0) v h]
  exact setRow_heap w b _ _ _ _ h
theorem keep_cell {X : Nat → Prop} {w w' : World} (k : Keep X w w') {g i : Nat} (hg : g < w.heap.size) (hx : ¬ X g) : w'.cell? ⟨g, i, none⟩ = w.cell? ⟨g, i, none⟩ := World.cell?_of_block (k.block g hg hx)
end Wi
end Go.Proofs.Ytjbgojccfkmlnaa
