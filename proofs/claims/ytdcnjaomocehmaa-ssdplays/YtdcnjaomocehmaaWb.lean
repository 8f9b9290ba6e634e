/- A part of the proofs about package ssd: what its functions answer, call by call. -/
import Derived.Test.YtdcnjaomocehmaaWk
import Derived.Test.YtdcnjaomocehmaaMb
import Derived.OneCell
import Derived.Deep.RegionLawGrows
import Derived.Maps.AppendAt
import Derived.Deep.MidRow
import Derived.Laws.CopyOwn
namespace Go.Proofs.Ytdcnjaomocehmaa
open Go.RowKit
namespace Wi
/-- Nothing that lay has turned but blocks of X. -/
structure Keep (X : Nat → Prop) (w w' : World) : Prop where
  os : w'.os = w.os
  tape : w'.tape = w.tape
  output : w'.output = w.output
  size : w.heap.size ≤ w'.heap.size
  block : ∀ k, k < w.heap.size → ¬ X k → w'.heap[k]? = w.heap[k]?
theorem Keep.refl (X : Nat → Prop) (w : World) : Keep X w w := ⟨rfl, rfl, rfl, Nat.le_refl _, fun _ _ _ => rfl⟩
theorem Keep.of_below {X : Nat → Prop} {w w' : World} (h : Below w.heap.size w w') : Keep X w w' := ⟨h.os, h.tape, h.output, h.size, fun k hk _ => h.block k hk⟩
theorem Keep.trans {X Y : Nat → Prop} {w a b : World} (h : Keep X w a) (k : Keep Y a b) (hy : ∀ i, i < w.heap.size → Y i → X i) : Keep X w b :=
  ⟨k.os.trans h.os, k.tape.trans h.tape, k.output.trans h.output, Nat.le_trans h.size k.size, fun i hi hx => (k.block i (Nat.lt_of_lt_of_le hi h.size) fun y => hx (hy i hi y)).trans (h.block i hi hx)⟩
theorem Keep.below {X : Nat → Prop} {w w' : World} {B : Nat} (h : Keep X w w') (hB : B ≤ w.heap.size) (hx : ∀ k, k < B → ¬ X k) : Below B w w' :=
  ⟨h.os, h.tape, h.output, h.size, fun k hk => h.block k (Nat.lt_of_lt_of_le hk hB) (hx k hk)⟩
theorem Keep.grown {X : Nat → Prop} {w w' : World} {row : Option Nat} (h : w.grownBy w' row) (hx : ∀ k, row = some k → X k) : Keep X w w' :=
  ⟨h.os, h.tape, h.output, h.size, fun k hk hn => h.block k hk fun e => hn (hx k e.symm)⟩
theorem Keep.setCell {X : Nat → Prop} (w : World) (p : Addr) (u : Value) (hx : X p.block) : Keep X w (w.setCell p u) :=
  ⟨rfl, rfl, rfl, by simp [World.setCell], fun k _ hn => Below.heap_setCell _ _ _ _ fun e => hn (e ▸ hx)⟩
theorem Keep.drew {X : Nat → Prop} {w w' : World} (h : Keep X w w') : Keep X w w'.drew := ⟨h.os, h.tape, h.output, h.size, h.block⟩
theorem OwnB.keep {X : Nat → Prop} {w w' : World} {v : Value} {l : List Nat} (h : OwnB w v l) (k : Keep X w w') (hx : ∀ i, v.ownBlock = some i → ¬ X i) : OwnB w' v l := by
  refine ⟨h.1, ?_⟩
  rcases h.2 with hn | ⟨g, cap, cur, rfl, hb, hgg, rest⟩
  · exact .inl hn
  · refine .inr ⟨g, cap, cur, rfl, hb, ?_, rest⟩
    rw [k.block g (lt_of_block hgg) (hx g rfl)]
    exact hgg
theorem OwnB.lt {w : World} {v : Value} {l : List Nat} (h : OwnB w v l) : ∀ k, v.ownBlock = some k → k < w.heap.size := by
  intro k hk
  rcases h.2 with ⟨hv, _⟩ | ⟨g, cap, cur, rfl, hb, hgg, rest⟩
  · rw [hv] at hk; simp [Value.ownBlock] at hk
  · simp [Value.ownBlock] at hk; subst hk; exact lt_of_block hgg
theorem step_append_moved {P : Program} {ops : Array Oper} {o : Oper} {a : Act} {w : World} {K : Act → World → Prop} {Q : Exit → Act → World → Prop} {E : Prop}
    (hg : o.guard = none) (s x : Operand) (t : TypeId) (hop : o.op = Op.call { callee := Callee.builtin Builtin.append, args := #[s, x], argTypes := #[t, t] })
    (e : TypeId) (i : TypeInfo) (z : Value) (size bytes : Nat) (ht : P.underlying t = some (.slice e)) (hi : P.info? e = some i) (hz : i.zero = some z)
    (hsize : i.size = size) (hby : i.bytes = bytes) (hzs : z.cells.size = size) (hsz : 0 < size)
    (v : Value) (n : Nat) (xs : List Value) (hs : a.eval s = v) (hown : w.ownsRow 0 e size v n xs)
    (ad : Addr) (m c : Nat) (news : List Value) (hx : a.eval x = .slice (some ad) m c) (hl : news.length = m * size) (hnews : ∀ j u, news[j]? = some u → w.cell? (ad.add j) = some u) (h1 : ∀ u ∈ news, u.oneCell' = true)
    (h63 : n + m ≤ maxLen) (hbytes : (n + m) * bytes ≤ 140737488355328)
    (hK : ∀ v' w', w'.ownsRow 0 e size v' (n + m) (xs ++ news) → w.grownBy w' v.ownBlock → Moved w v v' → K (a.put o.dst v') w') :
    if Region.wanted o (yielded ops a.tmps) = true then Oper.wp P o a w K Q else E := by
  have hw : Region.wanted o (yielded ops a.tmps) = true := by simp [Region.wanted, hg]
  rw [if_pos hw]
  obtain ⟨v', w', hrun, r1, r2, r3⟩ := run_append_moved (P := P) (w := w) t o.type e i z size bytes ht hi hz hsize hby hzs hsz v n xs hown ad m c news hl hnews h1 h63 hbytes
  unfold Oper.wp
  simp [execOp, hop, resolve, invoke, builtin, hs, hx, hrun, Result.andThen]
  exact hK v' w' r1 r2 r3
theorem own_form {w : World} {v : Value} {e : TypeId} {size n : Nat} {xs : List Value} (h : w.ownsRow 0 e size v n xs) : ∃ a m c, v = .slice a m c := by
  rcases h.2 with ⟨hv, _⟩ | ⟨g, cap, cur, hv, _⟩
  · exact ⟨_, _, _, hv⟩
  · exact ⟨_, _, _, hv⟩

/-- So many bytes 0. -/
def zs (n : Nat) : Array Value := madeCells (Value.int .u8 0).cells n
theorem zs_size (n : Nat) : (zs n).size = n := size_madeCells _ _
theorem zs_list (n : Nat) : zs n = (encB (List.replicate n 0)).toArray := by
  apply Array.ext'
  rw [zs, show (Value.int .u8 0).cells = #[Value.int .u8 0] from rfl, toList_madeCells_one]
  simp [encB]
theorem make_bytes {N : Nat} (h : N ≤ 100000000) (w : World) : (Instr.makeSlice 41 (.int .i64 (N : Int)) (.int .i64 (N : Int))).run Try.prog w = .ok (.slice (some ⟨w.heap.size, 0, none⟩) N N) (w.alloc (.cells (zs N) 5)) := by
  obtain ⟨i0, hi, hz0, hz1, hz2⟩ := info_parts info5
  have hr := run_make (P := Try.prog) w 41 5 i0 (.int .u8 0) Try.underlying41 hi hz0 .i64 .i64 (N : Int) (N : Int) (by omega) (by omega) (by rw [hz2]; omega) (by omega)
  rw [hz1] at hr
  simpa [zs] using hr
section
variable {α : Type} {f : α → List Value} {k : Nat}
theorem flat_len : ∀ l : List α, (∀ x ∈ l, (f x).length = k) → (l.flatMap f).length = l.length * k
  | [], _ => by simp
  | x :: r, h => by
    rw [List.flatMap_cons, List.length_append, flat_len r fun y hy => h y (by simp [hy]), h x (by simp), List.length_cons, Nat.add_mul]
    omega
theorem flat_part : ∀ (l : List α) (i : Nat) (x : α), (∀ y ∈ l, (f y).length = k) → l[i]? = some x → ((l.flatMap f).drop (i * k)).take k = f x
  | [], _, _, _, h => by simp at h
  | y :: r, 0, x, hk, h => by
    simp at h
    subst h
    rw [List.flatMap_cons, Nat.zero_mul, List.drop_zero, ← hk y (by simp), List.take_left]
  | y :: r, i + 1, x, hk, h => by
    have := flat_part r i x (fun z hz => hk z (by simp [hz])) (by simpa using h)
    rw [List.flatMap_cons, Nat.add_mul, Nat.one_mul, Nat.add_comm, ← List.drop_drop, ← hk y (by simp), List.drop_left, hk y (by simp)]
    exact this
theorem splice_zero {β : Type} (A c R : List β) (h : c.length = A.length) : splice (A ++ R) 0 c = c ++ R := by
  simp [splice, h]
theorem splice_behind {β : Type} (A L c : List β) (o : Nat) : splice (A ++ L) (A.length + o) c = A ++ splice L o c := by
  unfold splice
  rw [List.take_length_add_append, Nat.add_assoc, List.drop_length_add_append, List.append_assoc]
theorem flat_set : ∀ (l : List α) (i : Nat) (x : α), (∀ y ∈ l, (f y).length = k) → (f x).length = k → i < l.length → (l.set i x).flatMap f = splice (l.flatMap f) (i * k) (f x)
  | [], _, _, _, _, h => by simp at h
  | y :: r, 0, x, hk, hx, _ => by
    rw [List.set_cons_zero, List.flatMap_cons, List.flatMap_cons, Nat.zero_mul, splice_zero _ _ _ (by rw [hx, hk y (by simp)])]
  | y :: r, i + 1, x, hk, hx, h => by
    rw [List.set_cons_succ, List.flatMap_cons, List.flatMap_cons, flat_set r i x (fun z hz => hk z (by simp [hz])) hx (by simpa using h), Nat.add_mul, Nat.one_mul, Nat.add_comm, ← hk y (by simp), splice_behind]
end
theorem splice_mid {β : Type} (A Z c : List β) (n : Nat) (h : A.length = n) : splice (A ++ Z) n c = A ++ c ++ Z.drop c.length := by
  subst h
  have := splice_behind A Z c 0
  rw [Nat.add_zero] at this
  rw [this]
  simp [splice]
theorem splice_take {β : Type} (L c : List β) (o m : Nat) (h : o + c.length ≤ m) (hm : m ≤ L.length) : (splice L o c).take m = splice (L.take m) o c := by
  unfold splice
  have h1 : (L.take o).length = o := by rw [List.length_take]; omega
  rw [List.take_append, h1, List.take_of_length_le (by omega), List.take_append, List.take_take, show min o m = o by omega, List.take_of_length_le (l := c) (by omega), List.drop_take, show m - (o + c.length) = m - o - c.length by omega]
/-- Sectors as cells. -/
def encS (l : List (List Nat)) : List Value := l.flatMap encB
/-- A change as cells. -/
def encC (p : Nat × List Nat) : List Value := .int .i64 (p.1 : Nat) :: encB p.2
def encL (l : List (Nat × List Nat)) : List Value := l.flatMap encC
theorem encC_oneCell (p : Nat × List Nat) : ∀ u ∈ encC p, u.oneCell' = true := by
  intro u hu
  rw [encC, List.mem_cons] at hu
  rcases hu with rfl | hu
  · rfl
  · exact encB_oneCell _ u hu
theorem encC_length {p : Nat × List Nat} (h : p.2.length = 64) : (encC p).length = 65 := by rw [encC, List.length_cons, encB_length, h]
section
variable {w : World} {e : TypeId} {size n cap g : Nat} {xs : List Value}
theorem row_range (h : w.ownsRow 0 e size (.slice (some ⟨g, 0, none⟩) n cap) n xs) (o m : Nat) : w.rangeAt g o ((xs.drop o).take m) := fun j v hv => by
  have hj : ((xs.drop o).take m)[j]? = xs[o + j]? := by
    rw [List.getElem?_take]
    split
    · rw [List.getElem?_drop]
    · rename_i hh
      rw [List.getElem?_eq_none (by rw [List.length_take]; omega)] at hv
      cases hv
  rw [hj] at hv
  have hlt : o + j < xs.length := (List.getElem?_eq_some_iff.1 hv).1
  rw [World.ownsRow.cellAt h _ (by rw [← h.1]; exact hlt)]
  exact hv
theorem row_free (h : w.ownsRow 0 e size (.slice (some ⟨g, 0, none⟩) n cap) n xs) (j : Nat) : w.frozen? ⟨g, j, none⟩ = false := by
  rcases h.2 with ⟨hv, _⟩ | ⟨g', cap', cur, hv, _, hgg, _⟩
  · cases hv
  · cases hv
    exact frozen_of_row w _ _ _ _ hgg
theorem row_there (h : w.ownsRow 0 e size (.slice (some ⟨g, 0, none⟩) n cap) n xs) {o m : Nat} (hm : o + m ≤ n * size) : w.there g o m := fun j hj => by
  refine ⟨?_, row_free h _⟩
  rw [World.ownsRow.cellAt h _ (by omega), List.getElem?_eq_getElem (by rw [h.1]; omega)]
  rfl
theorem setCells_eq_setRow {t : TypeId} {cur : Array Value} (hg : w.heap[g]? = some (.cells cur t (0, 0))) {o : Nat} {vs : List Value} (hl : o + vs.length ≤ cur.size) (h1 : ∀ v ∈ vs, v.oneCell' = true) :
    w.setCells g o vs = w.setRow g (splice cur.toList o vs).toArray := by
  have a1 := run_storeCells_at Try.prog g o t vs 0 cur w hg (by omega) h1
  have a2 := run_storeCells_cells (P := Try.prog) g o vs 0 w (fun j hj => by
    rw [Nat.add_zero, cell_of_row w g (o + j) cur t (0, 0) hg, Array.getElem?_eq_getElem (by omega)]
    rfl) (fun j _ => frozen_of_row w _ _ _ _ hg) h1
  rw [a1] at a2
  simp only [Nat.add_zero] at a2
  injection a2 with _ e2
  rw [← e2, splice, List.append_assoc]
theorem Keep.setCells {X : Nat → Prop} (g : Nat) (hx : X g) : ∀ (vs : List Value) (o : Nat) (w : World), Keep X w (w.setCells g o vs)
  | [], _, _ => Keep.refl _ _
  | v :: r, o, w => (Keep.setCell (X := X) w ⟨g, o, none⟩ v hx).trans (Keep.setCells g hx r (o + 1) _) fun _ _ e => e
theorem heap_setCells_other (w : World) (g o : Nat) (vs : List Value) {k : Nat} (h : k ≠ g) (hk : k < w.heap.size) : (w.setCells g o vs).heap[k]? = w.heap[k]? :=
  (Keep.setCells (X := fun j => j = g) g rfl vs o w).block k hk h
theorem row_store (h : w.ownsRow 0 e size (.slice (some ⟨g, 0, none⟩) n cap) n xs) {o : Nat} {vs : List Value} (hl : o + vs.length ≤ n * size) (h1 : ∀ v ∈ vs, v.oneCell' = true) :
    (w.setCells g o vs).ownsRow 0 e size (.slice (some ⟨g, 0, none⟩) n cap) n (splice xs o vs) := by
  have hx := h.1
  rcases h.2 with ⟨hv, _⟩ | ⟨g', cap', cur, hv, hb, hgg, hnc, hcm, hcs, htake⟩
  · cases hv
  · cases hv
    have hle : n * size ≤ cur.size := by rw [hcs]; exact Nat.mul_le_mul_right _ hnc
    refine ⟨by rw [length_splice _ _ _ (by omega)]; exact hx, .inr ⟨g, cap, (splice cur.toList o vs).toArray, rfl, hb, ?_, hnc, hcm, ?_, ?_⟩⟩
    · rw [setCells_eq_setRow hgg (by omega) h1]
      exact setRow_heap w g _ _ _ _ hgg
    · rw [List.size_toArray, length_splice _ _ _ (by simpa using (by omega : o + vs.length ≤ cur.size)), ← hcs]
      simp
    · rw [List.toList_toArray, splice_take _ _ _ _ hl (by simpa using hle), htake]
theorem row_keep {X : Nat → Prop} {w' : World} {v : Value} (h : w.ownsRow 0 e size v n xs) (k : Keep X w w') (hx : ∀ i, v.ownBlock = some i → ¬ X i) : w'.ownsRow 0 e size v n xs := by
  refine ⟨h.1, ?_⟩
  rcases h.2 with hn | ⟨g, cap, cur, rfl, hb, hgg, rest⟩
  · exact .inl hn
  · refine .inr ⟨g, cap, cur, rfl, hb, ?_, rest⟩
    rw [k.block g (lt_of_block hgg) (hx g rfl)]
    exact hgg
theorem row_form {v : Value} (h : w.ownsRow 0 e size v n xs) (hn : 0 < n) : ∃ g cap, v = .slice (some ⟨g, 0, none⟩) n cap ∧ g < w.heap.size := by
  rcases h.2 with ⟨_, h0⟩ | ⟨g, cap, cur, hv, _, hgg, _⟩
  · omega
  · exact ⟨g, cap, hv, lt_of_block hgg⟩
theorem row_slice {v : Value} (h : w.ownsRow 0 e size v n xs) : ∃ a cap, v = .slice a n cap := by
  rcases h.2 with ⟨hv, h0⟩ | ⟨g, cap, cur, hv, _⟩
  · subst h0; exact ⟨_, _, hv⟩
  · exact ⟨_, _, hv⟩
end
/-- A device in memory: its block, its sectors, its changes. -/
structure Raw (w : World) (b : Nat) (sv pv : Value) (z : Int) (g : Bool) (cur : List (List Nat)) (log : List (Nat × List Nat)) : Prop where
  blk : w.heap[b]? = some (.cells #[sv, pv, .int .i64 z, .bool g] 58 (0, 0))
  sec : w.ownsRow 0 66 64 sv cur.length (encS cur)
  chg : w.ownsRow 0 69 65 pv log.length (encL log)
  whole : ∀ s ∈ cur, s.length = 64
  lwhole : ∀ p ∈ log, p.1 < cur.length ∧ p.2.length = 64
  ns : sv.ownBlock ≠ some b
  np : pv.ownBlock ≠ some b
  nn : ∀ k, sv.ownBlock = some k → pv.ownBlock ≠ some k
  most : cur.length ≤ 65536
/-- What a device's calls may turn. -/
def xDev (b : Nat) (sv pv : Value) (k : Nat) : Prop := k = b ∨ sv.ownBlock = some k ∨ pv.ownBlock = some k
section
variable {w w' : World} {b : Nat} {sv pv : Value} {z : Int} {g : Bool} {cur : List (List Nat)} {log : List (Nat × List Nat)}
theorem Raw.lt (h : Raw w b sv pv z g cur log) : b < w.heap.size := lt_of_block h.blk
theorem Raw.c (h : Raw w b sv pv z g cur log) : w.cell? ⟨b, 0, none⟩ = some sv ∧ w.cell? ⟨b, 1, none⟩ = some pv ∧ w.cell? ⟨b, 2, none⟩ = some (.int .i64 z) ∧ w.cell? ⟨b, 3, none⟩ = some (.bool g) :=
  ⟨by rw [cell_of_row w b 0 _ _ _ h.blk]; rfl, by rw [cell_of_row w b 1 _ _ _ h.blk]; rfl, by rw [cell_of_row w b 2 _ _ _ h.blk]; rfl, by rw [cell_of_row w b 3 _ _ _ h.blk]; rfl⟩
theorem Raw.fr (h : Raw w b sv pv z g cur log) (i : Nat) : w.frozen? ⟨b, i, none⟩ = false := frozen_of_row w _ _ _ _ h.blk
theorem Raw.keep {X : Nat → Prop} (h : Raw w b sv pv z g cur log) (k : Keep X w w') (hx : ∀ i, xDev b sv pv i → ¬ X i) : Raw w' b sv pv z g cur log :=
  ⟨(k.block b h.lt (hx b (.inl rfl))).trans h.blk, row_keep h.sec k fun i hi => hx i (.inr (.inl hi)), row_keep h.chg k fun i hi => hx i (.inr (.inr hi)), h.whole, h.lwhole, h.ns, h.np, h.nn, h.most⟩
theorem Raw.later (h : Raw w b sv pv z g cur log) (hb : Below w.heap.size w w') : Raw w' b sv pv z g cur log :=
  h.keep (X := fun _ => False) (Keep.of_below hb) fun _ _ => id
theorem Raw.xlt (h : Raw w b sv pv z g cur log) : ∀ k, xDev b sv pv k → k < w.heap.size := fun k hk => by
  rcases hk with rfl | hk | hk
  · exact h.lt
  · exact (h.sec.lt k hk).2
  · exact (h.chg.lt k hk).2
theorem encS_whole (h : Raw w b sv pv z g cur log) : ∀ x ∈ cur, (encB x).length = 64 := fun x hx => by rw [encB_length]; exact h.whole x hx
theorem encL_whole (h : Raw w b sv pv z g cur log) : ∀ x ∈ log, (encC x).length = 65 := fun x hx => encC_length (h.lwhole x hx).2
/-- A sector's cells. -/
theorem Raw.sector {gs cap : Nat} (h : Raw w b sv pv z g cur log) (hv : sv = .slice (some ⟨gs, 0, none⟩) cur.length cap) {i : Nat} {s : List Nat} (hi : cur[i]? = some s) : w.rangeAt gs (i * 64) (encB s) ∧ w.there gs (i * 64) 64 := by
  have hs := h.sec
  rw [hv] at hs
  have h1 := row_range hs (i * 64) 64
  rw [encS, flat_part cur i s (encS_whole h) hi] at h1
  exact ⟨h1, row_there hs (by have := (List.getElem?_eq_some_iff.1 hi).1; omega)⟩
theorem Raw.change {gp cap : Nat} (h : Raw w b sv pv z g cur log) (hv : pv = .slice (some ⟨gp, 0, none⟩) log.length cap) {i : Nat} {p : Nat × List Nat} (hi : log[i]? = some p) : w.rangeAt gp (i * 65) (encC p) ∧ w.there gp (i * 65) 65 := by
  have hs := h.chg
  rw [hv] at hs
  have h1 := row_range hs (i * 65) 65
  rw [encL, flat_part log i p (encL_whole h) hi] at h1
  exact ⟨h1, row_there hs (by have := (List.getElem?_eq_some_iff.1 hi).1; omega)⟩
/-- A sector is written. -/
theorem Raw.setSector {gs cap : Nat} (h : Raw w b sv pv z g cur log) (hv : sv = .slice (some ⟨gs, 0, none⟩) cur.length cap) {i : Nat} (hi : i < cur.length) {s : List Nat} (hs : s.length = 64) :
    Raw (w.setCells gs (i * 64) (encB s)) b sv pv z g (cur.set i s) log := by
  have hb : sv.ownBlock = some gs := by rw [hv]; rfl
  have k := Keep.setCells (X := fun j => j = gs) gs rfl (encB s) (i * 64) w
  have hse := h.sec
  rw [hv] at hse
  have h2 := row_store hse (o := i * 64) (vs := encB s) (by rw [encB_length, hs]; omega) (encB_oneCell s)
  rw [encS, ← flat_set cur i s (encS_whole h) (by rw [encB_length, hs]) hi] at h2
  refine ⟨(k.block b h.lt fun e => h.ns (by rw [hb, e])).trans h.blk, by rw [hv, List.length_set]; exact h2, row_keep h.chg k fun j hj e => h.nn gs hb (by rw [← e]; exact hj), set_whole h.whole hs, by rw [List.length_set]; exact h.lwhole, h.ns, h.np, h.nn, by rw [List.length_set]; exact h.most⟩
/-- What a change holds beside its place is written. -/
theorem Raw.setChange {gp cap : Nat} (h : Raw w b sv pv z g cur log) (hv : pv = .slice (some ⟨gp, 0, none⟩) log.length cap) {i : Nat} {p : Nat × List Nat} (hi : log[i]? = some p) {s : List Nat} (hs : s.length = 64) :
    Raw (w.setCells gp (i * 65 + 1) (encB s)) b sv pv z g cur (log.set i (p.1, s)) := by
  have hb : pv.ownBlock = some gp := by rw [hv]; rfl
  have hil : i < log.length := (List.getElem?_eq_some_iff.1 hi).1
  have k := Keep.setCells (X := fun j => j = gp) gp rfl (encB s) (i * 65 + 1) w
  have hse := h.chg
  rw [hv] at hse
  have h2 := row_store hse (o := i * 65 + 1) (vs := encB s) (by rw [encB_length, hs]; omega) (encB_oneCell s)
  have hp := h.lwhole p (List.mem_of_getElem? hi)
  have e : splice (encL log) (i * 65 + 1) (encB s) = encL (log.set i (p.1, s)) := by
    rw [encL, encL, flat_set log i (p.1, s) (encL_whole h) (encC_length hs) hil]
    have hpart := flat_part log i p (encL_whole h) hi
    have hlen := flat_len log (encL_whole h)
    generalize log.flatMap encC = L at *
    have h1 : L[i * 65]? = some (.int .i64 (p.1 : Nat)) := by
      have : ((L.drop (i * 65)).take 65)[0]? = (encC p)[0]? := by rw [hpart]
      simpa [encC] using this
    unfold splice
    rw [snoc_take L (i * 65) _ h1, encC, List.length_cons, List.append_assoc, show i * 65 + 1 + (encB s).length = i * 65 + ((encB s).length + 1) by omega]
    rfl
  rw [e] at h2
  refine ⟨(k.block b h.lt fun e => h.np (by rw [hb, e])).trans h.blk, row_keep h.sec k fun j hj e => h.nn j hj (by rw [e]; exact hb), by rw [hv, List.length_set]; exact h2, h.whole, fun q hq => ?_, h.ns, h.np, h.nn, h.most⟩
  rcases List.mem_or_eq_of_mem_set hq with h1 | rfl
  · exact h.lwhole q h1
  · exact ⟨hp.1, hs⟩
end
/-- How many calls are still done. -/
def Stops (z : Int) (s : Option Nat) : Prop := -9223372036854775808 ≤ z ∧ z ≤ 9223372036854775807 ∧ ((z < 0 ∧ s = none) ∨ ∃ n : Nat, z = (n : Int) ∧ s = some n)
/-- A device in memory is the machine's. -/
structure DevAt (w : World) (b : Nat) (sv pv : Value) (z : Int) (d : Dv) : Prop where
  raw : Raw w b sv pv z d.gone d.now (logOf d.last d.pend)
  ok : d.Ok
  stop : Stops z d.stop
theorem DevAt.later {w w' : World} {b : Nat} {sv pv : Value} {z : Int} {d : Dv} (h : DevAt w b sv pv z d) (hb : Below w.heap.size w w') : DevAt w' b sv pv z d := ⟨h.raw.later hb, h.ok, h.stop⟩

end Wi
end Go.Proofs.Ytdcnjaomocehmaa
