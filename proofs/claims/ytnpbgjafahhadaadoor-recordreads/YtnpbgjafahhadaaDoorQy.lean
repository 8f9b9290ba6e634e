/- Package wire, call by call; package span -/
import Derived.Test.YtnpbgjafahhadaaDoorQx
import Derived.OneCell
import Derived.Deep.RegionLawGrows
import Derived.Maps.AppendAt
import Derived.Deep.RegionWith
import Derived.Lib.AppendStr
import Derived.Test.YtnpbgjafahhadaaDoorQw
import Derived.Test.YtnpbgjafahhadaaDoorQm
namespace Go.Proofs.YtnpbgjafahhadaaDoor
open Go.RowKit
namespace Cr

/-- Nothing that lay has turned but blocks of X. -/
structure Keep (X : Nat → Prop) (w w' : World) : Prop where
  os : w'.os = w.os
  tape : w'.tape = w.tape
  output : w'.output = w.output
  size : w.heap.size ≤ w'.heap.size
  block : ∀ k, k < w.heap.size → ¬ X k → w'.heap[k]? = w.heap[k]?
theorem Keep.refl (X : Nat → Prop) (w : World) : Keep X w w := ⟨rfl, rfl, rfl, Nat.le_refl _, fun _ _ _ => rfl⟩
theorem Keep.of_below {X : Nat → Prop} {w w' : World} (h : Below w.heap.size w w') : Keep X w w' := ⟨h.os, h.tape, h.output, h.size, fun k hk _ => h.block k hk⟩
theorem Keep.trans {X Y : Nat → Prop} {w a b : World} (h : Keep X w a) (k : Keep Y a b) (hy : ∀ i, i < w.heap.size → Y i → X i) : Keep X w b :=
  ⟨k.os.trans h.os, k.tape.trans h.tape, k.output.trans h.output, Nat.le_trans h.size k.size, fun i hi hx => (k.block i (Nat.lt_of_lt_of_le hi h.size) fun y => hx (hy i hi y)).trans (h.block i hi hx)⟩
theorem Keep.below {X : Nat → Prop} {w w' : World} {B : Nat} (h : Keep X w w') (hB : B ≤ w.heap.size) (hx : ∀ k, k < B → ¬ X k) : Below B w w' :=
  ⟨h.os, h.tape, h.output, h.size, fun k hk => h.block k (Nat.lt_of_lt_of_le hk hB) (hx k hk)⟩
theorem Keep.grown {X : Nat → Prop} {w w' : World} {row : Option Nat} (h : w.grownBy w' row) (hx : ∀ k, row = some k → X k) : Keep X w w' :=
  ⟨h.os, h.tape, h.output, h.size, fun k hk hn => h.block k hk fun e => hn (hx k e.symm)⟩
theorem Keep.setCell {X : Nat → Prop} (w : World) (p : Addr) (u : Value) (hx : X p.block) : Keep X w (w.setCell p u) :=
  ⟨rfl, rfl, rfl, by simp [World.setCell], fun k _ hn => Below.heap_setCell _ _ _ _ fun e => hn (e ▸ hx)⟩
theorem Keep.drew {X : Nat → Prop} {w w' : World} (h : Keep X w w') : Keep X w w'.drew := ⟨h.os, h.tape, h.output, h.size, h.block⟩
theorem OwnB.keep {X : Nat → Prop} {w w' : World} {v : Value} {l : List Nat} (h : OwnB w v l) (k : Keep X w w') (hx : ∀ i, v.ownBlock = some i → ¬ X i) : OwnB w' v l := by
  refine ⟨h.1, ?_⟩
  rcases h.2 with hn | ⟨g, cap, cur, rfl, hb, hgg, rest⟩
  · exact .inl hn
  · refine .inr ⟨g, cap, cur, rfl, hb, ?_, rest⟩
    rw [k.block g (lt_of_block hgg) (hx g rfl)]
    exact hgg
theorem OwnB.lt {w : World} {v : Value} {l : List Nat} (h : OwnB w v l) : ∀ k, v.ownBlock = some k → k < w.heap.size := by
  intro k hk
  rcases h.2 with ⟨hv, _⟩ | ⟨g, cap, cur, rfl, hb, hgg, rest⟩
  · rw [hv] at hk; simp [Value.ownBlock] at hk
  · simp [Value.ownBlock] at hk; subst hk; exact lt_of_block hgg
/-- A writer lies in block b, with the slice v, of these bytes. -/
structure OutAt (w : World) (b : Nat) (v : Value) (l : List Nat) : Prop where
  blk : w.heap[b]? = some (.cells #[v] 82 (0, 0))
  own : OwnB w v l
  ne : v.ownBlock ≠ some b
theorem OutAt.lt {w : World} {b : Nat} {v : Value} {l : List Nat} (h : OutAt w b v l) : b < w.heap.size := lt_of_block h.blk
/-- What a writer's calls may turn. -/
def xOut (b : Nat) (v : Value) (k : Nat) : Prop := k = b ∨ v.ownBlock = some k
/-- Two writers share nothing. -/
def Far (b : Nat) (v : Value) (c : Nat) (u : Value) : Prop := b ≠ c ∧ v.ownBlock ≠ some c ∧ u.ownBlock ≠ some b ∧ ∀ k, v.ownBlock = some k → u.ownBlock ≠ some k
theorem Far.symm {b c : Nat} {v u : Value} (h : Far b v c u) : Far c u b v := ⟨h.1.symm, h.2.2.1, h.2.1, fun k hk e => h.2.2.2 k e hk⟩
theorem OutAt.keep {w w' : World} {b c : Nat} {v u : Value} {l : List Nat} (h : OutAt w c u l) (k : Keep (xOut b v) w w') (hf : Far b v c u) : OutAt w' c u l :=
  ⟨(k.block c h.lt fun e => e.elim (fun e => hf.1 e.symm) hf.2.1).trans h.blk, h.own.keep k fun i hi e => e.elim (fun e => hf.2.2.1 (e ▸ hi)) fun e => hf.2.2.2 i e hi, h.ne⟩
theorem OutAt.later {w w' : World} {b : Nat} {v : Value} {l : List Nat} (h : OutAt w b v l) (hb : Below w.heap.size w w') : OutAt w' b v l :=
  ⟨(hb.block b h.lt).trans h.blk, h.own.later hb, h.ne⟩
theorem Far.move {w : World} {b c : Nat} {v v' u : Value} {m : List Nat} (hf : Far b v c u) (hm : Moved w v v') (hc : OutAt w c u m) : Far b v' c u := by
  rcases hm with hm | hm
  · exact ⟨hf.1, by rw [hm]; exact hf.2.1, hf.2.2.1, by rw [hm]; exact hf.2.2.2⟩
  · exact ⟨hf.1, fun e => by have := hm c e; have := hc.lt; omega, hf.2.2.1, fun k hk e => by have := hm k hk; have := hc.own.lt k e; omega⟩
theorem OutAt.new (w : World) : OutAt (w.alloc (.cells #[.slice none 0 0] 82)) w.heap.size (.slice none 0 0) [] :=
  ⟨heap_alloc_new _ _, OwnB.nil _, by simp [Value.ownBlock]⟩
/-- What a call of a writer leaves: its bytes, and all else as it was. -/
structure Wrote (w : World) (b : Nat) (v : Value) (l : List Nat) (w' : World) (v' : Value) : Prop where
  out : OutAt w' b v' l
  keep : Keep (xOut b v) w w'
  moved : Moved w v v'
theorem Wrote.refl {w : World} {b : Nat} {v : Value} {l : List Nat} (h : OutAt w b v l) : Wrote w b v l w v := ⟨h, Keep.refl _ _, Moved.refl _ _⟩
theorem Wrote.trans {w w1 w2 : World} {b : Nat} {v v1 v2 : Value} {l m : List Nat} (h : Wrote w b v l w1 v1) (k : Wrote w1 b v1 m w2 v2) : Wrote w b v m w2 v2 :=
  ⟨k.out, h.keep.trans k.keep fun i hi e => by
    rcases e with e | e
    · exact .inl e
    · rcases h.moved with hm | hm
      · exact .inr (hm ▸ e)
      · have := hm i e; omega, h.moved.trans k.moved h.keep.size⟩
theorem Wrote.later {w w1 w2 : World} {b : Nat} {v v1 : Value} {l : List Nat} (h : Wrote w b v l w1 v1) (hb : Below w1.heap.size w1 w2) : Wrote w b v l w2 v1 :=
  h.trans ⟨h.out.later hb, Keep.of_below hb, Moved.refl _ _⟩
theorem Wrote.first {w w1 w2 : World} {b : Nat} {v v1 : Value} {l : List Nat} (hb : Below w.heap.size w w1) (h : Wrote w1 b v l w2 v1) : Wrote w b v l w2 v1 :=
  ⟨h.out, (Keep.of_below (X := xOut b v) hb).trans h.keep fun _ _ e => e, by
    rcases h.moved with hm | hm
    · exact .inl hm
    · exact .inr fun k hk => Nat.le_trans hb.size (hm k hk)⟩
theorem Wrote.below {w w' : World} {b B : Nat} {v v' : Value} {l : List Nat} (h : Wrote w b v l w' v') (hB : B ≤ w.heap.size) (hb : B ≤ b) (hv : From B v) : Below B w w' ∧ From B v' :=
  ⟨h.keep.below hB fun k hk e => e.elim (fun e => by omega) fun e => by have := hv k e; omega, hv.moved h.moved hB⟩
/-- One append through the pointer, and the store. -/
theorem wrote_append {w w1 w2 : World} {b : Nat} {v v' : Value} {l m : List Nat} (h : OutAt w b v l) (hb : Below w.heap.size w w1) (hown : OwnB w2 v' m) (hg : w1.grownBy w2 v.ownBlock) (hm : Moved w1 v v') :
    Wrote w b v m (w2.setCell ⟨b, 0, none⟩ v') v' := by
  have k1 : Keep (xOut b v) w w2 := (Keep.of_below (X := xOut b v) hb).trans (Keep.grown (X := xOut b v) hg fun k hk => .inr hk) fun _ _ e => e
  have hblk : w2.heap[b]? = some (.cells #[v] 82 (0, 0)) := by
    have hlt := Nat.lt_of_lt_of_le h.lt hb.size
    rw [hg.block b hlt fun e => h.ne e.symm, hb.block b h.lt]
    exact h.blk
  have hne : v'.ownBlock ≠ some b := by
    rcases hm with hm | hm
    · rw [hm]; exact h.ne
    · intro e
      have := hm b e
      have := Nat.lt_of_lt_of_le h.lt hb.size
      omega
  refine ⟨⟨one_setCell hblk, ownsRow_setCell_other hown hne _, hne⟩, k1.trans (Keep.setCell (X := xOut b v) w2 _ _ (.inl rfl)) fun _ _ e => e, ?_⟩
  rcases hm with hm | hm
  · exact .inl hm
  · exact .inr fun k hk => Nat.le_trans hb.size (hm k hk)
theorem step_append_moved {P : Program} {ops : Array Oper} {o : Oper} {a : Act} {w : World} {K : Act → World → Prop} {Q : Exit → Act → World → Prop} {E : Prop}
    (hg : o.guard = none) (s x : Operand) (t : TypeId) (hop : o.op = Op.call { callee := Callee.builtin Builtin.append, args := #[s, x], argTypes := #[t, t] })
    (e : TypeId) (i : TypeInfo) (z : Value) (size bytes : Nat) (ht : P.underlying t = some (.slice e)) (hi : P.info? e = some i) (hz : i.zero = some z)
    (hsize : i.size = size) (hby : i.bytes = bytes) (hzs : z.cells.size = size) (hsz : 0 < size)
    (v : Value) (n : Nat) (xs : List Value) (hs : a.eval s = v) (hown : w.ownsRow 0 e size v n xs)
    (ad : Addr) (m c : Nat) (news : List Value) (hx : a.eval x = .slice (some ad) m c) (hl : news.length = m * size) (hnews : ∀ j u, news[j]? = some u → w.cell? (ad.add j) = some u) (h1 : ∀ u ∈ news, u.oneCell' = true)
    (h63 : n + m ≤ maxLen) (hbytes : (n + m) * bytes ≤ 140737488355328)
    (hK : ∀ v' w', w'.ownsRow 0 e size v' (n + m) (xs ++ news) → w.grownBy w' v.ownBlock → Moved w v v' → K (a.put o.dst v') w') :
    if Region.wanted o (yielded ops a.tmps) = true then Oper.wp P o a w K Q else E := by
  have hw : Region.wanted o (yielded ops a.tmps) = true := by simp [Region.wanted, hg]
  rw [if_pos hw]
  obtain ⟨v', w', hrun, r1, r2, r3⟩ := run_append_moved (P := P) (w := w) t o.type e i z size bytes ht hi hz hsize hby hzs hsz v n xs hown ad m c news hl hnews h1 h63 hbytes
  unfold Oper.wp
  simp [execOp, hop, resolve, invoke, builtin, hs, hx, hrun, Result.andThen]
  exact hK v' w' r1 r2 r3
theorem cell_one_drew (w : World) (x : Value) (t : TypeId) : ∀ j u, [x][j]? = some u → (w.alloc (.cells #[x] t)).drew.cell? ((⟨w.heap.size, 0, none⟩ : Addr).add j) = some u := by
  intro j u h
  rw [← cell_one_new w x t j u h]
  rfl
theorem cell_grown {w w2 : World} {o : Obj} {b : Nat} {v u : Value} (h : w.cell? ⟨b, 0, none⟩ = some u) (hb : b < w.heap.size) (hne : v.ownBlock ≠ some b) (hg : (w.alloc o).drew.grownBy w2 v.ownBlock) : w2.cell? ⟨b, 0, none⟩ = some u := by
  rw [← h, World.cell?_of_block (w := (w.alloc o).drew) (hg.block b (by show b < (w.alloc o).heap.size; simp; omega) fun e => hne e.symm)]
  exact (below_alloc w o).cell hb
theorem free_grown {w w2 : World} {o : Obj} {b : Nat} {v : Value} (h : w.frozen? ⟨b, 0, none⟩ = false) (hb : b < w.heap.size) (hne : v.ownBlock ≠ some b) (hg : (w.alloc o).drew.grownBy w2 v.ownBlock) : w2.frozen? ⟨b, 0, none⟩ = false := by
  rw [← h, World.frozen?_of_block (w := (w.alloc o).drew) (hg.block b (by show b < (w.alloc o).heap.size; simp; omega) fun e => hne e.symm)]
  exact (below_alloc w o).frozen hb
theorem be_get (x : Nat) : ∀ n i, i < n → (be x n)[i]? = some (x / 256 ^ (n - 1 - i) % 256)
  | 0, _, h => by omega
  | n + 1, i, h => by
    cases i with
    | zero => simp [be]
    | succ i =>
      rw [be, List.getElem?_cons_succ, be_get x n i (by omega)]
      congr 4
      omega
theorem be_take {x n j : Nat} (h : j < n) : (be x n).take (n - (j + 1)) ++ [x / 256 ^ j % 256] = (be x n).take (n - j) := by
  have hg := be_get x n (n - (j + 1)) (by omega)
  rw [show n - 1 - (n - (j + 1)) = j by omega] at hg
  rw [← snoc_take _ _ _ hg]
  congr 1
  omega
theorem wrap8 {j : Nat} (h : j < 9) : IntKind.i64.wrap (8 * (j : Int)) = 8 * (j : Int) := by
  simp [IntKind.wrap, IntKind.bits, IntKind.signed]
  omega
theorem low_byte2 (x j : Nat) : IntKind.u8.wrap ((x : Int) / 2 ^ (8 * (j : Int)).toNat) = ((x / 256 ^ j % 256 : Nat) : Int) := by
  rw [show (8 * (j : Int)).toNat = 8 * j by omega, ← low_byte]
  simp [IntKind.wrap, IntKind.bits, IntKind.signed]
theorem OwnB.push {w : World} {v : Value} {L : List Nat} {Z : Int} {Y : Nat} (h : w.ownsRow 0 5 1 v (L.length + 1) (encB L ++ [.int .u8 Z])) (e : Z = (Y : Int)) : OwnB w v (L ++ [Y]) := by
  subst e
  unfold OwnB
  rw [encB_append, List.length_append]
  exact h
theorem own_form {w : World} {v : Value} {e : TypeId} {size n : Nat} {xs : List Value} (h : w.ownsRow 0 e size v n xs) : ∃ a m c, v = .slice a m c := by
  rcases h.2 with ⟨hv, _⟩ | ⟨g, cap, cur, hv, _⟩
  · exact ⟨_, _, _, hv⟩
  · exact ⟨_, _, _, hv⟩
set_option maxHeartbeats 2000000 in
theorem low_any (b : Nat) (v : Value) (l : List Nat) (x n : Nat) (_hx : x < 18446744073709551616) (hn : n ≤ 8) (w : World) (h : OutAt w b v l) (hl : l.length ≤ 1000000000) :
    Calls Tryd.prog 70 #[.pointer (some ⟨b, 0, none⟩), .int .u64 (x : Nat), .int .i64 (n : Nat)] w fun e w' => e = .returned (.tuple #[]) ∧ ∃ v', Wrote w b v (l ++ be x n) w' v' := by
  obtain ⟨i0, hi, hz0, hz1, hz2⟩ := info_parts info5
  go_enter Tryd.func70, Tryd.ntmps70
  go_wp2
  go_loopw [2] (fun i wr => ∃ (k : Nat) (z : Int), k ≤ n ∧ i = .int .i64 z ∧ z = (k : Int) - 1 ∧ ∃ v', Wrote w b v (l ++ (be x n).take (n - k)) wr v') (fun i _ => (intOf i + 1).toNat)
  case atStart => exact ⟨n, _, Nat.le_refl _, rfl, by go_num, v, by rw [Nat.sub_self, List.take_zero, List.append_nil]; exact Wrote.refl h⟩
  case round =>
    obtain ⟨k, z, hk, rfl, hz, v', hwr⟩ := hrel
    by_cases hz0' : 0 ≤ z
    · obtain ⟨j, rfl⟩ := Int.eq_ofNat_of_zero_le hz0'
      obtain rfl : k = j + 1 := by omega
      have HT : Hid ((l ++ (be x n).take (n - (j + 1))) ++ [x / 256 ^ j % 256] = l ++ (be x n).take (n - j)) := by
        show _ = _
        rw [List.append_assoc, be_take (by omega)]
      have EB := hide (low_byte2 x j)
      have cB := cell_of_one hwr.out.blk
      have fB := free_of_one hwr.out.blk
      have lB := hwr.out.lt
      have nB := hwr.out.ne
      have hll : (l ++ (be x n).take (n - (j + 1))).length ≤ 1000000008 := by rw [List.length_append, List.length_take]; omega
      generalize l ++ (be x n).take (n - (j + 1)) = L at *
      generalize x / 256 ^ j % 256 = Y at *
      clear hz hz0'
      have hj7 : j < 8 := by omega
      have e8 : IntKind.i64.wrap (8 * (j : Int)) = 8 * (j : Int) := wrap8 (by omega)
      have e9 : 0 ≤ 8 * (j : Int) := by omega
      have e10 : 8 * (j : Int) < 64 := by omega
      go_wp2
      go_region_law (refine step_append_moved rfl (.tmp 16) (.tmp 22) 52 rfl 5 i0 _ 1 1 Tryd.underlying52 hi hz0 hz1 hz2 rfl (by decide) _ _ _ (by simp [Act.eval]) (hwr.out.own.later (below_alloc _ _).drew) ⟨wr.heap.size, 0, none⟩ 1 1 [.int .u8 (IntKind.u8.wrap ((x : Int) / 2 ^ (8 * (j : Int)).toNat))] (by simp [Act.eval]) rfl (cell_one_drew _ _ _) (one_oneCell _ _) (by unfold maxLen; omega) (by omega) ?_; intro v2 w2 g1 g2 g3; obtain ⟨a2, n2, c2, rfl⟩ := own_form g1; have cB2 := cell_grown cB lB nB g2; have fB2 := free_grown fB lB nB g2; replace g1 := hide (OwnB.push g1 EB.out); replace g2 := hide g2; replace g3 := hide g3)
      all_goals
        have HW := hide (hwr.trans (wrote_append hwr.out (below_alloc _ _).drew g1.out g2.out g3.out))
        clear g1 g2 g3
        go_wp2
        go_roundw
        case rel => exact ⟨j, _, by omega, rfl, by go_num, _, by rw [← HT.out]; exact HW.out⟩
        case measure => simp [intOf]
    · obtain rfl : k = 0 := by omega
      have HT : Hid ((be x n).take (n - 0) = be x n) := List.take_of_length_le (by rw [be_length]; omega)
      rw [HT.out] at hwr
      go_wp2
      go_end0
      exact ⟨rfl, v', hwr⟩

end Cr
end Go.Proofs.YtnpbgjafahhadaaDoor

namespace Go.Proofs.YtnpbgjafahhadaaDoor
open Go.RowKit
namespace Cr

/-- What a reader reads: a number of so many bytes; a number in few bytes, if it is no more than another one; so many bytes; a text. -/
def fixR (l : List Nat) (n : Int) : Nat × Nat × Int := if 1 ≤ n ∧ n ≤ 8 then (if (l.length : Int) < n then (0, 0, 10) else (num (l.take n.toNat), n.toNat, 0)) else (0, 0, 1)
def intR (l : List Nat) (m : Int) : Nat × Nat × Int := if (few 12 l).2.2 = 0 ∧ (m < 0 ∨ m < ((few 12 l).1 : Nat)) then (0, 0, 12) else few 12 l
def rawR (l : List Nat) (n : Int) : List Nat × Nat × Int := if n < 0 then ([], 0, 1) else if (l.length : Int) < n then ([], 0, 10) else (l.take n.toNat, n.toNat, 0)
def txtR (l : List Nat) (m : Int) : List Nat × Nat × Int :=
  if (intR l m).2.2 ≠ 0 then ([], 0, (intR l m).2.2) else if l.length - (intR l m).2.1 < (intR l m).1 then ([], 0, 10) else ((l.drop (intR l m).2.1).take (intR l m).1, (intR l m).2.1 + (intR l m).1, 0)
theorem few_facts (l : List Nat) : ((few 12 l).2.2 = 0 ∨ (few 12 l).1 = 0 ∧ (few 12 l).2.1 = 0 ∧ ((few 12 l).2.2 = 10 ∨ (few 12 l).2.2 = 12)) ∧ (few 12 l).2.1 ≤ l.length := by
  cases l with
  | nil => simp [few]
  | cons b r =>
    rw [few]
    split
    · simp
    · split
      · simp
      · simp; omega
theorem few_bound {l : List Nat} (hl : ∀ b ∈ l, b < 256) : (few 12 l).1 < 18446744073709551616 := few_lt 12 (n := (few 12 l).2.1) (e := (few 12 l).2.2) hl rfl
theorem vr_nine {x : Nat} (hx : x < 18446744073709551616) (h : size x = 9) : str [255] ++ str (be x 8) = str (vr x) := by
  rw [← str_append, vr, h]
  have : x / 256 ^ (9 - 1) = 0 := Nat.div_eq_of_lt hx
  rw [this]
  rfl
theorem first_small {x : Nat} (hx : x < 18446744073709551616) (_h : size x ≠ 9) : x / 256 ^ (size x - 1) < 128 ∧ hd (size x) + x / 256 ^ (size x - 1) < 256 := by
  have h2 := (lenOf_vr x hx).2
  refine ⟨?_, h2⟩
  rcases size_cases x hx with ⟨h, h1⟩ | ⟨h, h0, h1⟩ | ⟨h, h0, h1⟩ | ⟨h, h0, h1⟩ | ⟨h, h0, h1⟩ | ⟨h, h0, h1⟩ | ⟨h, h0, h1⟩ | ⟨h, h0, h1⟩ | ⟨h, h0, h1⟩ <;> rw [h] <;> simp only [Nat.reduceSub, Nat.reducePow] <;> omega
theorem be_first {x : Nat} (hx : x < 18446744073709551616) (h : size x ≠ 9) : be x (size x) = x / 256 ^ (size x - 1) :: be x (size x - 1) := by
  have hp := size_pos x
  have hf := first_small hx h
  have e : size x = (size x - 1) + 1 := by omega
  rw [show be x (size x) = be x ((size x - 1) + 1) by rw [← e], be, Nat.mod_eq_of_lt (by omega)]
theorem str_get0 (b : Nat) (r : List Nat) (hb : b < 256) (h : 0 < (str (b :: r)).size) : ((str (b :: r))[0]'h).toNat = b := by
  show (UInt8.ofNat b).toNat = b
  rw [UInt8.toNat_ofNat']
  exact Nat.mod_eq_of_lt hb
theorem str_tail (b : Nat) (r : List Nat) (n : Nat) (h : n = r.length + 1) : (str (b :: r)).extract 1 n = str r := by
  subst h
  apply ByteArray.ext
  simp [str]
  exact List.take_of_length_le (by simp)
theorem conv_drew (z : Int) (b : Nat) (hz : z = (b : Int)) (w : World) : (convert 52 9 (.slice (some ⟨w.heap.size, 0, none⟩) 1 1)).run Tryd.prog (w.alloc (.cells #[.int .u8 z] 5)).drew = .ok (.string (str [b])) (w.alloc (.cells #[.int .u8 z] 5)).drew := by
  subst hz
  exact conv_bytes _ _ 0 1 1 [b] rfl fun i x hx => by
    cases i with
    | zero => simp at hx; subst hx; simp
    | succ i => simp at hx
theorem wrap_sum {a b : Nat} (h : a + b < 256) : IntKind.u8.wrap (IntKind.i64.wrap ((a : Int) + IntKind.i64.wrap (b : Int))) = ((a + b : Nat) : Int) := by
  simp [IntKind.wrap, IntKind.bits, IntKind.signed]
  omega
theorem wrap_sum2 {a b : Nat} (h : a + b < 256) : IntKind.u8.wrap (IntKind.i64.wrap ((a : Int) + (b : Int))) = ((a + b : Nat) : Int) := by
  simp [IntKind.wrap, IntKind.bits, IntKind.signed]
  omega
theorem wrap_sum3 {a b : Nat} (h : a + b < 256) : IntKind.u8.wrap ((a : Int) + (b : Int)) = ((a + b : Nat) : Int) := by
  simp [IntKind.wrap, IntKind.bits, IntKind.signed]
  omega
set_option maxHeartbeats 2000000 in
theorem rvar_any (x : Nat) (hx : x < 18446744073709551616) (w : World) :
    Calls Tryd.prog 31 #[.int .u64 (x : Nat)] w fun e w' => e = .returned (.string (str (vr x))) ∧ Below w.heap.size w w' := by
  have hz : ∀ w, _ := fun w => rsize_any x hx w
  have hp := size_pos x
  by_cases h9 : size x = 9
  · have hf : ∀ w, _ := fun w => rfixed_any x 8 hx (by omega) w
    have HV := hide (vr_nine hx h9)
    have hl : (str (be x 8)).size = 8 := by rw [str_size, be_length]
    rw [h9] at hz
    generalize str (be x 8) = B at *
    go_enter Tryd.func31, Tryd.ntmps31
    go_wp2_with fail
    refine (hz _).mono ?_
    rintro e w' ⟨rfl, rfl⟩
    go_wp2_with fail
    refine (hf _).mono ?_
    rintro e w' ⟨rfl, hb⟩
    go_wp2
    go_ret
    exact ⟨ret_str HV.out, hb⟩
  · have hf : ∀ w, _ := fun w => rfixed_any x (size x) hx (by omega) w
    have hh : ∀ w, _ := fun w => head_any (size x) hp.1 hp.2 w
    have HV : Hid (str [hd (size x) + x / 256 ^ (size x - 1)] ++ str (be x (size x - 1)) = str (vr x)) := by
      show _ = _
      rw [← str_append]
      rfl
    have hs := first_small hx h9
    rw [be_first hx h9] at hf
    have hg := str_get0 (x / 256 ^ (size x - 1)) (be x (size x - 1)) (by omega)
    have ht := str_tail (x / 256 ^ (size x - 1)) (be x (size x - 1)) (str (x / 256 ^ (size x - 1) :: be x (size x - 1))).size (by rw [str_size]; rfl)
    have hl : (str (x / 256 ^ (size x - 1) :: be x (size x - 1))).size = size x := by rw [str_size, List.length_cons, be_length]; omega
    have hl2 : (str (be x (size x - 1))).size ≤ 8 := by rw [str_size, be_length]; omega
    have hl1 : (str [hd (size x) + x / 256 ^ (size x - 1)]).size = 1 := by rw [str_size]; rfl
    rw [hl] at ht
    generalize x / 256 ^ (size x - 1) = F at *
    generalize str (F :: be x (size x - 1)) = S at *
    generalize str (be x (size x - 1)) = B at *
    generalize hd (size x) = H at *
    generalize size x = n at *
    have hcv : ∀ w, _ := fun w => conv_drew ((H : Int) + (F : Int)) (H + F) (by omega) w
    have hcv2 : ∀ w, _ := fun w => conv_drew (IntKind.u8.wrap (IntKind.i64.wrap ((H : Int) + IntKind.i64.wrap (F : Int)))) (H + F) (wrap_sum hs.2) w
    have hcv3 : ∀ w, _ := fun w => conv_drew (IntKind.u8.wrap (IntKind.i64.wrap ((H : Int) + (F : Int)))) (H + F) (wrap_sum2 hs.2) w
    have hcv4 : ∀ w, _ := fun w => conv_drew (IntKind.u8.wrap ((H : Int) + (F : Int))) (H + F) (wrap_sum3 hs.2) w
    generalize str [H + F] = C at *
    obtain ⟨hs1, hs2⟩ := hs
    have hs3 : H < 256 := by omega
    have h0 : 0 < S.size := by omega
    replace hg := hg h0
    go_enter Tryd.func31, Tryd.ntmps31
    go_wp2_with fail
    refine (hz _).mono ?_
    rintro e w' ⟨rfl, rfl⟩
    go_wp2_with fail
    refine (hf _).mono ?_
    rintro e w' ⟨rfl, hb⟩
    go_wp2
    go_region_with (go_at_call 62; refine (hh _).mono ?_; rintro e w2 ⟨rfl, rfl⟩)
    all_goals
      go_wp2
      go_ret
      exact ⟨ret_str HV.out, by first | exact (hb.trans ((below_alloc _ _).mono hb.size)).drew | exact hb.drew.trans ((below_alloc _ _).mono hb.drew.size)⟩

theorem jo_step {x b : Nat} (_hx : x < 18446744073709551616) (hb : b < 256) : IntKind.u64.wrap (IntKind.u64.wrap (256 * (x : Int)) + (b : Int)) = ((x * 256 % 18446744073709551616 + b : Nat) : Int) := by
  simp only [IntKind.wrap_u64]
  omega
theorem fixR_arg {l : List Nat} {n : Int} (h : ¬ (1 ≤ n ∧ n ≤ 8)) : fixR l n = (0, 0, 1) := by rw [fixR, if_neg h]
theorem fixR_short {l : List Nat} {n : Int} (h : 1 ≤ n ∧ n ≤ 8) (h2 : (l.length : Int) < n) : fixR l n = (0, 0, 10) := by rw [fixR, if_pos h, if_pos h2]
theorem fixR_ok {l : List Nat} {n : Int} (h : 1 ≤ n ∧ n ≤ 8) (h2 : ¬ (l.length : Int) < n) : fixR l n = (num (l.take n.toNat), n.toNat, 0) := by rw [fixR, if_pos h, if_neg h2]
theorem hd_fin : ∀ b : Fin 256, ∀ k : Fin 9, 1 ≤ k.val → (hd (k.val + 1) ≤ b.val ↔ k.val + 1 ≤ lenOf b.val) := by decide +kernel
theorem hd_lenOf {b k : Nat} (hb : b < 256) (h1 : 1 ≤ k) (h8 : k ≤ 8) : hd (k + 1) ≤ b ↔ k + 1 ≤ lenOf b := hd_fin ⟨b, hb⟩ ⟨k, by omega⟩ h1
theorem drop1_take {s : ByteArray} {r : List Nat} {x : Nat} (h : bs s = x :: r) {j : Nat} (hj : j < s.size) (h1 : 1 ≤ j) : r.take j = r.take (j - 1) ++ [(s[j]'hj).toNat] := by
  have hg := bs_get s j hj
  rw [h] at hg
  obtain ⟨i, rfl⟩ : ∃ i, j = i + 1 := ⟨j - 1, by omega⟩
  rw [List.getElem?_cons_succ] at hg
  exact snoc_take _ _ _ hg

end Cr
end Go.Proofs.YtnpbgjafahhadaaDoor

namespace Go.Proofs.YtnpbgjafahhadaaDoor
open Go.RowKit
namespace Cr

theorem nine_fin : ∀ b : Fin 256, lenOf b.val = 9 → b.val - hd (lenOf b.val) = 0 := by decide +kernel
theorem nine_zero {b : Nat} (hb : b < 256) : lenOf b = 9 → b - hd (lenOf b) = 0 := nine_fin ⟨b, hb⟩
set_option maxHeartbeats 4000000 in
theorem rfew_any (s : ByteArray) (hs : s.size ≤ 9223372036854775807) (w : World) :
    Calls Tryd.prog 85 #[.string s] w fun e w' => e = .returned (.tuple #[.int .u64 ((few 12 (bs s)).1 : Nat), .int .i64 ((few 12 (bs s)).2.1 : Nat), .int .i64 (few 12 (bs s)).2.2]) ∧ Below w.heap.size w w' := by
  by_cases h0 : 0 < s.size
  · have hb := isEmpty_no h0
    obtain ⟨r, hbs, hrl, hr, hb0⟩ := bs_cons h0
    have hnp := lenOf_pos (s[0]'h0).toNat
    have hhd := hd_le _ hb0
    have Hbs := hide hbs
    clear hbs
    go_enter Tryd.func85, Tryd.ntmps85
    go_wp2
    go_loopw [5] (fun n wr => ∃ k : Nat, 1 ≤ k ∧ k ≤ 9 ∧ k ≤ lenOf (s[0]'h0).toNat ∧ n = .int .i64 k ∧ Below w.heap.size w wr) (fun n _ => 9 - (intOf n).toNat)
    case atStart => exact ⟨1, by omega, by omega, hnp.1, rfl, Below.refl _ _⟩
    case round =>
      obtain ⟨k, hk1, hk9, hkl, rfl, hbr⟩ := hrel
      have hne := later_ne wr
      by_cases hlt : k < 9
      · have hlt' : (k : Int) < 9 := by omega
        have hhk : ∀ w, _ := fun w => same_b (head_any (k + 1) (by omega) (by omega) w)
        have HI := hide (hd_lenOf hb0 hk1 (show k ≤ 8 by omega))
        rw [show ((k + 1 : Nat) : Int) = (k : Int) + 1 by omega] at hhk
        by_cases hge : hd (k + 1) ≤ (s[0]'h0).toNat
        · have HK := hide (HI.out.1 hge)
          clear HI
          generalize hd (k + 1) = Hk at *
          go_wp2
          refine wp_region_later (by kernel_rfl) (by kernel_rfl) ?_
          (repeat (first | go_big_quiet_skip | (go_big_quiet_want; go_big_quiet_op; go_big_quiet_on)))
          (go_big_quiet_want; go_big_quiet_op; apply Exists.intro; refine ⟨fun p => ?_, ?_⟩; (· exact later_of (hhk _)); go_big_quiet_on)
          (repeat (first | go_big_quiet_skip | (go_big_quiet_want; go_big_quiet_op; go_big_quiet_on)))
          refine wpQuiet_nil ?_
          rintro _ ⟨p, rfl⟩
          go_wp2
          go_roundw
          case rel => exact ⟨k + 1, by omega, by omega, HK.out, by go_num, hbr.trans (p.below.mono hbr.size)⟩
          case measure => simp [intOf]; omega
        · have HK : ¬ k + 1 ≤ lenOf (s[0]'h0).toNat := fun h => hge (HI.out.2 h)
          clear HI
          generalize hd (k + 1) = Hk at *
          obtain rfl : k = lenOf (s[0]'h0).toNat := by omega
          clear HK
          have hbs := Hbs.out
          have BB := hbr
          go_wp2
          refine wp_region_later (by kernel_rfl) (by kernel_rfl) ?_
          (repeat (first | go_big_quiet_skip | (go_big_quiet_want; go_big_quiet_op; go_big_quiet_on)))
          (go_big_quiet_want; go_big_quiet_op; apply Exists.intro; refine ⟨fun p => ?_, ?_⟩; (· exact later_of (hhk _)); go_big_quiet_on)
          (repeat (first | go_big_quiet_skip | (go_big_quiet_want; go_big_quiet_op; go_big_quiet_on)))
          refine wpQuiet_nil ?_
          rintro _ ⟨p, rfl⟩
          replace BB := BB.trans (p.below.mono BB.size)
          clear hne hhk hge
          by_cases h1 : r.length + 1 < lenOf (s[0]'h0).toNat
          · have HF := hide (few_short (F := 12) h1)
            rw [← hbs] at HF
            clear hbs
            rw [hrl] at h1
            generalize lenOf (s[0]'h0).toNat = n at *
            go_wp2
            ((try simp only [Exit.inBlock, Exit.then]); refine bodyPost_ret (results_tmp3 rfl _ _ _) rfl ?_)
            exact ⟨by rw [HF.out]; rfl, BB⟩
          · have hje := jo_fv hb0 hr h1
            have hhd2 : ∀ w, _ := fun w => same_b (head_any (lenOf (s[0]'h0).toNat) hnp.1 hnp.2 w)
            obtain ⟨hfs, hfl⟩ := fv_size hb0 hr
            have hsz : ∀ w, _ := fun w => rsize_any (fv (s[0]'h0).toNat r) hfl w
            have h9d : lenOf (s[0]'h0).toNat = 9 → (s[0]'h0).toNat - hd (lenOf (s[0]'h0).toNat) = 0 := nine_zero hb0
            have hrt : ∀ j, 1 ≤ j → (hj : j < s.size) → Hid (r.take j = r.take (j - 1) ++ [(s[j]'hj).toNat]) := fun j h1 hj => drop1_take hbs hj h1
            have HF : Hid (few 12 (bs s) = if size (fv (s[0]'h0).toNat r) = lenOf (s[0]'h0).toNat then (fv (s[0]'h0).toNat r, lenOf (s[0]'h0).toNat, 0) else (0, 0, 12)) := by
              show _ = _
              rw [hbs]
              split
              · rename_i h; exact few_ok h1 h
              · rename_i h; exact few_form h1 h
            have HJ := hide hje
            have hnn := later_ne p.val
            clear hbs hje hfs
            rw [hrl] at h1
            generalize fv (s[0]'h0).toNat r = V at *
            generalize size V = S at *
            have hhdl : hd (lenOf (s[0]'h0).toNat) < 256 := by omega
            generalize hd (lenOf (s[0]'h0).toNat) = H at *
            generalize lenOf (s[0]'h0).toNat = n at *
            have hDl : (s[0]'h0).toNat - H < 18446744073709551616 := by omega
            have h1' : ((n : Int) ≤ (s.size : Int)) := by omega
            have hcast : ((s[0]'h0).toNat : Int) - (H : Int) = (((s[0]'h0).toNat - H : Nat) : Int) := by omega
            generalize hDd : (s[0]'h0).toNat - H = D at *
            clear hDd
            go_wp2
            refine wp_region_later (by kernel_rfl) (by kernel_rfl) ?_
            (repeat (first | go_big_quiet_skip | (go_big_quiet_want; go_big_quiet_op; go_big_quiet_on)))
            (go_big_quiet_want; go_big_quiet_op; apply Exists.intro; refine ⟨fun p => ?_, ?_⟩; (· exact later_of (hhd2 _)); go_big_quiet_on)
            (repeat (first | go_big_quiet_skip | (go_big_quiet_want; go_big_quiet_op; go_big_quiet_on)))
            refine wpQuiet_nil ?_
            rintro _ ⟨p2, rfl⟩
            by_cases hn9 : n = 9
            · have hD0 := h9d hn9
              subst hD0
              subst hn9
              exfalso; omega
            · clear h9d
              go_wp2
              go_loop [6, 7] (fun x i => ∃ j : Nat, 1 ≤ j ∧ j ≤ n ∧ i = .int .i64 j ∧ x = .int .u64 (jo D (r.take (j - 1)) : Nat)) (fun _ i => n - (intOf i).toNat)
              case atStart => exact ⟨1, by omega, by omega, rfl, by rfl⟩
              case round =>
                obtain ⟨j, hj1, hj, rfl, rfl⟩ := hrel
                have HRl := jo_lt hDl (r.take (j - 1)) (fun b hb => hr b (List.mem_of_mem_take hb))
                by_cases hjm : j < n
                · have hjl : j < s.size := by omega
                  have hbl := bs_lt s (s[j]'hjl).toNat (List.mem_of_getElem? (bs_get s j hjl))
                  have HE : Hid (jo D (r.take (j - 1)) * 256 % 18446744073709551616 + (s[j]'hjl).toNat = jo D (r.take j)) := by
                    show _ = _
                    rw [(hrt j hj1 hjl).out, jo_snoc]
                  have HW := hide (jo_step HRl hbl)
                  generalize jo D (r.take (j - 1)) = R at *
                  go_wp2
                  go_round
                  case rel => exact ⟨j + 1, by omega, by omega, by go_num, by rw [show j + 1 - 1 = j by omega, ← HE.out] <;> first | rw [HW.out] | (rw [← HW.out]; go_num) | go_num⟩
                  case measure => simp [intOf]; omega
                · obtain rfl : j = n := by omega
                  have HV := HJ.out
                  by_cases hS : S = j
                  · have HF2 := HF.out
                    rw [if_pos hS] at HF2
                    have HF3 := hide HF2
                    clear HF2 HF
                    subst hS
                    rw [show jo D (r.take (S - 1)) = V from HV]
                    clear HV HJ
                    go_wp2_with fail
                    refine (hsz _).mono ?_
                    rintro e w' ⟨rfl, rfl⟩
                    go_wp2
                    ((try simp only [Exit.inBlock, Exit.then]); refine bodyPost_ret (results_tmp3 rfl _ _ _) rfl ?_)
                    exact ⟨by rw [HF3.out]; rfl, BB.trans (p2.below.mono BB.size)⟩
                  · have HF2 := HF.out
                    rw [if_neg hS] at HF2
                    have HF3 := hide HF2
                    clear HF2 HF
                    have hne2 : ((S : Int) == (j : Int)) = false := by rw [beq_eq_false_iff_ne]; omega
                    rw [show jo D (r.take (j - 1)) = V from HV]
                    clear HV HJ
                    go_wp2_with fail
                    refine (hsz _).mono ?_
                    rintro e w' ⟨rfl, rfl⟩
                    go_wp2
                    ((try simp only [Exit.inBlock, Exit.then]); refine bodyPost_ret (results_tmp3 rfl _ _ _) rfl ?_)
                    exact ⟨by rw [HF3.out]; rfl, BB.trans (p2.below.mono BB.size)⟩
      · obtain rfl : k = lenOf (s[0]'h0).toNat := by omega
        have hbs := Hbs.out
        have BB := hbr
        have hg9 : decide ((lenOf (s[0]'h0).toNat : Int) < 9) = false := decide_eq_false (by omega)
        go_wp2
        refine wp_region_later (by kernel_rfl) (by kernel_rfl) ?_
        (repeat (first | go_big_quiet_skip | (go_big_quiet_want; go_big_quiet_op; go_big_quiet_on)))
        refine wpQuiet_nil ?_
        rintro _ ⟨p, rfl⟩
        replace BB := BB.trans (p.below.mono BB.size)
        clear hne hg9
        by_cases h1 : r.length + 1 < lenOf (s[0]'h0).toNat
        · have HF := hide (few_short (F := 12) h1)
          rw [← hbs] at HF
          clear hbs
          rw [hrl] at h1
          generalize lenOf (s[0]'h0).toNat = n at *
          go_wp2
          ((try simp only [Exit.inBlock, Exit.then]); refine bodyPost_ret (results_tmp3 rfl _ _ _) rfl ?_)
          exact ⟨by rw [HF.out]; rfl, BB⟩
        · have hje := jo_fv hb0 hr h1
          have hhd2 : ∀ w, _ := fun w => same_b (head_any (lenOf (s[0]'h0).toNat) hnp.1 hnp.2 w)
          obtain ⟨hfs, hfl⟩ := fv_size hb0 hr
          have hsz : ∀ w, _ := fun w => rsize_any (fv (s[0]'h0).toNat r) hfl w
          have h9d : lenOf (s[0]'h0).toNat = 9 → (s[0]'h0).toNat - hd (lenOf (s[0]'h0).toNat) = 0 := nine_zero hb0
          have hrt : ∀ j, 1 ≤ j → (hj : j < s.size) → Hid (r.take j = r.take (j - 1) ++ [(s[j]'hj).toNat]) := fun j h1 hj => drop1_take hbs hj h1
          have HF : Hid (few 12 (bs s) = if size (fv (s[0]'h0).toNat r) = lenOf (s[0]'h0).toNat then (fv (s[0]'h0).toNat r, lenOf (s[0]'h0).toNat, 0) else (0, 0, 12)) := by
            show _ = _
            rw [hbs]
            split
            · rename_i h; exact few_ok h1 h
            · rename_i h; exact few_form h1 h
          have HJ := hide hje
          have hnn := later_ne p.val
          clear hbs hje hfs
          rw [hrl] at h1
          generalize fv (s[0]'h0).toNat r = V at *
          generalize size V = S at *
          have hhdl : hd (lenOf (s[0]'h0).toNat) < 256 := by omega
          generalize hd (lenOf (s[0]'h0).toNat) = H at *
          generalize lenOf (s[0]'h0).toNat = n at *
          have hDl : (s[0]'h0).toNat - H < 18446744073709551616 := by omega
          have h1' : ((n : Int) ≤ (s.size : Int)) := by omega
          have hcast : ((s[0]'h0).toNat : Int) - (H : Int) = (((s[0]'h0).toNat - H : Nat) : Int) := by omega
          generalize hDd : (s[0]'h0).toNat - H = D at *
          clear hDd
          go_wp2
          refine wp_region_later (by kernel_rfl) (by kernel_rfl) ?_
          (repeat (first | go_big_quiet_skip | (go_big_quiet_want; go_big_quiet_op; go_big_quiet_on)))
          (go_big_quiet_want; go_big_quiet_op; apply Exists.intro; refine ⟨fun p => ?_, ?_⟩; (· exact later_of (hhd2 _)); go_big_quiet_on)
          (repeat (first | go_big_quiet_skip | (go_big_quiet_want; go_big_quiet_op; go_big_quiet_on)))
          refine wpQuiet_nil ?_
          rintro _ ⟨p2, rfl⟩
          by_cases hn9 : n = 9
          · have hD0 := h9d hn9
            subst hD0
            subst hn9
            go_wp2
            go_loop [6, 7] (fun x i => ∃ j : Nat, 1 ≤ j ∧ j ≤ 9 ∧ i = .int .i64 j ∧ x = .int .u64 (jo 0 (r.take (j - 1)) : Nat)) (fun _ i => 9 - (intOf i).toNat)
            case atStart => exact ⟨1, by omega, by omega, rfl, by rfl⟩
            case round =>
              obtain ⟨j, hj1, hj, rfl, rfl⟩ := hrel
              have HRl := jo_lt hDl (r.take (j - 1)) (fun b hb => hr b (List.mem_of_mem_take hb))
              by_cases hjm : j < 9
              · have hjl : j < s.size := by omega
                have hbl := bs_lt s (s[j]'hjl).toNat (List.mem_of_getElem? (bs_get s j hjl))
                have HE : Hid (jo 0 (r.take (j - 1)) * 256 % 18446744073709551616 + (s[j]'hjl).toNat = jo 0 (r.take j)) := by
                  show _ = _
                  rw [(hrt j hj1 hjl).out, jo_snoc]
                have HW := hide (jo_step HRl hbl)
                generalize jo 0 (r.take (j - 1)) = R at *
                go_wp2
                go_round
                case rel => exact ⟨j + 1, by omega, by omega, by go_num, by rw [show j + 1 - 1 = j by omega, ← HE.out] <;> first | rw [HW.out] | (rw [← HW.out]; go_num) | go_num⟩
                case measure => simp [intOf]; omega
              · obtain rfl : j = 9 := by omega
                have HV := HJ.out
                by_cases hS : S = 9
                · have HF2 := HF.out
                  rw [if_pos hS] at HF2
                  have HF3 := hide HF2
                  clear HF2 HF
                  subst hS
                  rw [show jo 0 (r.take (9 - 1)) = V from HV]
                  clear HV HJ
                  go_wp2_with fail
                  refine (hsz _).mono ?_
                  rintro e w' ⟨rfl, rfl⟩
                  go_wp2
                  ((try simp only [Exit.inBlock, Exit.then]); refine bodyPost_ret (results_tmp3 rfl _ _ _) rfl ?_)
                  exact ⟨by rw [HF3.out]; rfl, BB.trans (p2.below.mono BB.size)⟩
                · have HF2 := HF.out
                  rw [if_neg hS] at HF2
                  have HF3 := hide HF2
                  clear HF2 HF
                  have hne2 : ((S : Int) == (9 : Int)) = false := by rw [beq_eq_false_iff_ne]; omega
                  rw [show jo 0 (r.take (9 - 1)) = V from HV]
                  clear HV HJ
                  go_wp2_with fail
                  refine (hsz _).mono ?_
                  rintro e w' ⟨rfl, rfl⟩
                  go_wp2
                  ((try simp only [Exit.inBlock, Exit.then]); refine bodyPost_ret (results_tmp3 rfl _ _ _) rfl ?_)
                  exact ⟨by rw [HF3.out]; rfl, BB.trans (p2.below.mono BB.size)⟩
          · clear h9d
            exfalso; omega
  · obtain rfl := empty_of (show s.size = 0 by omega)
    go_enter Tryd.func85, Tryd.ntmps85
    go_wp2
    ((try simp only [Exit.inBlock, Exit.then]); refine bodyPost_ret (results_tmp3 rfl _ _ _) rfl ?_)
    exact ⟨rfl, Below.refl _ _⟩

end Cr
end Go.Proofs.YtnpbgjafahhadaaDoor

namespace Go.Proofs.YtnpbgjafahhadaaDoor
open Go.RowKit
namespace Cr

theorem step_call {P : Program} {ops : Array Oper} {o : Oper} {a : Act} {w : World} {K : Act → World → Prop} {Q : Exit → Act → World → Prop} {E : Prop} (hg : o.guard = none) (f : FuncId) (args : Array Value) (r : Value)
    (hrun : (execOp a.eval o).run P w = .ok (.enter f args) w) (hc : Calls P f args w fun e w' => e = .returned r ∧ w' = w) (hK : K (a.put o.dst r) w) : if Region.wanted o (yielded ops a.tmps) = true then Oper.wp P o a w K Q else E := by
  have hw : Region.wanted o (yielded ops a.tmps) = true := by simp [Region.wanted, hg]
  rw [if_pos hw]
  unfold Oper.wp
  rw [hrun]
  refine hc.mono ?_
  rintro e w' ⟨rfl, rfl⟩
  exact hK
/-- A slice's memory holds these numbers. -/
structure Us (w : World) (a : Option Addr) (n : Nat) (xs : List Nat) : Prop where
  len : n = xs.length
  most : n ≤ 9223372036854775807
  fit : ∀ x ∈ xs, x < 18446744073709551616
  cells : ∀ i x, xs[i]? = some x → ∃ b off, a = some ⟨b, off, none⟩ ∧ b < w.heap.size ∧ w.cell? ⟨b, off + i, none⟩ = some (.int .u64 (x : Nat))
/-- A slice lies apart from a writer. -/
def Off (a : Option Addr) (b : Nat) (v : Value) : Prop := ∀ ad, a = some ad → ¬ xOut b v ad.block
theorem Us.keep {w w' : World} {a : Option Addr} {n b : Nat} {v : Value} {xs : List Nat} (h : Us w a n xs) (k : Keep (xOut b v) w w') (ho : Off a b v) : Us w' a n xs :=
  ⟨h.len, h.most, h.fit, fun i x hi => by
    obtain ⟨g, off, ha, hg, c0⟩ := h.cells i x hi
    exact ⟨g, off, ha, Nat.lt_of_lt_of_le hg k.size, (World.cell?_of_block (w := w) (k.block g hg (ho _ ha))).trans c0⟩⟩
theorem Us.later {w w' : World} {a : Option Addr} {n : Nat} {xs : List Nat} (h : Us w a n xs) (hb : Below w.heap.size w w') : Us w' a n xs :=
  ⟨h.len, h.most, h.fit, fun i x hi => by
    obtain ⟨g, off, ha, hg, c0⟩ := h.cells i x hi
    exact ⟨g, off, ha, Nat.lt_of_lt_of_le hg hb.size, (hb.cell hg).trans c0⟩⟩
theorem Ss.keep {w w' : World} {a : Option Addr} {n b : Nat} {v : Value} {xs : List ByteArray} (h : Ss w a n xs) (k : Keep (xOut b v) w w') (ho : Off a b v) : Ss w' a n xs :=
  ⟨h.len, h.most, h.fit, fun i x hi => by
    obtain ⟨g, off, ha, hg, c0⟩ := h.cells i x hi
    exact ⟨g, off, ha, Nat.lt_of_lt_of_le hg k.size, (World.cell?_of_block (w := w) (k.block g hg (ho _ ha))).trans c0⟩⟩
theorem Us.one (w : World) (x : Nat) (h : x < 18446744073709551616) (t : TypeId) : Us (w.alloc (.cells #[.int .u64 (x : Nat)] t)) (some ⟨w.heap.size, 0, none⟩) 1 [x] :=
  ⟨rfl, by omega, by simpa using h, fun i y hi => by
    cases i with
    | zero => simp at hi; subst hi; exact ⟨_, _, rfl, by simp, by simp⟩
    | succ i => simp at hi⟩
/-- A slice in new memory lies apart from a writer that was there. -/
theorem off_new {w : World} {b : Nat} {v : Value} {l : List Nat} (h : OutAt w b v l) : Off (some ⟨w.heap.size, 0, none⟩) b v := by
  intro ad e x
  simp only [Option.some.injEq] at e
  subst e
  rcases x with x | x
  · have := h.lt; simp at x; omega
  · have := h.own.lt _ x; simp at this
/-- Numbers, each in few bytes. -/
def vrs (xs : List Nat) : List Nat := xs.flatMap vr
theorem vrs_snoc {xs : List Nat} {k x : Nat} (h : xs[k]? = some x) : vrs (xs.take (k + 1)) = vrs (xs.take k) ++ vr x := by
  rw [snoc_take _ _ _ h, vrs, List.flatMap_append]
  simp [vrs]
theorem vr_len9 (x : Nat) : (vr x).length ≤ 9 := by rw [vr_length]; exact (size_pos x).2
theorem vrs_length : ∀ xs : List Nat, (vrs xs).length ≤ 9 * xs.length
  | [] => by simp [vrs]
  | x :: r => by
    have h1 := vrs_length r
    have h2 := vr_len9 x
    simp only [vrs, List.flatMap_cons, List.length_append, List.length_cons] at h1 ⊢
    omega
theorem first_or {x m : Nat} (hx : x < 18446744073709551616) (h : size x = m + 1) : bits .or .u8 ((hd (m + 1) : Nat) : Int) (IntKind.u8.wrap ((x : Int) / 2 ^ (8 * (m : Int)).toNat)) = ((hd (m + 1) + x / 256 ^ m : Nat) : Int) := by
  have hp := size_pos x
  have hs : x / 256 ^ m < 2 ^ (9 - (m + 1)) := by
    rcases size_cases x hx with ⟨h', h1⟩ | ⟨h', h0, h1⟩ | ⟨h', h0, h1⟩ | ⟨h', h0, h1⟩ | ⟨h', h0, h1⟩ | ⟨h', h0, h1⟩ | ⟨h', h0, h1⟩ | ⟨h', h0, h1⟩ | ⟨h', h0, h1⟩ <;> rw [h] at h' <;> (obtain rfl : m = _ := Nat.succ.inj h') <;> simp only [Nat.reduceSub, Nat.reducePow, Nat.reduceAdd] <;> omega
  have hs2 : 2 ^ (9 - (m + 1)) ≤ 2 ^ 8 := Nat.pow_le_pow_right (by omega) (by omega)
  rw [low_byte2, Nat.mod_eq_of_lt (Nat.lt_of_lt_of_le hs hs2)]
  exact or_hd (by omega) (by omega) hs
set_option maxRecDepth 100000 in
set_option maxHeartbeats 4000000 in
theorem var_any (b : Nat) (v : Value) (l : List Nat) (a : Option Addr) (n cap : Nat) (xs : List Nat) (w : World) (hU : Us w a n xs) (h : OutAt w b v l) (ho : Off a b v) (hl : l.length + 9 * n ≤ 900000000) :
    Calls Tryd.prog 41 #[.pointer (some ⟨b, 0, none⟩), .slice a n cap] w fun e w' => e = .returned (.tuple #[]) ∧ ∃ v', Wrote w b v (l ++ vrs xs) w' v' := by
  obtain ⟨i0, hi, hz0, hz1, hz2⟩ := info_parts info5
  have hn := hU.most
  go_enter Tryd.func41, Tryd.ntmps41
  go_wp2
  go_loopw [11] (fun i wr => ∃ k : Nat, k ≤ n ∧ i = .int .i64 k ∧ ∃ v', Wrote w b v (l ++ vrs (xs.take k)) wr v') (fun i _ => n - (intOf i).toNat)
  case atStart => exact ⟨0, Nat.zero_le _, rfl, v, by rw [List.take_zero, show vrs [] = [] from rfl, List.append_nil]; exact Wrote.refl h⟩
  case round =>
    obtain ⟨k, hk, rfl, v', hwr⟩ := hrel
    have hlen := hU.len
    by_cases hlt : k < n
    · obtain ⟨x, hx⟩ : ∃ x, xs[k]? = some x := ⟨_, List.getElem?_eq_getElem (by omega)⟩
      obtain ⟨g, off, rfl, hbl, c0⟩ := (hU.keep hwr.keep ho).cells k x hx
      have hxl := hU.fit x (List.mem_of_getElem? hx)
      have hp := size_pos x
      obtain ⟨m, hm⟩ : ∃ m, size x = m + 1 := ⟨size x - 1, by omega⟩
      have hsz : ∀ w, _ := fun w => size_any x hxl w
      rw [hm, show ((m + 1 : Nat) : Int) = (m : Int) + 1 by omega] at hsz
      have hmark : ∀ w, _ := fun w => mark_any (m + 1) (by omega) (by omega) w
      rw [show ((m + 1 : Nat) : Int) = (m : Int) + 1 by omega] at hmark
      have eo := first_or hxl hm
      have HT : Hid (l ++ vrs (xs.take k) ++ [hd (m + 1) + x / 256 ^ m] ++ be x m = l ++ vrs (xs.take (k + 1))) := by
        show _ = _
        rw [vrs_snoc hx, vr, hm]
        simp
      have hll : (l ++ vrs (xs.take k)).length ≤ 900000000 := by
        have h1 := vrs_length (xs.take k)
        have h2 : (xs.take k).length ≤ k := by rw [List.length_take]; omega
        rw [List.length_append]
        omega
      have cB := cell_of_one hwr.out.blk
      have fB := free_of_one hwr.out.blk
      have lB := hwr.out.lt
      have nB := hwr.out.ne
      have hm8 : m ≤ 8 := by omega
      have e8 : IntKind.i64.wrap (8 * (m : Int)) = 8 * (m : Int) := wrap8 (by omega)
      have e9 : 0 ≤ 8 * (m : Int) := by omega
      have em : IntKind.i64.wrap ((m : Int) + 1) = (m : Int) + 1 := by simp [IntKind.wrap, IntKind.bits, IntKind.signed]; omega
      clear hx hlen hm hp
      generalize l ++ vrs (xs.take k) = L at *
      generalize hd (m + 1) + x / 256 ^ m = Y at *
      generalize hd (m + 1) = H at *
      go_wp2_with fail
      refine (hsz _).mono ?_
      rintro e w' ⟨rfl, rfl⟩
      go_wp2
      go_region_law (first | (refine step_append_moved rfl (.tmp 22) (.tmp 32) 52 rfl 5 i0 _ 1 1 Tryd.underlying52 hi hz0 hz1 hz2 rfl (by decide) _ _ _ (by simp [Act.eval, Act.put]) (hwr.out.own.later (below_alloc _ _).drew) ⟨w'.heap.size, 0, none⟩ 1 1 [.int .u8 (Y : Nat)] (by simp [Act.eval, Act.put]) rfl (cell_one_drew _ _ _) (one_oneCell _ _) (by unfold maxLen; omega) (by omega) ?_; intro v2 w2 g1 g2 g3; obtain ⟨a2, n2, c2, rfl⟩ := own_form g1; have cB2 := cell_grown cB lB nB g2; have fB2 := free_grown fB lB nB g2; replace g1 := hide (OwnB.push g1 rfl); replace g2 := hide g2; replace g3 := hide g3) | (refine step_call rfl 69 #[.int .i64 ((m : Int) + 1)] (.int .u8 (H : Nat)) (by simp [go_sem]) (hmark _) ?_))
      all_goals
        have HW := hide (hwr.trans (wrote_append hwr.out (below_alloc _ _).drew g1.out g2.out g3.out))
        clear g1 g2 g3
        go_wp2_with fail
        refine (low_any b _ (L ++ [Y]) x m hxl hm8 _ HW.out.out (by simp; omega)).mono ?_
        rintro e w3 ⟨rfl, v3, hw3⟩
        have HW3 := hide (HW.out.trans hw3)
        clear hw3
        go_wp2
        go_roundw
        case rel => exact ⟨k + 1, by omega, by go_num, v3, by rw [← HT.out]; exact HW3.out⟩
        case measure => simp [intOf]; omega
    · rw [List.take_of_length_le (by omega)] at hwr
      clear hlen
      go_wp2
      go_end0
      exact ⟨rfl, v', hwr⟩
theorem run_append_str {w : World} (ty : TypeId) (v : Value) (L : List Nat) (hown : OwnB w v L) (s : ByteArray) (hl : L.length + s.size ≤ 140737488355328) :
    ∃ v' w', (Builtin.append_ #[52, 9] ty #[v, .string s]).run Tryd.prog w = .ok v' w' ∧ OwnB w' v' (L ++ bs s) ∧ w.grownBy w' v.ownBlock ∧ Moved w v v' := by
  obtain ⟨i0, hi, hz0, hz1, hz2⟩ := info_parts info5
  have hsc : Lib.strCells s = encB (bs s) := by simp [Lib.strCells, encB, bs]
  have h63 : L.length + s.size ≤ maxLen := by unfold maxLen; omega
  have main : ∀ B, B ≤ w.heap.size → w.ownsRow B 5 1 v L.length (encB L) → ∃ v' w', (Builtin.append_ #[52, 9] ty #[v, .string s]).run Tryd.prog w = .ok v' w' ∧ w'.ownsRow B 5 1 v' (L ++ bs s).length (encB (L ++ bs s)) ∧ w.grownBy w' v.ownBlock := fun B hB hB2 => by
    obtain ⟨v', w', hr, ho, hg, _⟩ := Lib.run_append_own_string (P := Tryd.prog) w B 52 9 ty 5 i0 Tryd.underlying52 Tryd.underlying9 hi hz0 hz1 hz2 v L.length (encB L) hB2 s h63 hl hB
    refine ⟨v', w', hr, ?_, hg⟩
    rw [encB_append, List.length_append, bs_length, ← hsc]
    exact ho
  obtain ⟨v', w', hr, ho, hg⟩ := main 0 (Nat.zero_le _) hown
  refine ⟨v', w', hr, ho, hg, ?_⟩
  rcases hown.2 with ⟨hv, hn0⟩ | ⟨g, cap, cur, hv, hbg, hgg, hnc, hcm, hcs, htake⟩
  · obtain ⟨v2, w2, hr2, ho2, _⟩ := main w.heap.size (Nat.le_refl _) ⟨hown.1, .inl ⟨hv, hn0⟩⟩
    rw [hr] at hr2
    cases hr2
    exact .inr fun k hk => (ho2.lt k hk).1
  · by_cases hroom : L.length + s.size ≤ cap
    · have hr2 := Lib.run_append_room_string (P := Tryd.prog) w 52 9 ty 5 i0 Tryd.underlying52 Tryd.underlying9 hi hz1 g L.length cap cur hgg s hroom (by omega)
      rw [hv] at hr ⊢
      rw [hr2] at hr
      cases hr
      exact .inl rfl
    · subst hv
      have holds : ∀ j u, (encB L)[j]? = some u → w.cell? ((⟨g, 0, none⟩ : Addr).add j) = some u := (show w.ownsRow 0 5 1 _ L.length (encB L) from hown).cells (g := g) rfl
      have hr2 := Lib.run_append_grow_string (P := Tryd.prog) w 52 9 ty 5 i0 (.int .u8 0) Tryd.underlying52 Tryd.underlying9 hi hz0 ⟨g, 0, none⟩ L.length cap (encB L) (by rw [hz1, encB_length]; omega) holds s (by omega) (by omega) (by rw [hz2]; exact growslice_fits (by omega) (by omega))
      rw [hr2] at hr
      cases hr
      exact .inr fun k hk => by simp [Value.ownBlock] at hk; omega
theorem wpList_append_str {w : World} {ops : Array Oper} {rest : List Oper} {o : Oper} {a : Act} {Q : Exit → Act → World → Prop} (hgd : o.guard = none) (sl x : Operand)
    (ho : o.op = .call { callee := .builtin .append, args := #[sl, x], argTypes := #[52, 9] }) (v : Value) (L : List Nat) (hs : a.eval sl = v) (hown : OwnB w v L) (s : ByteArray) (hx : a.eval x = .string s)
    (hl : L.length + s.size ≤ 140737488355328)
    (h : ∀ v' w', OwnB w' v' (L ++ bs s) → w.grownBy w' v.ownBlock → Moved w v v' → wpList Tryd.prog ops Q rest (a.put o.dst v') w') : wpList Tryd.prog ops Q (o :: rest) a w := by
  refine wpList_plain hgd fun K hK => ?_
  obtain ⟨v', w', hr, h2, h3, h4⟩ := run_append_str (w := w) o.type v L hown s hl
  unfold Oper.wp execOp
  simp only [ho, resolve, invoke, builtin, Sem.run_bind, Sem.run_pure, Result.andThen_ok, List.map_toArray, List.map_cons, List.map_nil, hs, hx, hr]
  exact hK _ _ (h v' w' h2 h3 h4)
theorem cell_grown0 {w w2 : World} {b : Nat} {v u : Value} (h : w.cell? ⟨b, 0, none⟩ = some u) (hb : b < w.heap.size) (hne : v.ownBlock ≠ some b) (hg : w.grownBy w2 v.ownBlock) : w2.cell? ⟨b, 0, none⟩ = some u := by
  rw [← h, World.cell?_of_block (w := w) (hg.block b hb fun e => hne e.symm)]
theorem free_grown0 {w w2 : World} {b : Nat} {v : Value} (h : w.frozen? ⟨b, 0, none⟩ = false) (hb : b < w.heap.size) (hne : v.ownBlock ≠ some b) (hg : w.grownBy w2 v.ownBlock) : w2.frozen? ⟨b, 0, none⟩ = false := by
  rw [← h, World.frozen?_of_block (w := w) (hg.block b hb fun e => hne e.symm)]
theorem jn_take_le {xs : List ByteArray} (k : Nat) : (jn (xs.take k)).length ≤ (jn xs).length := by
  have h : jn xs = jn (xs.take k) ++ jn (xs.drop k) := by rw [← jn_append, List.take_append_drop]
  rw [h, List.length_append]
  omega
set_option maxHeartbeats 2000000 in
theorem raw_any (b : Nat) (v : Value) (l : List Nat) (a : Option Addr) (n cap : Nat) (xs : List ByteArray) (w : World) (hS : Ss w a n xs) (h : OutAt w b v l) (ho : Off a b v) (hl : l.length + (jn xs).length ≤ 900000000) :
    Calls Tryd.prog 43 #[.pointer (some ⟨b, 0, none⟩), .slice a n cap] w fun e w' => e = .returned (.tuple #[]) ∧ ∃ v', Wrote w b v (l ++ jn xs) w' v' := by
  have hn := hS.most
  go_enter Tryd.func43, Tryd.ntmps43
  go_wp2
  go_loopw [10] (fun i wr => ∃ k : Nat, k ≤ n ∧ i = .int .i64 k ∧ ∃ v', Wrote w b v (l ++ jn (xs.take k)) wr v') (fun i _ => n - (intOf i).toNat)
  case atStart => exact ⟨0, Nat.zero_le _, rfl, v, by rw [List.take_zero, show jn [] = [] from rfl, List.append_nil]; exact Wrote.refl h⟩
  case round =>
    obtain ⟨k, hk, rfl, v', hwr⟩ := hrel
    have hlen := hS.len
    by_cases hlt : k < n
    · obtain ⟨s, hs⟩ : ∃ s, xs[k]? = some s := ⟨_, List.getElem?_eq_getElem (by omega)⟩
      obtain ⟨g, off, rfl, hbl, c0⟩ := (hS.keep hwr.keep ho).cells k s hs
      have HT : Hid (l ++ jn (xs.take k) ++ bs s = l ++ jn (xs.take (k + 1))) := by
        show _ = _
        rw [jn_take_succ hs, List.append_assoc]
      have hll : (l ++ jn (xs.take k)).length + s.size ≤ 900000000 := by
        have h1 := jn_take_le (xs := xs) (k + 1)
        rw [jn_take_succ hs, List.length_append, bs_length] at h1
        rw [List.length_append]
        omega
      have cB := cell_of_one hwr.out.blk
      have fB := free_of_one hwr.out.blk
      have lB := hwr.out.lt
      have nB := hwr.out.ne
      clear hs hlen
      generalize l ++ jn (xs.take k) = L at *
      go_wp2_with (at_builtin; refine wpList_append_str rfl (.tmp 18) (.tmp 19) rfl _ L rfl hwr.out.own s rfl (by omega) ?_; intro v2 w2 g1 g2 g3; obtain ⟨a2, n2, c2, rfl⟩ := own_form g1; have cB2 := cell_grown0 cB lB nB g2; have fB2 := free_grown0 fB lB nB g2; replace g1 := hide g1; replace g2 := hide g2; replace g3 := hide g3)
      have HW := hide (hwr.trans (wrote_append hwr.out (Below.refl _ _) g1.out g2.out g3.out))
      clear g1 g2 g3
      go_roundw
      case rel => exact ⟨k + 1, by omega, by go_num, _, by rw [← HT.out]; exact HW.out⟩
      case measure => simp [intOf]; omega
    · rw [List.take_of_length_le (by omega)] at hwr
      clear hlen
      go_wp2
      go_end0
      exact ⟨rfl, v', hwr⟩

end Cr
end Go.Proofs.YtnpbgjafahhadaaDoor

namespace Go.Proofs.YtnpbgjafahhadaaDoor
open Go.RowKit
namespace Cr

/-- A text: how many bytes it has, and these. -/
def tx (s : ByteArray) : List Nat := vr s.size ++ bs s
def txs (xs : List ByteArray) : List Nat := xs.flatMap tx
theorem txs_snoc {xs : List ByteArray} {k : Nat} {s : ByteArray} (h : xs[k]? = some s) : txs (xs.take (k + 1)) = txs (xs.take k) ++ tx s := by
  rw [snoc_take _ _ _ h, txs, List.flatMap_append]
  simp [txs]
theorem txs_length : ∀ xs : List ByteArray, (txs xs).length ≤ 9 * xs.length + (jn xs).length
  | [] => by simp [txs]
  | x :: r => by
    have h1 := txs_length r
    have h2 := vr_len9 x.size
    simp only [txs, tx, jn, List.flatMap_cons, List.length_append, List.length_cons, bs_length] at h1 ⊢
    omega
theorem vrs_one (x : Nat) : vrs [x] = vr x := by simp [vrs]
theorem jn_one (s : ByteArray) : jn [s] = bs s := by simp [jn]
/-- A writer writes one number, or one text, handed over in new memory. -/
theorem var_one (b : Nat) (v : Value) (l : List Nat) (x : Nat) (hx : x < 18446744073709551616) (w : World) (h : OutAt w b v l) (hl : l.length ≤ 800000000) :
    Calls Tryd.prog 41 #[.pointer (some ⟨b, 0, none⟩), .slice (some ⟨w.heap.size, 0, none⟩) 1 1] (w.alloc (.cells #[.int .u64 (x : Nat)] 69)) fun e w' => e = .returned (.tuple #[]) ∧ ∃ v', Wrote w b v (l ++ vr x) w' v' := by
  have hc := var_any b v l (some ⟨w.heap.size, 0, none⟩) 1 1 [x] (w.alloc (.cells #[.int .u64 (x : Nat)] 69)) (Us.one w x hx 69) (h.later (below_alloc _ _)) (off_new h) (by omega)
  rw [vrs_one] at hc
  exact hc.mono fun e w' ⟨h1, v', h2⟩ => ⟨h1, v', h2.first (below_alloc _ _)⟩
theorem raw_one (b : Nat) (v : Value) (l : List Nat) (s : ByteArray) (hs : s.size ≤ 9223372036854775807) (w : World) (h : OutAt w b v l) (hl : l.length + s.size ≤ 800000000) :
    Calls Tryd.prog 43 #[.pointer (some ⟨b, 0, none⟩), .slice (some ⟨w.heap.size, 0, none⟩) 1 1] (w.alloc (.cells #[.string s] 9)) fun e w' => e = .returned (.tuple #[]) ∧ ∃ v', Wrote w b v (l ++ bs s) w' v' := by
  have hc := raw_any b v l (some ⟨w.heap.size, 0, none⟩) 1 1 [s] (w.alloc (.cells #[.string s] 9)) (Ss.one w s hs 9) (h.later (below_alloc _ _)) (off_new h) (by rw [jn_one, bs_length]; omega)
  rw [jn_one] at hc
  exact hc.mono fun e w' ⟨h1, v', h2⟩ => ⟨h1, v', h2.first (below_alloc _ _)⟩
set_option maxHeartbeats 2000000 in
theorem text_any (b : Nat) (v : Value) (l : List Nat) (a : Option Addr) (n cap : Nat) (xs : List ByteArray) (w : World) (hS : Ss w a n xs) (h : OutAt w b v l) (ho : Off a b v) (hl : l.length + 9 * n + (jn xs).length ≤ 800000000) :
    Calls Tryd.prog 81 #[.pointer (some ⟨b, 0, none⟩), .slice a n cap] w fun e w' => e = .returned (.tuple #[]) ∧ ∃ v', Wrote w b v (l ++ txs xs) w' v' := by
  have hn := hS.most
  go_enter Tryd.func81, Tryd.ntmps81
  go_wp2
  go_loopw [8] (fun i wr => ∃ k : Nat, k ≤ n ∧ i = .int .i64 k ∧ ∃ v', Wrote w b v (l ++ txs (xs.take k)) wr v') (fun i _ => n - (intOf i).toNat)
  case atStart => exact ⟨0, Nat.zero_le _, rfl, v, by rw [List.take_zero, show txs [] = [] from rfl, List.append_nil]; exact Wrote.refl h⟩
  case round =>
    obtain ⟨k, hk, rfl, v', hwr⟩ := hrel
    have hlen := hS.len
    by_cases hlt : k < n
    · obtain ⟨s, hs⟩ : ∃ s, xs[k]? = some s := ⟨_, List.getElem?_eq_getElem (by omega)⟩
      obtain ⟨g, off, rfl, hbl, c0⟩ := (hS.keep hwr.keep ho).cells k s hs
      have hsz := hS.fit s (List.mem_of_getElem? hs)
      have HT : Hid (l ++ txs (xs.take k) ++ vr s.size ++ bs s = l ++ txs (xs.take (k + 1))) := by
        show _ = _
        rw [txs_snoc hs, tx]
        simp
      have hll : (l ++ txs (xs.take k)).length + s.size + 9 ≤ 800000000 := by
        have h1 := jn_take_le (xs := xs) (k + 1)
        have h2 := txs_length (xs.take k)
        have h3 : (xs.take k).length ≤ k := by rw [List.length_take]; omega
        rw [jn_take_succ hs, List.length_append, bs_length] at h1
        rw [List.length_append]
        omega
      have h9 := vr_len9 s.size
      clear hs hlen
      generalize l ++ txs (xs.take k) = L at *
      go_wp2_with fail
      refine (var_one b v' L s.size (by omega) _ hwr.out (by omega)).mono ?_
      rintro e w2 ⟨rfl, v2, hw2⟩
      have HW2 := hide (hwr.trans hw2)
      clear hw2
      go_wp2_with fail
      refine (raw_one b v2 (L ++ vr s.size) s hsz _ HW2.out.out (by rw [List.length_append]; omega)).mono ?_
      rintro e w3 ⟨rfl, v3, hw3⟩
      have HW3 := hide (HW2.out.trans hw3)
      clear hw3
      go_wp2
      go_roundw
      case rel => exact ⟨k + 1, by omega, by go_num, v3, by rw [← HT.out]; exact HW3.out⟩
      case measure => simp [intOf]; omega
    · rw [List.take_of_length_le (by omega)] at hwr
      clear hlen
      go_wp2
      go_end0
      exact ⟨rfl, v', hwr⟩
theorem text_one (b : Nat) (v : Value) (l : List Nat) (s : ByteArray) (hs : s.size ≤ 9223372036854775807) (w : World) (h : OutAt w b v l) (hl : l.length + s.size ≤ 700000000) :
    Calls Tryd.prog 81 #[.pointer (some ⟨b, 0, none⟩), .slice (some ⟨w.heap.size, 0, none⟩) 1 1] (w.alloc (.cells #[.string s] 9)) fun e w' => e = .returned (.tuple #[]) ∧ ∃ v', Wrote w b v (l ++ tx s) w' v' := by
  have hc := text_any b v l (some ⟨w.heap.size, 0, none⟩) 1 1 [s] (w.alloc (.cells #[.string s] 9)) (Ss.one w s hs 9) (h.later (below_alloc _ _)) (off_new h) (by rw [jn_one, bs_length]; omega)
  rw [show txs [s] = tx s by simp [txs]] at hc
  exact hc.mono fun e w' ⟨h1, v', h2⟩ => ⟨h1, v', h2.first (below_alloc _ _)⟩
/-- What a number of so many bytes is written as, and what is wrong. -/
def fixW (x : Nat) (n : Int) : List Nat := if 1 ≤ n ∧ n ≤ 8 then be x n.toNat else []
def fixE (n : Int) : Int := if 1 ≤ n ∧ n ≤ 8 then 0 else 1
set_option maxHeartbeats 2000000 in
theorem fixed_any (b : Nat) (v : Value) (l : List Nat) (x : Nat) (n : Int) (hx : x < 18446744073709551616) (hn : -9223372036854775808 ≤ n ∧ n ≤ 9223372036854775807) (w : World) (h : OutAt w b v l) (hl : l.length ≤ 800000000) :
    Calls Tryd.prog 44 #[.pointer (some ⟨b, 0, none⟩), .int .u64 (x : Nat), .int .i64 n] w fun e w' => e = .returned (.int .i64 (fixE n)) ∧ ∃ v', Wrote w b v (l ++ fixW x n) w' v' := by
  have hm := mayFix_any n hn w
  by_cases hd : 1 ≤ n ∧ n ≤ 8
  · have HE : Hid (fixE n = 0) := by show _ = _; rw [fixE, if_pos hd]
    have HW : Hid (fixW x n = be x n.toNat) := by show _ = _; rw [fixW, if_pos hd]
    rw [decide_eq_true hd] at hm
    obtain ⟨m, rfl⟩ := Int.eq_ofNat_of_zero_le (show 0 ≤ n by omega)
    have hw := low_any b v l x m hx (by omega) w h (by omega)
    go_enter Tryd.func44, Tryd.ntmps44
    go_wp2_with fail
    refine hm.mono ?_
    rintro e w' ⟨rfl, rfl⟩
    go_wp2_with fail
    refine hw.mono ?_
    rintro e w2 ⟨rfl, v2, hw2⟩
    go_wp2
    go_ret
    exact ⟨ret_int HE.out.symm, v2, by rw [HW.out]; exact hw2⟩
  · have HE : Hid (fixE n = 1) := by show _ = _; rw [fixE, if_neg hd]
    have HW : Hid (fixW x n = []) := by show _ = _; rw [fixW, if_neg hd]
    rw [decide_eq_false hd] at hm
    go_enter Tryd.func44, Tryd.ntmps44
    go_wp2_with fail
    refine hm.mono ?_
    rintro e w' ⟨rfl, rfl⟩
    go_wp2
    go_ret
    exact ⟨ret_int HE.out.symm, v, by rw [HW.out, List.append_nil]; exact Wrote.refl h⟩
theorem string_any (b : Nat) (v : Value) (l : List Nat) (w : World) (h : OutAt w b v l) :
    Calls Tryd.prog 42 #[.pointer (some ⟨b, 0, none⟩)] w fun e w' => e = .returned (.string (str l)) ∧ w' = w := by
  have cB := cell_of_one h.blk
  have hcv := h.own.conv
  go_enter Tryd.func42, Tryd.ntmps42
  go_wp2
  go_ret
  exact ⟨rfl, rfl⟩
theorem string_nil (w : World) : Calls Tryd.prog 42 #[.pointer none] w fun e w' => e = .returned (.string ⟨#[]⟩) ∧ w' = w := by
  go_enter Tryd.func42, Tryd.ntmps42
  go_wp2
  go_ret
  exact ⟨rfl, rfl⟩
theorem fixed_nil (x : Nat) (n : Int) (w : World) : Calls Tryd.prog 44 #[.pointer none, .int .u64 (x : Nat), .int .i64 n] w fun e w' => e = .returned (.int .i64 2) ∧ w' = w := by
  go_enter Tryd.func44, Tryd.ntmps44
  go_wp2
  go_ret
  exact ⟨rfl, rfl⟩
theorem var_nil (s : Value) (w : World) : Calls Tryd.prog 41 #[.pointer none, s] w fun e w' => e = .returned (.tuple #[]) ∧ w' = w := by
  go_enter Tryd.func41, Tryd.ntmps41
  go_wp2
  refine bodyPost_ret (results_none rfl _ _ _) rfl ?_
  exact ⟨rfl, rfl⟩
theorem raw_nil (s : Value) (w : World) : Calls Tryd.prog 43 #[.pointer none, s] w fun e w' => e = .returned (.tuple #[]) ∧ w' = w := by
  go_enter Tryd.func43, Tryd.ntmps43
  go_wp2
  refine bodyPost_ret (results_none rfl _ _ _) rfl ?_
  exact ⟨rfl, rfl⟩
set_option maxHeartbeats 2000000 in
theorem text_nil (a : Option Addr) (n cap : Nat) (xs : List ByteArray) (w : World) (hS : Ss w a n xs) : Calls Tryd.prog 81 #[.pointer none, .slice a n cap] w fun e w' => e = .returned (.tuple #[]) ∧ Below w.heap.size w w' := by
  have hn := hS.most
  go_enter Tryd.func81, Tryd.ntmps81
  go_wp2
  go_loopw [8] (fun i wr => ∃ k : Nat, k ≤ n ∧ i = .int .i64 k ∧ Below w.heap.size w wr) (fun i _ => n - (intOf i).toNat)
  case atStart => exact ⟨0, Nat.zero_le _, rfl, Below.refl _ _⟩
  case round =>
    obtain ⟨k, hk, rfl, hbr⟩ := hrel
    have hlen := hS.len
    by_cases hlt : k < n
    · obtain ⟨s, hs⟩ : ∃ s, xs[k]? = some s := ⟨_, List.getElem?_eq_getElem (by omega)⟩
      obtain ⟨g, off, rfl, hbl, c0⟩ := (hS.later hbr).cells k s hs
      have hsz := hS.fit s (List.mem_of_getElem? hs)
      clear hs hlen
      go_wp2_with fail
      refine (var_nil _ _).mono ?_
      rintro e w2 ⟨rfl, hw2⟩
      subst hw2
      go_wp2_with fail
      refine (raw_nil _ _).mono ?_
      rintro e w2 ⟨rfl, hw2⟩
      subst hw2
      go_wp2
      go_roundw
      case rel => exact ⟨k + 1, by omega, by go_num, (hbr.trans ((below_alloc _ _).mono hbr.size)).alloc (by have := hbr.size; simp; omega) _⟩
      case measure => simp [intOf]; omega
    · go_wp2
      go_end0
      exact ⟨rfl, hbr⟩

end Cr
end Go.Proofs.YtnpbgjafahhadaaDoor

namespace Go.Proofs.YtnpbgjafahhadaaDoor
open Go.RowKit
namespace Cr

/-- A reader lies in block b: these bytes, where it stands, what is wrong. -/
structure InAt (w : World) (b : Nat) (s : ByteArray) (at_ : Nat) (e : Int) : Prop where
  blk : w.heap[b]? = some (.cells #[.int .i64 e, .string s, .int .i64 (at_ : Nat)] 127 (0, 0))
section
variable {w w' : World} {b at_ : Nat} {s : ByteArray} {e : Int}
theorem InAt.lt (h : InAt w b s at_ e) : b < w.heap.size := lt_of_block h.blk
theorem InAt.c0 (h : InAt w b s at_ e) : w.cell? ⟨b, 0, none⟩ = some (.int .i64 e) := by simp [World.cell?, h.blk]
theorem InAt.c1 (h : InAt w b s at_ e) : w.cell? ⟨b, 1, none⟩ = some (.string s) := by simp [World.cell?, h.blk]
theorem InAt.c2 (h : InAt w b s at_ e) : w.cell? ⟨b, 2, none⟩ = some (.int .i64 (at_ : Nat)) := by simp [World.cell?, h.blk]
theorem InAt.f0 (h : InAt w b s at_ e) : w.frozen? ⟨b, 0, none⟩ = false := frozen_of_row _ _ _ _ _ h.blk
theorem InAt.f2 (h : InAt w b s at_ e) : w.frozen? ⟨b, 2, none⟩ = false := frozen_of_row _ _ _ _ _ h.blk
theorem InAt.later (h : InAt w b s at_ e) (hb : Below w.heap.size w w') : InAt w' b s at_ e := ⟨(hb.block b h.lt).trans h.blk⟩
theorem InAt.setE (h : InAt w b s at_ e) (e' : Int) : InAt (w.setCell ⟨b, 0, none⟩ (.int .i64 e')) b s at_ e' := ⟨by rw [heap_setCell_same w b 0 _ 127 _ h.blk]; rfl⟩
theorem InAt.setA (h : InAt w b s at_ e) (a' : Nat) : InAt (w.setCell ⟨b, 2, none⟩ (.int .i64 (a' : Nat))) b s a' e := ⟨by rw [heap_setCell_same w b 2 _ 127 _ h.blk]; rfl⟩
end
/-- What a reader's call leaves. -/
structure Did (w : World) (b : Nat) (s : ByteArray) (at_ : Nat) (e : Int) (w' : World) : Prop where
  inn : InAt w' b s at_ e
  keep : Keep (fun k => k = b) w w'
section
variable {w w' w1 w2 : World} {b at_ a2 : Nat} {s : ByteArray} {e e2 : Int}
theorem Did.refl (h : InAt w b s at_ e) : Did w b s at_ e w := ⟨h, Keep.refl _ _⟩
theorem Did.trans (h : Did w b s at_ e w1) (k : Did w1 b s a2 e2 w2) : Did w b s a2 e2 w2 := ⟨k.inn, h.keep.trans k.keep fun _ _ x => x⟩
theorem Did.of_below (h : InAt w b s at_ e) (hb : Below w.heap.size w w') : Did w b s at_ e w' := ⟨h.later hb, Keep.of_below hb⟩
theorem Did.later (h : Did w b s at_ e w1) (hb : Below w1.heap.size w1 w2) : Did w b s at_ e w2 := h.trans (Did.of_below h.inn hb)
theorem Did.setE (h : Did w b s at_ e w1) (e' : Int) : Did w b s at_ e' (w1.setCell ⟨b, 0, none⟩ (.int .i64 e')) := ⟨h.inn.setE e', h.keep.trans (Keep.setCell (X := fun k => k = b) w1 _ _ rfl) fun _ _ x => x⟩
theorem Did.setA (h : Did w b s at_ e w1) (a' : Nat) : Did w b s a' e (w1.setCell ⟨b, 2, none⟩ (.int .i64 (a' : Nat))) := ⟨h.inn.setA a', h.keep.trans (Keep.setCell (X := fun k => k = b) w1 _ _ rfl) fun _ _ x => x⟩
theorem Did.below {B : Nat} (h : Did w b s at_ e w') (hB : B ≤ w.heap.size) (hb : B ≤ b) : Below B w w' := h.keep.below hB fun k hk x => by omega
end
theorem read_any (s : ByteArray) (w : World) : Calls Tryd.prog 64 #[.string s] w fun e w' => e = .returned (.pointer (some ⟨w.heap.size, 0, none⟩)) ∧ InAt w' w.heap.size s 0 0 ∧ Below w.heap.size w w' := by
  have hn := heap_alloc_new w (.cells #[.int .i64 0, .string s, .int .i64 0] 127)
  go_enter Tryd.func64, Tryd.ntmps64
  go_wp2
  go_ret
  exact ⟨rfl, ⟨hn⟩, below_alloc _ _⟩
theorem well_ok {b at_ : Nat} {s : ByteArray} {w : World} (h : InAt w b s at_ 0) : Calls Tryd.prog 96 #[.pointer (some ⟨b, 0, none⟩)] w fun e w' => e = .returned (.bool true) ∧ w' = w := by
  have c0 := h.c0
  go_enter Tryd.func96, Tryd.ntmps96
  go_wp2
  go_ret
  exact ⟨rfl, rfl⟩
theorem well_no {b at_ : Nat} {s : ByteArray} {w : World} {e : Int} (h : InAt w b s at_ e) (he : (e == 0) = false) : Calls Tryd.prog 96 #[.pointer (some ⟨b, 0, none⟩)] w fun e w' => e = .returned (.bool false) ∧ w' = w := by
  have c0 := h.c0
  go_enter Tryd.func96, Tryd.ntmps96
  go_wp2
  go_ret
  exact ⟨rfl, rfl⟩
theorem keep_ok {b at_ : Nat} {s : ByteArray} {w : World} (h : InAt w b s at_ 0) (x : Int) : Calls Tryd.prog 93 #[.pointer (some ⟨b, 0, none⟩), .int .i64 x] w fun e w' => e = .returned (.tuple #[]) ∧ w' = w.setCell ⟨b, 0, none⟩ (.int .i64 x) := by
  have c0 := h.c0
  have f0 := h.f0
  have hw := well_ok h
  go_enter Tryd.func93, Tryd.ntmps93
  go_wp2_with fail
  refine hw.mono ?_
  rintro e w' ⟨rfl, rfl⟩
  go_wp2
  go_end0
  exact ⟨rfl, rfl⟩
theorem keep_no {b at_ : Nat} {s : ByteArray} {w : World} {e : Int} (h : InAt w b s at_ e) (he : (e == 0) = false) (x : Int) : Calls Tryd.prog 93 #[.pointer (some ⟨b, 0, none⟩), .int .i64 x] w fun e w' => e = .returned (.tuple #[]) ∧ w' = w := by
  have hw := well_no h he
  go_enter Tryd.func93, Tryd.ntmps93
  go_wp2_with fail
  refine hw.mono ?_
  rintro e w' ⟨rfl, rfl⟩
  go_wp2
  go_end0
  exact ⟨rfl, rfl⟩
theorem ready_ok {b at_ : Nat} {s : ByteArray} {w : World} (h : InAt w b s at_ 0) : Calls Tryd.prog 92 #[.pointer (some ⟨b, 0, none⟩)] w fun e w' => e = .returned (.bool true) ∧ w' = w := by
  have hw := well_ok h
  go_enter Tryd.func92, Tryd.ntmps92
  go_wp2_with fail
  refine hw.mono ?_
  rintro e w' ⟨rfl, rfl⟩
  go_wp2
  go_ret
  exact ⟨rfl, rfl⟩
theorem ready_no {b at_ : Nat} {s : ByteArray} {w : World} {e : Int} (h : InAt w b s at_ e) (he : (e == 0) = false) : Calls Tryd.prog 92 #[.pointer (some ⟨b, 0, none⟩)] w fun e w' => e = .returned (.bool false) ∧ w' = w := by
  have hw := well_no h he
  go_enter Tryd.func92, Tryd.ntmps92
  go_wp2_with fail
  refine hw.mono ?_
  rintro e w' ⟨rfl, rfl⟩
  go_wp2
  go_ret
  exact ⟨rfl, rfl⟩
theorem ready_nil (w : World) : Calls Tryd.prog 92 #[.pointer none] w fun e w' => e = .returned (.bool false) ∧ w' = w := by
  go_enter Tryd.func92, Tryd.ntmps92
  go_wp2
  go_ret
  exact ⟨rfl, rfl⟩
theorem err_any {b at_ : Nat} {s : ByteArray} {w : World} {e : Int} (h : InAt w b s at_ e) : Calls Tryd.prog 66 #[.pointer (some ⟨b, 0, none⟩)] w fun e' w' => e' = .returned (.int .i64 e) ∧ w' = w := by
  have c0 := h.c0
  go_enter Tryd.func66, Tryd.ntmps66
  go_wp2
  go_ret
  exact ⟨rfl, rfl⟩
theorem err_nil (w : World) : Calls Tryd.prog 66 #[.pointer none] w fun e w' => e = .returned (.int .i64 2) ∧ w' = w := by
  go_enter Tryd.func66, Tryd.ntmps66
  go_wp2
  go_ret
  exact ⟨rfl, rfl⟩
theorem left_any {b at_ : Nat} {s : ByteArray} {w : World} {e : Int} (h : InAt w b s at_ e) (hs : s.size ≤ 9223372036854775807) (ha : at_ ≤ s.size) : Calls Tryd.prog 97 #[.pointer (some ⟨b, 0, none⟩)] w fun e w' => e = .returned (.int .i64 ((s.size : Int) - (at_ : Int))) ∧ Below w.heap.size w w' := by
  have c1 : ∀ p : Later w, p.val.cell? ⟨b, 1, none⟩ = some (.string s) := fun p => (h.later p.below).c1
  have c2 : ∀ p : Later w, p.val.cell? ⟨b, 2, none⟩ = some (.int .i64 (at_ : Nat)) := fun p => (h.later p.below).c2
  have hne := later_ne w
  go_enter Tryd.func97, Tryd.ntmps97
  go_wp2
  refine wp_region_later (by kernel_rfl) (by kernel_rfl) ?_
  (repeat (first | go_big_quiet_skip | (go_big_quiet_want; go_big_quiet_op; go_big_quiet_on)))
  refine wpQuiet_nil ?_
  rintro _ ⟨p, rfl⟩
  go_wp2
  go_ret
  exact ⟨rfl, p.below⟩
theorem left_nil (w : World) : Calls Tryd.prog 97 #[.pointer none] w fun e w' => e = .returned (.int .i64 0) ∧ w' = w := by
  go_enter Tryd.func97, Tryd.ntmps97
  go_wp2
  go_ret
  exact ⟨rfl, rfl⟩
end Cr
end Go.Proofs.YtnpbgjafahhadaaDoor

namespace Go.Proofs.YtnpbgjafahhadaaDoor
open Go.RowKit
namespace Cr

theorem rraw_nil (n : Int) (w : World) : Calls Tryd.prog 83 #[.pointer none, .int .i64 n] w fun e w' => e = .returned (.string ⟨#[]⟩) ∧ w' = w := by
  have hr := ready_nil w
  go_enter Tryd.func83, Tryd.ntmps83
  go_wp2_with fail
  refine hr.mono ?_
  rintro e w' ⟨rfl, rfl⟩
  go_wp2
  go_ret
  exact ⟨rfl, rfl⟩
theorem rraw_no (n : Int) {b at_ : Nat} {s : ByteArray} {w : World} {e : Int} (h : InAt w b s at_ e) (he : (e == 0) = false) : Calls Tryd.prog 83 #[.pointer (some ⟨b, 0, none⟩), .int .i64 n] w fun e w' => e = .returned (.string ⟨#[]⟩) ∧ w' = w := by
  have hr := ready_no h he
  go_enter Tryd.func83, Tryd.ntmps83
  go_wp2_with fail
  refine hr.mono ?_
  rintro e w' ⟨rfl, rfl⟩
  go_wp2
  go_ret
  exact ⟨rfl, rfl⟩
theorem rfix_nil (n : Int) (w : World) : Calls Tryd.prog 78 #[.pointer none, .int .i64 n] w fun e w' => e = .returned (.int .u64 0) ∧ w' = w := by
  have hr := ready_nil w
  go_enter Tryd.func78, Tryd.ntmps78
  go_wp2_with fail
  refine hr.mono ?_
  rintro e w' ⟨rfl, rfl⟩
  go_wp2
  go_ret
  exact ⟨rfl, rfl⟩
theorem rfix_no (n : Int) {b at_ : Nat} {s : ByteArray} {w : World} {e : Int} (h : InAt w b s at_ e) (he : (e == 0) = false) : Calls Tryd.prog 78 #[.pointer (some ⟨b, 0, none⟩), .int .i64 n] w fun e w' => e = .returned (.int .u64 0) ∧ w' = w := by
  have hr := ready_no h he
  go_enter Tryd.func78, Tryd.ntmps78
  go_wp2_with fail
  refine hr.mono ?_
  rintro e w' ⟨rfl, rfl⟩
  go_wp2
  go_ret
  exact ⟨rfl, rfl⟩
theorem rvar_nil (w : World) : Calls Tryd.prog 95 #[.pointer none] w fun e w' => e = .returned (.int .u64 0) ∧ w' = w := by
  have hr := ready_nil w
  go_enter Tryd.func95, Tryd.ntmps95
  go_wp2_with fail
  refine hr.mono ?_
  rintro e w' ⟨rfl, rfl⟩
  go_wp2
  go_ret
  exact ⟨rfl, rfl⟩
theorem rvar_no {b at_ : Nat} {s : ByteArray} {w : World} {e : Int} (h : InAt w b s at_ e) (he : (e == 0) = false) : Calls Tryd.prog 95 #[.pointer (some ⟨b, 0, none⟩)] w fun e w' => e = .returned (.int .u64 0) ∧ w' = w := by
  have hr := ready_no h he
  go_enter Tryd.func95, Tryd.ntmps95
  go_wp2_with fail
  refine hr.mono ?_
  rintro e w' ⟨rfl, rfl⟩
  go_wp2
  go_ret
  exact ⟨rfl, rfl⟩
theorem rint_nil (n : Int) (w : World) : Calls Tryd.prog 80 #[.pointer none, .int .i64 n] w fun e w' => e = .returned (.int .i64 0) ∧ w' = w := by
  have hr := ready_nil w
  go_enter Tryd.func80, Tryd.ntmps80
  go_wp2_with fail
  refine hr.mono ?_
  rintro e w' ⟨rfl, rfl⟩
  go_wp2
  go_ret
  exact ⟨rfl, rfl⟩
theorem rint_no (n : Int) {b at_ : Nat} {s : ByteArray} {w : World} {e : Int} (h : InAt w b s at_ e) (he : (e == 0) = false) : Calls Tryd.prog 80 #[.pointer (some ⟨b, 0, none⟩), .int .i64 n] w fun e w' => e = .returned (.int .i64 0) ∧ w' = w := by
  have hr := ready_no h he
  go_enter Tryd.func80, Tryd.ntmps80
  go_wp2_with fail
  refine hr.mono ?_
  rintro e w' ⟨rfl, rfl⟩
  go_wp2
  go_ret
  exact ⟨rfl, rfl⟩
theorem rtxt_nil (n : Int) (w : World) : Calls Tryd.prog 82 #[.pointer none, .int .i64 n] w fun e w' => e = .returned (.string ⟨#[]⟩) ∧ w' = w := by
  have hr := ready_nil w
  go_enter Tryd.func82, Tryd.ntmps82
  go_wp2_with fail
  refine hr.mono ?_
  rintro e w' ⟨rfl, rfl⟩
  go_wp2
  go_ret
  exact ⟨rfl, rfl⟩
theorem rtxt_no (n : Int) {b at_ : Nat} {s : ByteArray} {w : World} {e : Int} (h : InAt w b s at_ e) (he : (e == 0) = false) : Calls Tryd.prog 82 #[.pointer (some ⟨b, 0, none⟩), .int .i64 n] w fun e w' => e = .returned (.string ⟨#[]⟩) ∧ w' = w := by
  have hr := ready_no h he
  go_enter Tryd.func82, Tryd.ntmps82
  go_wp2_with fail
  refine hr.mono ?_
  rintro e w' ⟨rfl, rfl⟩
  go_wp2
  go_ret
  exact ⟨rfl, rfl⟩

theorem rawR_arg {l : List Nat} {n : Int} (h : n < 0) : rawR l n = ([], 0, 1) := by rw [rawR, if_pos h]
theorem rawR_short {l : List Nat} {n : Int} (h : ¬ n < 0) (h2 : (l.length : Int) < n) : rawR l n = ([], 0, 10) := by rw [rawR, if_neg h, if_pos h2]
theorem rawR_ok {l : List Nat} {n : Int} (h : ¬ n < 0) (h2 : ¬ (l.length : Int) < n) : rawR l n = (l.take n.toNat, n.toNat, 0) := by rw [rawR, if_neg h, if_neg h2]
theorem drop_len (s : ByteArray) {at_ : Nat} (ha : at_ ≤ s.size) : (((bs s).drop at_).length : Int) = (s.size : Int) - (at_ : Int) := by rw [List.length_drop, bs_length]; omega
theorem extract_str (s : ByteArray) (a n : Nat) : s.extract a (a + n) = str (((bs s).drop a).take n) := by
  apply str_of
  rw [bs_extract]
  congr 1
  omega
set_option maxHeartbeats 2000000 in
theorem rraw_ok {b at_ : Nat} {s : ByteArray} {w : World} (n : Int) (h : InAt w b s at_ 0) (hs : s.size ≤ 9223372036854775807) (ha : at_ ≤ s.size) (hn : -9223372036854775808 ≤ n ∧ n ≤ 9223372036854775807) :
    Calls Tryd.prog 83 #[.pointer (some ⟨b, 0, none⟩), .int .i64 n] w fun e w' => e = .returned (.string (str (rawR ((bs s).drop at_) n).1)) ∧ Did w b s (at_ + (rawR ((bs s).drop at_) n).2.1) (rawR ((bs s).drop at_) n).2.2 w' := by
  obtain ⟨hn1, hn2⟩ := hn
  have hr := ready_ok h
  have hl := left_any h hs ha
  have hdl := drop_len s ha
  by_cases h0 : n < 0
  · have HR := hide (rawR_arg (l := (bs s).drop at_) h0)
    have hk := keep_ok h 1
    go_enter Tryd.func83, Tryd.ntmps83
    go_wp2_with fail
    refine hr.mono ?_
    rintro e w' ⟨rfl, rfl⟩
    go_wp2_with fail
    refine hk.mono ?_
    rintro e w' ⟨rfl, rfl⟩
    go_wp2
    go_ret
    rw [HR.out]
    exact ⟨rfl, (Did.refl h).setE 1⟩
  · by_cases h1 : (s.size : Int) - (at_ : Int) < n
    · have HR := hide (rawR_short (l := (bs s).drop at_) h0 (by rw [hdl]; exact h1))
      clear hdl
      go_enter Tryd.func83, Tryd.ntmps83
      go_wp2_with fail
      refine hr.mono ?_
      rintro e w' ⟨rfl, rfl⟩
      go_wp2_with fail
      refine hl.mono ?_
      rintro e w2 ⟨rfl, hb⟩
      go_wp2_with fail
      refine (keep_ok (h.later hb) 10).mono ?_
      rintro e w' ⟨rfl, rfl⟩
      go_wp2
      go_ret
      rw [HR.out]
      exact ⟨rfl, (Did.of_below h hb).setE 10⟩
    · have HR := hide (rawR_ok (l := (bs s).drop at_) h0 (by rw [hdl]; exact h1))
      clear hdl
      obtain ⟨m, rfl⟩ := Int.eq_ofNat_of_zero_le (show 0 ≤ n by omega)
      rw [show ((m : Int)).toNat = m by omega] at HR
      have HX := hide (extract_str s at_ m)
      go_enter Tryd.func83, Tryd.ntmps83
      go_wp2_with fail
      refine hr.mono ?_
      rintro e w' ⟨rfl, rfl⟩
      go_wp2_with fail
      refine hl.mono ?_
      rintro e w2 ⟨rfl, hb⟩
      have h2 := h.later hb
      have c2 := h2.c2
      have f2 := h2.f2
      have HD := hide ((Did.of_below h hb).setA (at_ + m))
      have hD := HD.out
      rw [show ((at_ + m : Nat) : Int) = (at_ : Int) + (m : Int) by omega] at hD
      have hne := later_ne (w2.setCell ⟨b, 2, none⟩ (.int .i64 ((at_ : Int) + (m : Int))))
      have c1' : ∀ p : Later (w2.setCell ⟨b, 2, none⟩ (.int .i64 ((at_ : Int) + (m : Int)))), p.val.cell? ⟨b, 1, none⟩ = some (.string s) := fun p => (hD.inn.later p.below).c1
      have c2' : ∀ p : Later (w2.setCell ⟨b, 2, none⟩ (.int .i64 ((at_ : Int) + (m : Int)))), p.val.cell? ⟨b, 2, none⟩ = some (.int .i64 ((at_ : Int) + (m : Int))) := fun p => by
        rw [(hD.inn.later p.below).c2]
        congr 2
      have HD2 := hide hD
      have hx1 : (at_ : Int) + (m : Int) ≤ (s.size : Int) := by omega
      clear hD
      go_wp2
      refine wp_region_later (by kernel_rfl) (by kernel_rfl) ?_
      (repeat (first | go_big_quiet_skip | (go_big_quiet_want; go_big_quiet_op; go_big_quiet_on)))
      refine wpQuiet_nil ?_
      rintro _ ⟨p, rfl⟩
      go_wp2
      go_ret
      rw [HR.out]
      exact ⟨ret_str (by rw [← HX.out] <;> first | rfl | (congr 1; omega)), HD2.out.later p.below⟩
set_option maxHeartbeats 2000000 in
theorem rfix_ok {b at_ : Nat} {s : ByteArray} {w : World} (n : Int) (h : InAt w b s at_ 0) (hs : s.size ≤ 9223372036854775807) (ha : at_ ≤ s.size) (hn : -9223372036854775808 ≤ n ∧ n ≤ 9223372036854775807) :
    Calls Tryd.prog 78 #[.pointer (some ⟨b, 0, none⟩), .int .i64 n] w fun e w' => e = .returned (.int .u64 ((fixR ((bs s).drop at_) n).1 : Nat)) ∧ Did w b s (at_ + (fixR ((bs s).drop at_) n).2.1) (fixR ((bs s).drop at_) n).2.2 w' := by
  have hr := ready_ok h
  have hm := mayFix_any n hn w
  by_cases hd : 1 ≤ n ∧ n ≤ 8
  · have hraw := rraw_ok n h hs ha hn
    rw [decide_eq_true hd] at hm
    have hlb : ∀ c ∈ (bs s).drop at_, c < 256 := fun c hc => bs_lt s c (List.mem_of_mem_drop hc)
    have HR : Hid (jo 0 (bs (str (rawR ((bs s).drop at_) n).1)) = (fixR ((bs s).drop at_) n).1 ∧ (rawR ((bs s).drop at_) n).2 = (fixR ((bs s).drop at_) n).2 ∧ (str (rawR ((bs s).drop at_) n).1).size ≤ 9223372036854775807) := by
      show _ ∧ _ ∧ _
      generalize (bs s).drop at_ = L at *
      by_cases h1 : (L.length : Int) < n
      · rw [fixR_short hd h1, rawR_short (by omega) h1]
        exact ⟨rfl, rfl, by decide⟩
      · rw [fixR_ok hd h1, rawR_ok (by omega) h1]
        have hlt : (L.take n.toNat).length ≤ 8 := by rw [List.length_take]; omega
        have hl2 : ∀ c ∈ L.take n.toNat, c < 256 := fun c hc => hlb c (List.mem_of_mem_take hc)
        exact ⟨by rw [bs_str hl2, jo_zero hl2 hlt], rfl, by rw [str_size]; show (L.take n.toNat).length ≤ _; omega⟩
    obtain ⟨e1, e2, e3⟩ := HR.out
    rw [e2] at hraw
    rw [← e1]
    clear HR e1 e2 hlb
    generalize str (rawR ((bs s).drop at_) n).1 = R at *
    generalize fixR ((bs s).drop at_) n = F at *
    go_enter Tryd.func78, Tryd.ntmps78
    go_wp2_with fail
    refine hr.mono ?_
    rintro e w' ⟨rfl, rfl⟩
    go_wp2_with fail
    refine hm.mono ?_
    rintro e w' ⟨rfl, rfl⟩
    go_wp2_with fail
    refine hraw.mono ?_
    rintro e w2 ⟨rfl, hd2⟩
    go_wp2_with fail
    refine (join_any 0 (by omega) R e3 _).mono ?_
    rintro e w' ⟨rfl, rfl⟩
    go_wp2
    go_ret
    exact ⟨rfl, hd2⟩
  · have HR := hide (fixR_arg (l := (bs s).drop at_) hd)
    rw [decide_eq_false hd] at hm
    have hk := keep_ok h 1
    go_enter Tryd.func78, Tryd.ntmps78
    go_wp2_with fail
    refine hr.mono ?_
    rintro e w' ⟨rfl, rfl⟩
    go_wp2_with fail
    refine hm.mono ?_
    rintro e w' ⟨rfl, rfl⟩
    go_wp2_with fail
    refine hk.mono ?_
    rintro e w' ⟨rfl, rfl⟩
    go_wp2
    go_ret
    rw [HR.out]
    exact ⟨rfl, (Did.refl h).setE 1⟩
theorem few_at (s : ByteArray) (hs : s.size ≤ 9223372036854775807) (at_ : Nat) (w : World) :
    Calls Tryd.prog 100 #[.string (s.extract at_ s.size)] w fun e w' => e = .returned (.tuple #[.int .u64 ((few 12 ((bs s).drop at_)).1 : Nat), .int .i64 ((few 12 ((bs s).drop at_)).2.1 : Nat), .int .i64 (few 12 ((bs s).drop at_)).2.2]) ∧ Below w.heap.size w w' := by
  have hc := few_any (s.extract at_ s.size) (Nat.le_trans (extract_size_le _ _ _) hs) w
  rw [bs_extract, List.take_of_length_le (by rw [List.length_drop, bs_length]; omega)] at hc
  exact hc
set_option maxHeartbeats 2000000 in
theorem rvar_ok {b at_ : Nat} {s : ByteArray} {w : World} (h : InAt w b s at_ 0) (hs : s.size ≤ 9223372036854775807) (ha : at_ ≤ s.size) :
    Calls Tryd.prog 95 #[.pointer (some ⟨b, 0, none⟩)] w fun e w' => e = .returned (.int .u64 ((few 12 ((bs s).drop at_)).1 : Nat)) ∧ Did w b s (at_ + (few 12 ((bs s).drop at_)).2.1) (few 12 ((bs s).drop at_)).2.2 w' := by
  have hr := ready_ok h
  have hf : ∀ w, _ := fun w => few_at s hs at_ w
  have hff := few_facts ((bs s).drop at_)
  have hle := hff.2
  rw [List.length_drop, bs_length] at hle
  clear hff
  generalize few 12 ((bs s).drop at_) = F at *
  have hne := later_ne w
  have c1 : ∀ p : Later w, p.val.cell? ⟨b, 1, none⟩ = some (.string s) := fun p => (h.later p.below).c1
  have c2 : ∀ p : Later w, p.val.cell? ⟨b, 2, none⟩ = some (.int .i64 (at_ : Nat)) := fun p => (h.later p.below).c2
  have ha1 : (at_ : Int) ≤ (s.size : Int) := by omega
  go_enter Tryd.func95, Tryd.ntmps95
  go_wp2_with fail
  refine hr.mono ?_
  rintro e w' ⟨rfl, rfl⟩
  go_wp2
  refine wp_region_later (by kernel_rfl) (by kernel_rfl) ?_
  (repeat (first | go_big_quiet_skip | (go_big_quiet_want; go_big_quiet_op; go_big_quiet_on)))
  (go_big_quiet_want; go_big_quiet_op; apply Exists.intro; refine ⟨fun p => ?_, ?_⟩; (· exact later_of (hf _)); go_big_quiet_on)
  (repeat (first | go_big_quiet_skip | (go_big_quiet_want; go_big_quiet_op; go_big_quiet_on)))
  refine wpQuiet_nil ?_
  rintro _ ⟨p, rfl⟩
  have h2 := h.later p.below
  go_wp2_with fail
  refine (keep_ok h2 F.2.2).mono ?_
  rintro e w' ⟨rfl, rfl⟩
  have hD := (Did.of_below h p.below).setE F.2.2
  have c2' := hD.inn.c2
  have f2' := hD.inn.f2
  have HD := hide (hD.setA (at_ + F.2.1))
  clear hD
  rw [show ((at_ + F.2.1 : Nat) : Int) = (at_ : Int) + (F.2.1 : Int) by omega] at HD
  go_wp2
  go_ret
  exact ⟨rfl, HD.out⟩

theorem intR_bad {l : List Nat} {m : Int} (h : (few 12 l).2.2 ≠ 0) : intR l m = few 12 l := by rw [intR, if_neg fun x => h x.1]
theorem intR_form {l : List Nat} {m : Int} (h : (few 12 l).2.2 = 0) (h2 : m < 0 ∨ m < ((few 12 l).1 : Nat)) : intR l m = (0, 0, 12) := by rw [intR, if_pos ⟨h, h2⟩]
theorem intR_ok {l : List Nat} {m : Int} (h2 : ¬ (m < 0 ∨ m < ((few 12 l).1 : Nat))) : intR l m = few 12 l := by rw [intR, if_neg fun x => h2 x.2]
theorem few_bad {l : List Nat} (h : (few 12 l).2.2 ≠ 0) : (few 12 l).1 = 0 ∧ (few 12 l).2.1 = 0 := by
  rcases (few_facts l).1 with h' | h'
  · exact absurd h' h
  · exact ⟨h'.1, h'.2.1⟩
set_option maxHeartbeats 2000000 in
theorem rint_ok {b at_ : Nat} {s : ByteArray} {w : World} (n : Int) (h : InAt w b s at_ 0) (hs : s.size ≤ 9223372036854775807) (ha : at_ ≤ s.size) (hn : -9223372036854775808 ≤ n ∧ n ≤ 9223372036854775807) :
    Calls Tryd.prog 80 #[.pointer (some ⟨b, 0, none⟩), .int .i64 n] w fun e w' => e = .returned (.int .i64 ((intR ((bs s).drop at_) n).1 : Nat)) ∧ Did w b s (at_ + (intR ((bs s).drop at_) n).2.1) (intR ((bs s).drop at_) n).2.2 w' := by
  obtain ⟨hn1, hn2⟩ := hn
  have hr := ready_ok h
  have hv := rvar_ok h hs ha
  have c2 := h.c2
  have hx := few_bound (l := (bs s).drop at_) fun c hc => bs_lt s c (List.mem_of_mem_drop hc)
  by_cases he : (few 12 ((bs s).drop at_)).2.2 = 0
  · by_cases h2 : n < 0 ∨ n < ((few 12 ((bs s).drop at_)).1 : Nat)
    · have HR := hide (intR_form he h2)
      rw [he] at hv
      generalize few 12 ((bs s).drop at_) = F at *
      have hgoal : ∀ w2, Did w b s (at_ + F.2.1) 0 w2 → Hid (Did w b s at_ 12 ((w2.setCell ⟨b, 0, none⟩ (.int .i64 12)).setCell ⟨b, 2, none⟩ (.int .i64 (at_ : Nat)))) := fun w2 hd => (hd.setE 12).setA at_
      by_cases h0 : n < 0
      · go_enter Tryd.func80, Tryd.ntmps80
        go_wp2_with fail
        refine hr.mono ?_
        rintro e w' ⟨rfl, rfl⟩
        go_wp2_with fail
        refine hv.mono ?_
        rintro e w2 ⟨rfl, hd⟩
        go_wp2_with fail
        refine (keep_ok hd.inn 12).mono ?_
        rintro e w' ⟨rfl, rfl⟩
        have f2' := (hd.setE 12).inn.f2
        have c2' := (hd.setE 12).inn.c2
        go_wp2
        go_ret
        rw [HR.out]
        exact ⟨rfl, (hgoal _ hd).out⟩
      · have h3 : n < (F.1 : Int) := by omega
        clear h2
        go_enter Tryd.func80, Tryd.ntmps80
        go_wp2_with fail
        refine hr.mono ?_
        rintro e w' ⟨rfl, rfl⟩
        go_wp2_with fail
        refine hv.mono ?_
        rintro e w2 ⟨rfl, hd⟩
        go_wp2_with fail
        refine (keep_ok hd.inn 12).mono ?_
        rintro e w' ⟨rfl, rfl⟩
        have f2' := (hd.setE 12).inn.f2
        have c2' := (hd.setE 12).inn.c2
        go_wp2
        go_ret
        rw [HR.out]
        exact ⟨rfl, (hgoal _ hd).out⟩
    · have HR := hide (intR_ok h2)
      clear he
      generalize few 12 ((bs s).drop at_) = F at *
      have h3 : (F.1 : Int) ≤ n := by omega
      have h4 : 0 ≤ n := by omega
      clear h2
      go_enter Tryd.func80, Tryd.ntmps80
      go_wp2_with fail
      refine hr.mono ?_
      rintro e w' ⟨rfl, rfl⟩
      go_wp2_with fail
      refine hv.mono ?_
      rintro e w2 ⟨rfl, hd⟩
      go_wp2
      go_ret
      rw [HR.out]
      exact ⟨rfl, hd⟩
  · have HR := hide (intR_bad (m := n) he)
    obtain ⟨z1, z2⟩ := few_bad he
    have he2 : ((few 12 ((bs s).drop at_)).2.2 == 0) = false := by rw [beq_eq_false_iff_ne]; exact he
    have HZ := hide z1
    rw [HR.out]
    rw [z1, z2, Nat.add_zero] at hv
    rw [z1, z2, Nat.add_zero]
    clear HR z1 z2 he HZ
    generalize few 12 ((bs s).drop at_) = F at *
    by_cases h0 : n < 0
    · go_enter Tryd.func80, Tryd.ntmps80
      go_wp2_with fail
      refine hr.mono ?_
      rintro e w' ⟨rfl, rfl⟩
      go_wp2_with fail
      refine hv.mono ?_
      rintro e w2 ⟨rfl, hd⟩
      go_wp2_with fail
      refine (keep_no hd.inn he2 12).mono ?_
      rintro e w' ⟨rfl, hw'⟩
      subst hw'
      have f2' := hd.inn.f2
      have c2' := hd.inn.c2
      go_wp2
      go_ret
      exact ⟨rfl, hd.setA at_⟩
    · go_enter Tryd.func80, Tryd.ntmps80
      go_wp2_with fail
      refine hr.mono ?_
      rintro e w' ⟨rfl, rfl⟩
      go_wp2_with fail
      refine hv.mono ?_
      rintro e w2 ⟨rfl, hd⟩
      go_wp2
      go_ret
      exact ⟨rfl, hd⟩
theorem txtR_bad {l : List Nat} {m : Int} (h : (intR l m).2.2 ≠ 0) : txtR l m = ([], 0, (intR l m).2.2) := by rw [txtR, if_pos h]
theorem txtR_short {l : List Nat} {m : Int} (h : (intR l m).2.2 = 0) (h2 : l.length - (intR l m).2.1 < (intR l m).1) : txtR l m = ([], 0, 10) := by rw [txtR, if_neg (fun x => x h), if_pos h2]
theorem txtR_ok {l : List Nat} {m : Int} (h : (intR l m).2.2 = 0) (h2 : ¬ l.length - (intR l m).2.1 < (intR l m).1) : txtR l m = ((l.drop (intR l m).2.1).take (intR l m).1, (intR l m).2.1 + (intR l m).1, 0) := by rw [txtR, if_neg (fun x => x h), if_neg h2]
theorem intR_facts (l : List Nat) (m : Int) (hm : m ≤ 9223372036854775807) : ((intR l m).2.2 = 0 → ((intR l m).1 : Int) ≤ 9223372036854775807) ∧ ((intR l m).2.2 ≠ 0 → (intR l m).1 = 0 ∧ (intR l m).2.1 = 0) ∧ (intR l m).2.1 ≤ l.length := by
  have hf := few_facts l
  by_cases he : (few 12 l).2.2 = 0
  · by_cases h2 : m < 0 ∨ m < ((few 12 l).1 : Nat)
    · rw [intR_form he h2]
      simp
    · rw [intR_ok h2]
      exact ⟨fun _ => by omega, fun h => absurd he h, hf.2⟩
  · rw [intR_bad he]
    exact ⟨fun h => absurd h he, fun _ => few_bad he, hf.2⟩
set_option maxHeartbeats 2000000 in
theorem rtxt_ok {b at_ : Nat} {s : ByteArray} {w : World} (n : Int) (h : InAt w b s at_ 0) (hs : s.size ≤ 9223372036854775807) (ha : at_ ≤ s.size) (hn : -9223372036854775808 ≤ n ∧ n ≤ 9223372036854775807) :
    Calls Tryd.prog 82 #[.pointer (some ⟨b, 0, none⟩), .int .i64 n] w fun e w' => e = .returned (.string (str (txtR ((bs s).drop at_) n).1)) ∧ Did w b s (at_ + (txtR ((bs s).drop at_) n).2.1) (txtR ((bs s).drop at_) n).2.2 w' := by
  have hr := ready_ok h
  have hi := rint_ok n h hs ha hn
  have c2 := h.c2
  obtain ⟨i1, i2, i3⟩ := intR_facts ((bs s).drop at_) n hn.2
  by_cases he : (intR ((bs s).drop at_) n).2.2 = 0
  · have hxl := i1 he
    have hdl : ((bs s).drop at_).length = s.size - at_ := by rw [List.length_drop, bs_length]
    have hdd : ((bs s).drop at_).drop (intR ((bs s).drop at_) n).2.1 = (bs s).drop (at_ + (intR ((bs s).drop at_) n).2.1) := by rw [List.drop_drop]
    have HI := hide he
    rw [he] at hi
    have hraw : ∀ w2, Did w b s (at_ + (intR ((bs s).drop at_) n).2.1) 0 w2 → _ := fun w2 hd => rraw_ok ((intR ((bs s).drop at_) n).1 : Nat) hd.inn hs (by omega) ⟨by omega, hxl⟩
    by_cases h2 : ((bs s).drop at_).length - (intR ((bs s).drop at_) n).2.1 < (intR ((bs s).drop at_) n).1
    · have HT := hide (txtR_short he h2)
      rw [rawR_short (by omega) (by rw [List.length_drop, bs_length]; omega)] at hraw
      clear i1 i2 he
      generalize intR ((bs s).drop at_) n = F at *
      go_enter Tryd.func82, Tryd.ntmps82
      go_wp2_with fail
      refine hr.mono ?_
      rintro e w' ⟨rfl, rfl⟩
      go_wp2_with fail
      refine hi.mono ?_
      rintro e w2 ⟨rfl, hd⟩
      go_wp2_with fail
      refine (hraw _ hd).mono ?_
      rintro e w3 ⟨rfl, hd3⟩
      go_wp2_with fail
      refine (well_no hd3.inn rfl).mono ?_
      rintro e w' ⟨rfl, hw'⟩
      subst hw'
      have f2' := hd3.inn.f2
      have c2' := hd3.inn.c2
      go_wp2
      go_ret
      rw [HT.out]
      exact ⟨rfl, (hd.trans hd3).setA at_⟩
    · have HT := hide (txtR_ok he h2)
      rw [rawR_ok (by omega) (by rw [List.length_drop, bs_length]; omega), ← hdd, show (((intR ((bs s).drop at_) n).1 : Nat) : Int).toNat = (intR ((bs s).drop at_) n).1 by omega] at hraw
      clear i1 i2 he hdd hdl
      generalize intR ((bs s).drop at_) n = F at *
      go_enter Tryd.func82, Tryd.ntmps82
      go_wp2_with fail
      refine hr.mono ?_
      rintro e w' ⟨rfl, rfl⟩
      go_wp2_with fail
      refine hi.mono ?_
      rintro e w2 ⟨rfl, hd⟩
      go_wp2_with fail
      refine (hraw _ hd).mono ?_
      rintro e w3 ⟨rfl, hd3⟩
      go_wp2_with fail
      refine (well_ok hd3.inn).mono ?_
      rintro e w' ⟨rfl, hw'⟩
      subst hw'
      go_wp2
      go_ret
      rw [HT.out]
      exact ⟨ret_str (by show _ = str (List.take F.1 (List.drop F.2.1 (List.drop at_ (bs s)))); rw [List.drop_drop]), by have := hd.trans hd3; rw [Nat.add_assoc] at this; exact this⟩
  · have HT := hide (txtR_bad he)
    obtain ⟨z1, z2⟩ := i2 he
    have he2 : ((intR ((bs s).drop at_) n).2.2 == 0) = false := by rw [beq_eq_false_iff_ne]; exact he
    rw [z1, z2, Nat.add_zero] at hi
    clear i1 i2 i3 he z1 z2
    generalize intR ((bs s).drop at_) n = F at *
    go_enter Tryd.func82, Tryd.ntmps82
    go_wp2_with fail
    refine hr.mono ?_
    rintro e w' ⟨rfl, rfl⟩
    go_wp2_with fail
    refine hi.mono ?_
    rintro e w2 ⟨rfl, hd⟩
    go_wp2_with fail
    refine (rraw_no 0 hd.inn he2).mono ?_
    rintro e w' ⟨rfl, hw'⟩
    subst hw'
    go_wp2_with fail
    refine (well_no hd.inn he2).mono ?_
    rintro e w' ⟨rfl, hw'⟩
    subst hw'
    have f2' := hd.inn.f2
    have c2' := hd.inn.c2
    go_wp2
    go_ret
    rw [HT.out]
    exact ⟨rfl, hd.setA at_⟩

end Cr
end Go.Proofs.YtnpbgjafahhadaaDoor

namespace Go.Proofs.YtnpbgjafahhadaaDoor
open Go.RowKit
namespace Cr

theorem opened_reg {X : ByteArray} (h4 : ¬ X.size < 4) : (X.extract 0 (X.size - 4) ++ str (four (more 0 (bs (X.extract 0 (X.size - 4))))) = X) ↔ reg (flip32 0) (bs X) = stN 32 4294967295 := by
  have hc := cut_data X (X.size - 4) (by omega)
  rw [cut_eq (by omega)]
  have hq : (bs (X.extract (X.size - 4) X.size)).length = 4 := by rw [bs_length]; simp; omega
  have := sealed_iff (bs_lt (X.extract 0 (X.size - 4))) (bs_lt (X.extract (X.size - 4) X.size)) hq
  rw [hc, ← this]
  constructor
  · intro e
    rw [← e, bs_str (four_lt _)]
  · intro e
    rw [← e, str_bs]
theorem opened_sealed (s : ByteArray) : opened (sealOf s) = (s, 0) := by
  have h4 : ¬ (sealOf s).size < 4 := by rw [sealOf_size]; omega
  have e : (sealOf s).extract 0 ((sealOf s).size - 4) = s := by
    rw [sealOf_size, Nat.add_sub_cancel]
    unfold sealOf
    apply ByteArray.ext
    simp [ByteArray.data_extract, ByteArray.data_append]
  rw [opened_ok h4 (by rw [e]; rfl), e]
theorem reg_sealOf (s : ByteArray) : reg (flip32 0) (bs (sealOf s)) = stN 32 4294967295 := by
  have h4 : ¬ (sealOf s).size < 4 := by rw [sealOf_size]; omega
  have hr := reg_lt (bs s) (flip32_lt 0) (bs_lt s)
  rw [bs_sealOf]
  show reg (flip32 0) (bs s ++ four (flip32 (reg (flip32 0) (bs s)))) = _
  rw [reg_append, (reg_sealed hr (flip32_lt _)).2 rfl]
/-- Sealed bytes of which up to four in a row are turned are not sealed. -/
theorem opened_turned {s : ByteArray} {t : Nat → Nat} {p k : Nat} (ht : ∀ j, t j < 256) (hpk : p + k ≤ (sealOf s).size) (hk : k ≤ 4) (h : tn t k = true) :
    opened (str ((List.range (sealOf s).size).map (turnd (bs (sealOf s)) t p k))) = (ByteArray.empty, 13) := by
  have hl : (bs (sealOf s)).length = (sealOf s).size := bs_length _
  rw [← hl] at hpk ⊢
  have hlt : ∀ b ∈ (List.range (bs (sealOf s)).length).map (turnd (bs (sealOf s)) t p k), b < 256 := by
    rw [turnd_list _ _ _ _ hpk]
    intro b hb
    simp only [List.mem_append] at hb
    rcases hb with hb | hb | hb
    · exact bs_lt _ b (List.mem_of_mem_take hb)
    · obtain ⟨i, hi⟩ := List.getElem?_of_mem hb
      rw [List.getElem?_zipWith] at hi
      split at hi
      · rename_i x y e1 e2
        have hx := bs_lt _ x (List.mem_of_mem_drop (List.mem_of_mem_take (List.mem_of_getElem? e1)))
        have hy : y < 256 := by
          have := List.mem_of_getElem? e2
          simp only [List.mem_map] at this
          obtain ⟨j, _, rfl⟩ := this
          exact ht j
        simp at hi
        subst hi
        exact Nat.xor_lt_two_pow (n := 8) hx hy
      · simp at hi
    · exact bs_lt _ b (List.mem_of_mem_drop hb)
  have hsz : (str ((List.range (bs (sealOf s)).length).map (turnd (bs (sealOf s)) t p k))).size = s.size + 4 := by rw [str_size]; simp [hl, sealOf_size]
  have h4 : ¬ (str ((List.range (bs (sealOf s)).length).map (turnd (bs (sealOf s)) t p k))).size < 4 := by rw [hsz]; omega
  refine opened_no h4 fun e => ?_
  rw [opened_reg h4, bs_str hlt] at e
  exact turnd_reg (bs_lt _) ht hpk hk h (flip32 0) (e.trans (reg_sealOf s).symm)
theorem opened_unturned {s : ByteArray} {t : Nat → Nat} {p k : Nat} (h : tn t k = false) :
    opened (str ((List.range (sealOf s).size).map (turnd (bs (sealOf s)) t p k))) = (s, 0) := by
  rw [← bs_length, turnd_none h, str_bs, opened_sealed]

end Cr
end Go.Proofs.YtnpbgjafahhadaaDoor

namespace Go.Proofs.YtnpbgjafahhadaaDoor
open Go.RowKit
namespace Cr
def mayB (x : Int × Int) : Bool := decide (0 ≤ x.1 ∧ 1 ≤ x.2 ∧ x.1 + x.2 ≤ 65536)
def errMay (x : Int × Int) : Int := if mayB x then 0 else 1
theorem errMay_ok {x : Int × Int} (h : mayB x = true) : errMay x = 0 := by simp [errMay, h]
theorem errMay_no {x : Int × Int} (h : mayB x = false) : errMay x = 1 := by simp [errMay, h]
theorem mayB_ok {x : Int × Int} (h : 0 ≤ x.1 ∧ 1 ≤ x.2 ∧ x.1 + x.2 ≤ 65536) : mayB x = true := by simp [mayB]; omega
theorem mayB_no {x : Int × Int} (h : ¬ (0 ≤ x.1 ∧ 1 ≤ x.2 ∧ x.1 + x.2 ≤ 65536)) : mayB x = false := by simp [mayB]; omega
theorem mayB_iff {x : Int × Int} : mayB x = true ↔ 0 ≤ x.1 ∧ 1 ≤ x.2 ∧ x.1 + x.2 ≤ 65536 := by simp [mayB]

/-- The k-th span (a default beyond the end). -/
def nth (xs : List (Int × Int)) (k : Nat) : Int × Int := xs.getD k (0, 0)
/-- The k-th span may be, and begins behind the end of the one ahead. -/
def okAt (xs : List (Int × Int)) (k : Nat) : Bool := mayB (nth xs k) && (decide (k = 0) || decide ((nth xs (k - 1)).1 + (nth xs (k - 1)).2 < (nth xs k).1))
/-- A list is a set. -/
def setB (xs : List (Int × Int)) : Bool := (List.range xs.length).all (okAt xs)
def allB (xs : List (Int × Int)) : Bool := xs.all mayB

theorem nth_eq {xs : List (Int × Int)} {k : Nat} (h : k < xs.length) : nth xs k = xs[k] := by simp [nth, h]
theorem nth_mem {xs : List (Int × Int)} {k : Nat} (h : k < xs.length) : nth xs k ∈ xs := by
  rw [nth_eq h]; exact List.getElem_mem h
theorem setB_true {xs : List (Int × Int)} (h : ∀ k, k < xs.length → okAt xs k = true) : setB xs = true := by
  unfold setB; rw [List.all_eq_true]; intro k hk; exact h k (by simpa using hk)
theorem setB_false {xs : List (Int × Int)} {k : Nat} (hk : k < xs.length) (h : okAt xs k = false) : setB xs = false := by
  unfold setB; rw [List.all_eq_false]; exact ⟨k, by simpa using hk, by simp [h]⟩
theorem setB_at {xs : List (Int × Int)} (h : setB xs = true) (k : Nat) (hk : k < xs.length) : okAt xs k = true := by
  unfold setB at h; rw [List.all_eq_true] at h; exact h k (by simpa using hk)
theorem okAt_no_may {xs : List (Int × Int)} {k : Nat} (h : mayB (nth xs k) = false) : okAt xs k = false := by simp [okAt, h]
theorem okAt_zero {xs : List (Int × Int)} (h : mayB (nth xs 0) = true) : okAt xs 0 = true := by simp [okAt, h]
theorem okAt_first {xs : List (Int × Int)} {k : Nat} (hk : k = 0) (h : mayB (nth xs k) = true) : okAt xs k = true := by subst hk; exact okAt_zero h
theorem ext_lt {p : Nat → Prop} {k : Nat} (h : ∀ j, j < k → p j) (hk : p k) : ∀ j, j < k + 1 → p j := fun j hj => by
  by_cases e : j = k
  · rw [e]; exact hk
  · exact h j (by omega)
theorem okAt_succ {xs : List (Int × Int)} {k : Nat} (h : mayB (nth xs (k + 1)) = true) (h' : (nth xs k).1 + (nth xs k).2 < (nth xs (k + 1)).1) : okAt xs (k + 1) = true := by simp [okAt, h, h']
theorem okAt_succ_no {xs : List (Int × Int)} {k : Nat} (h' : ¬ (nth xs k).1 + (nth xs k).2 < (nth xs (k + 1)).1) : okAt xs (k + 1) = false := by simp [okAt]; omega
theorem okAt_may {xs : List (Int × Int)} {k : Nat} (h : okAt xs k = true) : mayB (nth xs k) = true := by simp [okAt] at h; exact h.1
theorem okAt_lt {xs : List (Int × Int)} {k : Nat} (h : okAt xs (k + 1) = true) : (nth xs k).1 + (nth xs k).2 < (nth xs (k + 1)).1 := by simp [okAt] at h; exact h.2
theorem allB_of {xs : List (Int × Int)} (h : ∀ k, k < xs.length → mayB (nth xs k) = true) : allB xs = true := by
  unfold allB; rw [List.all_eq_true]; intro x hx
  obtain ⟨k, hk, rfl⟩ := List.getElem_of_mem hx
  have := h k hk; rwa [nth_eq hk] at this
theorem allB_no {xs : List (Int × Int)} {k : Nat} (hk : k < xs.length) (h : mayB (nth xs k) = false) : allB xs = false := by
  unfold allB; rw [List.all_eq_false]; exact ⟨_, nth_mem hk, by simp [h]⟩
theorem allB_at {xs : List (Int × Int)} (h : allB xs = true) {k : Nat} (hk : k < xs.length) : mayB (nth xs k) = true := by
  unfold allB at h; rw [List.all_eq_true] at h; exact h _ (nth_mem hk)
theorem allB_setB {xs : List (Int × Int)} (h : setB xs = true) : allB xs = true := allB_of fun k hk => okAt_may (setB_at h k hk)

/-- A sector is in one of the spans. -/
def wi (xs : List (Int × Int)) (i : Int) : Bool := xs.any fun x => decide (x.1 ≤ i) && decide (i < x.1 + x.2)
/-- How many sectors all spans have, those before place k. -/
def sumTo (xs : List (Int × Int)) : Nat → Int
  | 0 => 0
  | k + 1 => sumTo xs k + (nth xs k).2
def total (xs : List (Int × Int)) : Int := sumTo xs xs.length

theorem wi_true {xs : List (Int × Int)} {i : Int} {k : Nat} (hk : k < xs.length) (h : (nth xs k).1 ≤ i ∧ i < (nth xs k).1 + (nth xs k).2) : wi xs i = true := by
  unfold wi; rw [List.any_eq_true]; exact ⟨_, nth_mem hk, by simp [h]⟩
theorem wi_false {xs : List (Int × Int)} {i : Int} (h : ∀ k, k < xs.length → ¬ ((nth xs k).1 ≤ i ∧ i < (nth xs k).1 + (nth xs k).2)) : wi xs i = false := by
  unfold wi; rw [List.any_eq_false]; intro x hx
  obtain ⟨k, hk, rfl⟩ := List.getElem_of_mem hx
  have := h k hk; rw [nth_eq hk] at this
  simpa using this
theorem wi_get {xs : List (Int × Int)} {i : Int} (h : wi xs i = true) : ∃ k, k < xs.length ∧ (nth xs k).1 ≤ i ∧ i < (nth xs k).1 + (nth xs k).2 := by
  unfold wi at h; rw [List.any_eq_true] at h
  obtain ⟨x, hx, h⟩ := h
  obtain ⟨k, hk, rfl⟩ := List.getElem_of_mem hx
  refine ⟨k, hk, ?_⟩
  rw [nth_eq hk]; simpa using h

/-- In a set, what lies ahead ends ahead of what follows. -/
theorem set_lt {xs : List (Int × Int)} (h : setB xs = true) : ∀ (d k : Nat), k + d + 1 < xs.length → (nth xs k).1 + (nth xs k).2 < (nth xs (k + d + 1)).1
  | 0, k, hk => okAt_lt (setB_at h (k + 1) hk)
  | d + 1, k, hk => by
    have h1 := set_lt h d k (by omega)
    have h2 := okAt_lt (setB_at h (k + d + 1 + 1) (by omega))
    have h3 := mayB_iff.1 (okAt_may (setB_at h (k + d + 1) (by omega)))
    show _ < (nth xs (k + d + 1 + 1)).1
    omega
theorem set_lt' {xs : List (Int × Int)} (h : setB xs = true) {j k : Nat} (hjk : j < k) (hk : k < xs.length) : (nth xs j).1 + (nth xs j).2 < (nth xs k).1 := by
  have := set_lt h (k - j - 1) j (by omega)
  rwa [show j + (k - j - 1) + 1 = k by omega] at this
theorem sumTo_le {xs : List (Int × Int)} (h : setB xs = true) : ∀ k, k < xs.length → 0 ≤ sumTo xs k ∧ sumTo xs k ≤ (nth xs k).1
  | 0, hk => by have := mayB_iff.1 (okAt_may (setB_at h 0 hk)); simp [sumTo]; omega
  | k + 1, hk => by
    have h1 := sumTo_le h k (by omega)
    have h2 := okAt_lt (setB_at h (k + 1) hk)
    have h3 := mayB_iff.1 (okAt_may (setB_at h k (by omega)))
    simp only [sumTo]; omega
theorem sumTo_bd {xs : List (Int × Int)} (h : setB xs = true) (k : Nat) (hk : k ≤ xs.length) : 0 ≤ sumTo xs k ∧ sumTo xs k ≤ 65536 := by
  cases k with
  | zero => simp [sumTo]
  | succ k =>
    have h1 := sumTo_le h k (by omega)
    have h3 := mayB_iff.1 (okAt_may (setB_at h k (by omega)))
    simp only [sumTo]; omega

/-- How many spans end at a sector or ahead of it. -/
def placeN (xs : List (Int × Int)) (i : Int) : Nat := xs.countP fun x => decide (x.1 + x.2 ≤ i)
theorem placeN_eq {xs : List (Int × Int)} {i : Int} {k : Nat} (hk : k ≤ xs.length) (h1 : ∀ j, j < k → (nth xs j).1 + (nth xs j).2 ≤ i) (h2 : ∀ j, k ≤ j → j < xs.length → i < (nth xs j).1 + (nth xs j).2) : placeN xs i = k := by
  unfold placeN
  rw [← List.take_append_drop k xs, List.countP_append]
  have e1 : (xs.take k).countP (fun x => decide (x.1 + x.2 ≤ i)) = k := by
    rw [List.countP_eq_length.2 _, List.length_take, Nat.min_eq_left hk]
    intro x hx
    obtain ⟨j, hj, rfl⟩ := List.getElem_of_mem hx
    simp only [List.length_take] at hj
    have := h1 j (by omega)
    rw [nth_eq (by omega)] at this
    simpa using this
  have e2 : (xs.drop k).countP (fun x => decide (x.1 + x.2 ≤ i)) = 0 := by
    rw [List.countP_eq_zero]
    intro x hx
    obtain ⟨j, hj, rfl⟩ := List.getElem_of_mem hx
    simp only [List.length_drop] at hj
    have := h2 (k + j) (by omega) (by omega)
    rw [nth_eq (by omega)] at this
    simpa using this
  rw [e1, e2]; rfl
theorem placeN_le (xs : List (Int × Int)) (i : Int) : placeN xs i ≤ xs.length := List.countP_le_length
set_option maxHeartbeats 400000 in
theorem may_any (a l : Int) (w : World) (ha : -9223372036854775808 ≤ a ∧ a ≤ 9223372036854775807) (hl : -9223372036854775808 ≤ l ∧ l ≤ 9223372036854775807) :
    Calls Tryd.prog 79 #[.agg #[.int .i64 a, .int .i64 l]] w fun e w' => e = .returned (.int .i64 (errMay (a, l))) ∧ w' = w.alloc (.cells #[.int .i64 a, .int .i64 l] 39) := by
  by_cases h1 : a < 0
  · go_enter Tryd.func79, Tryd.ntmps79
    go_wp2
    go_ret
    exact ⟨ret_int (errMay_no (mayB_no (by simp; omega))).symm, rfl⟩
  · by_cases h2 : l < 1
    · go_enter Tryd.func79, Tryd.ntmps79
      go_wp2
      go_ret
      exact ⟨ret_int (errMay_no (mayB_no (by simp; omega))).symm, rfl⟩
    · by_cases h3 : 65536 - l < a
      · go_enter Tryd.func79, Tryd.ntmps79
        go_wp2
        go_ret
        exact ⟨ret_int (errMay_no (mayB_no (by simp; omega))).symm, rfl⟩
      · go_enter Tryd.func79, Tryd.ntmps79
        go_wp2
        go_ret
        exact ⟨ret_int (errMay_ok (mayB_ok (by simp; omega))).symm, rfl⟩

set_option maxHeartbeats 400000 in
theorem rmay_any (a l : Int) (w : World) (ha : -9223372036854775808 ≤ a ∧ a ≤ 9223372036854775807) (hl : -9223372036854775808 ≤ l ∧ l ≤ 9223372036854775807) :
    Calls Tryd.prog 40 #[.agg #[.int .i64 a, .int .i64 l]] w fun e w' => e = .returned (.bool (mayB (a, l))) ∧ w' = w.alloc (.cells #[.int .i64 a, .int .i64 l] 39) := by
  by_cases h1 : 0 ≤ a
  · by_cases h2 : a ≤ 65536
    · by_cases h3 : 1 ≤ l
      · by_cases h4 : l ≤ 65536
        · by_cases h5 : a + l ≤ 65536
          · go_enter Tryd.func40, Tryd.ntmps40
            go_wp2
            go_ret
            exact ⟨ret_bool (by rw [mayB_ok (by simp; omega)]), rfl⟩
          · go_enter Tryd.func40, Tryd.ntmps40
            go_wp2
            go_ret
            exact ⟨ret_bool (by rw [mayB_no (by simp; omega)]), rfl⟩
        · go_enter Tryd.func40, Tryd.ntmps40
          go_wp2
          go_ret
          exact ⟨ret_bool (by rw [mayB_no (by simp; omega)]), rfl⟩
      · go_enter Tryd.func40, Tryd.ntmps40
        go_wp2
        go_ret
        exact ⟨ret_bool (by rw [mayB_no (by simp; omega)]), rfl⟩
    · go_enter Tryd.func40, Tryd.ntmps40
      go_wp2
      go_ret
      exact ⟨ret_bool (by rw [mayB_no (by simp; omega)]), rfl⟩
  · go_enter Tryd.func40, Tryd.ntmps40
    go_wp2
    go_ret
    exact ⟨ret_bool (by rw [mayB_no (by simp; omega)]), rfl⟩

/-- Both numbers of a span are of the machine. -/
def Fit (x : Int × Int) : Prop := (-9223372036854775808 ≤ x.1 ∧ x.1 ≤ 9223372036854775807) ∧ (-9223372036854775808 ≤ x.2 ∧ x.2 ≤ 9223372036854775807)
theorem Fit.of_may {x : Int × Int} (h : mayB x = true) : Fit x := by rw [mayB_iff] at h; unfold Fit; omega

/-- A slice's memory holds these spans. -/
structure Sl (w : World) (a : Option Addr) (n : Nat) (xs : List (Int × Int)) : Prop where
  len : n = xs.length
  most : n ≤ 9223372036854775807
  fit : ∀ x ∈ xs, Fit x
  cells : ∀ i, i < xs.length → ∃ b off, a = some ⟨b, off, none⟩ ∧ b < w.heap.size ∧ w.cell? ⟨b, off + i * 2, none⟩ = some (.int .i64 (nth xs i).1) ∧ w.cell? ⟨b, off + i * 2 + 1, none⟩ = some (.int .i64 (nth xs i).2)

theorem Sl.later {w : World} {a : Option Addr} {n : Nat} {xs : List (Int × Int)} (h : Sl w a n xs) {wr : World} (hb : Below w.heap.size w wr) : Sl wr a n xs :=
  ⟨h.len, h.most, h.fit, fun i hi => by
    obtain ⟨b, off, ha, hbl, c0, c1⟩ := h.cells i hi
    exact ⟨b, off, ha, Nat.lt_of_lt_of_le hbl hb.size, (hb.cell hbl).trans c0, (hb.cell hbl).trans c1⟩⟩
theorem lcell {w : World} {a : Addr} {v : Value} (hb : a.block < w.heap.size) (h : w.cell? a = some v) (p : Later w) : p.val.cell? a = some v := (p.below.cell hb).trans h
theorem rmay_b (x : Int × Int) (w : World) (h : Fit x) : Calls Tryd.prog 40 #[.agg #[.int .i64 x.1, .int .i64 x.2]] w fun e w' => e = .returned (.bool (mayB x)) ∧ Below w.heap.size w w' :=
  (rmay_any x.1 x.2 w h.1 h.2).mono fun _ _ ⟨he, hw⟩ => ⟨he, by rw [hw]; exact below_alloc _ _⟩
theorem may_b (x : Int × Int) (w : World) (h : Fit x) : Calls Tryd.prog 79 #[.agg #[.int .i64 x.1, .int .i64 x.2]] w fun e w' => e = .returned (.int .i64 (errMay x)) ∧ Below w.heap.size w w' :=
  (may_any x.1 x.2 w h.1 h.2).mono fun _ _ ⟨he, hw⟩ => ⟨he, by rw [hw]; exact below_alloc _ _⟩
/-- The cells of spans, one behind the other. -/
def enc2 : List (Int × Int) → List Value
  | [] => []
  | x :: r => .int .i64 x.1 :: .int .i64 x.2 :: enc2 r
theorem enc2_length : ∀ xs, (enc2 xs).length = xs.length * 2
  | [] => rfl
  | _ :: r => by simp [enc2, enc2_length r]; omega
theorem enc2_append : ∀ xs ys, enc2 (xs ++ ys) = enc2 xs ++ enc2 ys
  | [], _ => rfl
  | _ :: r, ys => by simp [enc2, enc2_append r ys]
theorem enc2_get0 : ∀ (xs : List (Int × Int)) (i : Nat), i < xs.length → (enc2 xs)[i * 2]? = some (.int .i64 (nth xs i).1)
  | [], i, h => by simp at h
  | x :: r, 0, _ => rfl
  | x :: r, i + 1, h => by
    have := enc2_get0 r i (by simpa using h)
    rw [show (i + 1) * 2 = i * 2 + 2 by omega]
    simpa [enc2, nth] using this
theorem enc2_get1 : ∀ (xs : List (Int × Int)) (i : Nat), i < xs.length → (enc2 xs)[i * 2 + 1]? = some (.int .i64 (nth xs i).2)
  | [], i, h => by simp at h
  | x :: r, 0, _ => rfl
  | x :: r, i + 1, h => by
    have := enc2_get1 r i (by simpa using h)
    rw [show (i + 1) * 2 + 1 = i * 2 + 1 + 2 by omega]
    simpa [enc2, nth] using this
theorem enc2_oneCell : ∀ xs, ∀ u ∈ enc2 xs, u.oneCell' = true
  | [], u, h => by simp [enc2] at h
  | x :: r, u, h => by
    simp only [enc2, List.mem_cons] at h
    rcases h with rfl | rfl | h
    · rfl
    · rfl
    · exact enc2_oneCell r u h

/-- The value v owns the spans xs. -/
def Own (w : World) (v : Value) (xs : List (Int × Int)) : Prop := w.ownsRow 0 39 2 v xs.length (enc2 xs)
theorem Own.nil (w : World) : Own w (.slice none 0 0) [] := World.ownsRow_nil w 0 39 2
theorem Own.kept {w w' : World} {v : Value} {xs : List (Int × Int)} {row : Option Nat} (h : Own w v xs) (hg : w.grownBy w' row) (hne : v.ownBlock = none ∨ v.ownBlock ≠ row) : Own w' v xs := World.ownsRow.kept h hg hne
/-- .. it is kept where all lies as it lay. -/
theorem Own.later {w w' : World} {v : Value} {xs : List (Int × Int)} (h : Own w v xs) (hb : Below w.heap.size w w') : Own w' v xs :=
  h.kept (row := none) ⟨hb.os, hb.tape, hb.output, hb.size, fun k hk _ => hb.block k hk⟩ (by rcases hv : v.ownBlock with _ | k <;> simp)
theorem Own.lt {w : World} {v : Value} {xs : List (Int × Int)} (h : Own w v xs) (g : Nat) (hg : w.heap.size ≤ g) : v.ownBlock ≠ some g := fun e => by
  have := (World.ownsRow.lt h g e).2; omega
/-- .. and what is owned can be read. -/
theorem Own.sl {w : World} {v : Value} {xs : List (Int × Int)} (h : Own w v xs) (hf : ∀ x ∈ xs, Fit x) : ∃ a cap, v = .slice a xs.length cap ∧ Sl w a xs.length xs := by
  obtain ⟨hl, h2⟩ := id h
  rcases h2 with ⟨hv, hn⟩ | ⟨g, cap, cur, hv, hbg, hgg, hnc, hcm, hcs, htake⟩
  · have : xs = [] := List.eq_nil_of_length_eq_zero hn
    subst this
    exact ⟨none, 0, hv, rfl, by simp, hf, fun i hi => by simp at hi⟩
  · refine ⟨some ⟨g, 0, none⟩, cap, hv, rfl, Nat.le_trans hnc (by simpa [maxLen] using hcm), hf, fun i hi => ⟨g, 0, rfl, (Array.getElem?_eq_some_iff.1 hgg).1, ?_, ?_⟩⟩
    · have := World.ownsRow.cellAt (w := w) (base := 0) (e := 39) (size := 2) (g := g) (n := xs.length) (cap := cap) (xs := enc2 xs) (hv ▸ h) (i * 2) (by omega)
      rw [Nat.zero_add, this, enc2_get0 xs i hi]
    · have := World.ownsRow.cellAt (w := w) (base := 0) (e := 39) (size := 2) (g := g) (n := xs.length) (cap := cap) (xs := enc2 xs) (hv ▸ h) (i * 2 + 1) (by omega)
      rw [Nat.zero_add, this, enc2_get1 xs i hi]
/-- What one call's own memory grew by leaves the rest as it lay. -/
theorem grown_none {w w' : World} {v : Value} (hg : w.grownBy w' v.ownBlock) (hv : v.ownBlock = none) : Below w.heap.size w w' :=
  ⟨hg.os, hg.tape, hg.output, hg.size, fun k hk => hg.block k hk (by rw [hv]; simp)⟩
theorem gcell {w w' : World} {v : Value} (hg : w.grownBy w' v.ownBlock) {a : Addr} {u : Value} (h : w.cell? a = some u) (hne : v.ownBlock ≠ some a.block) : w'.cell? a = some u := hg.cell h (fun e => hne e.symm)
theorem below_grownBy {w w' : World} (hb : Below w.heap.size w w') (row : Option Nat) : w.grownBy w' row := ⟨hb.os, hb.tape, hb.output, hb.size, fun k hk _ => hb.block k hk⟩
theorem grownBy_trans {a b c : World} {v v' : Value} (h : a.grownBy b v.ownBlock) (h' : b.grownBy c v'.ownBlock) (hm : Moved a v v') : a.grownBy c v.ownBlock :=
  ⟨h'.os.trans h.os, h'.tape.trans h.tape, h'.output.trans h.output, Nat.le_trans h.size h'.size, fun k hk hne => by
    rw [h'.block k (Nat.lt_of_lt_of_le hk h.size) (fun e => ?_), h.block k hk hne]
    rcases hm with hm | hm
    · exact hne (e.trans hm)
    · have := hm k e.symm; omega⟩

set_option maxHeartbeats 1000000 in
theorem all_any (a : Option Addr) (n cap : Nat) (xs : List (Int × Int)) (w : World) (h : Sl w a n xs) :
    Calls Tryd.prog 24 #[.slice a n cap] w fun e w' => e = .returned (.bool (allB xs)) ∧ Below w.heap.size w w' := by
  have hn := h.most
  go_enter Tryd.func24, Tryd.ntmps24
  go_wp2
  go_loopw [3] (fun c wr => ∃ k : Nat, k ≤ n ∧ c = .int .i64 k ∧ (∀ j, j < k → mayB (nth xs j) = true) ∧ Below w.heap.size w wr) (fun c _ => n - (intOf c).toNat)
  case atStart => exact ⟨0, Nat.zero_le _, rfl, by intro j hj; omega, Below.refl _ _⟩
  case round =>
    obtain ⟨k, hk, rfl, hok, hb⟩ := hrel
    have hlen := h.len
    by_cases hlt : k < n
    · obtain ⟨b, off, rfl, hbl, c0, c1⟩ := (h.later hb).cells k (by omega)
      have hr := fun W => rmay_b (nth xs k) W (h.fit _ (nth_mem (k := k) (by omega)))
      cases hm : mayB (nth xs k) with
      | true =>
        have Hok := ext_lt hok hm
        rw [hm] at hr
        clear hok hlen h hm
        generalize nth xs k = x at c0 c1 hr
        go_wp2_with fail
        refine (hr _).mono ?_
        rintro e w1 ⟨rfl, hb1⟩
        go_wp2
        go_roundw
        case rel => exact ⟨k + 1, by omega, by go_num, Hok, hb.trans (hb1.mono hb.size)⟩
        case measure => simp [intOf]; omega
      | false =>
        have Hf : Hid (allB xs = false) := allB_no (k := k) (by omega) hm
        rw [hm] at hr
        clear hok hlen h hm
        generalize nth xs k = x at c0 c1 hr
        go_wp2_with fail
        refine (hr _).mono ?_
        rintro e w1 ⟨rfl, hb1⟩
        go_wp2
        go_ret
        exact ⟨ret_bool Hf.out.symm, hb.trans (hb1.mono hb.size)⟩
    · have Ht : Hid (allB xs = true) := allB_of fun j hj => hok j (by omega)
      clear hok hlen h
      go_wp2
      go_ret
      exact ⟨ret_bool Ht.out.symm, hb⟩

theorem same_false {xs ys : List (Int × Int)} {k : Nat} (_h1 : k < xs.length) (_h2 : k < ys.length) (h : ¬ nth xs k = nth ys k) : decide (xs = ys) = false := by
  simp only [decide_eq_false_iff_not]
  intro e
  subst e
  exact h rfl
theorem same_true {xs ys : List (Int × Int)} (hl : xs.length = ys.length) (h : ∀ k, k < xs.length → nth xs k = nth ys k) : decide (xs = ys) = true := by
  simp only [decide_eq_true_eq]
  refine List.ext_getElem hl fun k h1 h2 => ?_
  have := h k h1
  rwa [nth_eq h1, nth_eq h2] at this

set_option maxHeartbeats 1000000 in
theorem same_any (a b : Option Addr) (n m cap cap' : Nat) (xs ys : List (Int × Int)) (w : World) (hA : Sl w a n xs) (hB : Sl w b m ys) :
    Calls Tryd.prog 39 #[.slice a n cap, .slice b m cap'] w fun e w' => e = .returned (.bool (decide (xs = ys))) ∧ Below w.heap.size w w' := by
  have hn := hA.most
  have hn2 := hB.most
  by_cases hnm : n = m
  · have HL1 := hide hA.len
    have HL2 := hide hB.len
    subst hnm
    go_enter Tryd.func39, Tryd.ntmps39
    go_wp2
    go_loopw [5] (fun i wr => ∃ k : Nat, k ≤ n ∧ i = .int .i64 k ∧ (∀ j, j < k → nth xs j = nth ys j) ∧ Below w.heap.size w wr) (fun i _ => n - (intOf i).toNat)
    case atStart => exact ⟨0, Nat.zero_le _, rfl, by intro j hj; omega, Below.refl _ _⟩
    case round =>
      obtain ⟨k, hk, rfl, hok, hb⟩ := hrel
      by_cases hlt : k < n
      · obtain ⟨ba, offa, rfl, hbla, c0, c1⟩ := (hA.later hb).cells k (by have := HL1.out; omega)
        obtain ⟨bb, offb, rfl, hblb, d0, d1⟩ := (hB.later hb).cells k (by have := HL2.out; omega)
        have C0 := lcell hbla c0
        have C1 := lcell hbla c1
        have D0 := lcell hblb d0
        have D1 := lcell hblb d1
        have hne := later_ne wr
        have hgt : Tryd.prog.eqGuardType Tryd.prog.depth 27 = false := by kernel_rfl
        by_cases he : nth xs k = nth ys k
        · have Hok := hide (ext_lt hok he)
          rw [← he] at D0 D1
          clear hA hB hok he c0 c1 d0 d1
          generalize nth xs k = x at C0 C1 D0 D1
          go_wp2
          refine wp_region_later (by kernel_rfl) (by kernel_rfl) ?_
          (repeat (first | go_big_quiet_skip | (go_big_quiet_want; go_big_quiet_op; go_big_quiet_on)))
          refine wpQuiet_nil ?_
          rintro _ ⟨p, rfl⟩
          go_wp2
          go_roundw
          case rel => exact ⟨k + 1, by omega, by go_num, Hok.out, hb.trans (p.below.mono hb.size)⟩
          case measure => simp [intOf]; omega
        · have Hf := hide (same_false (by have := HL1.out; omega) (by have := HL2.out; omega) he)
          clear hA hB hok c0 c1 d0 d1
          generalize nth xs k = x at *
          generalize nth ys k = y at *
          by_cases h1 : x.1 = y.1
          · have h2 : ¬ x.2 = y.2 := fun h2 => he (Prod.ext h1 h2)
            clear he
            go_wp2
            refine wp_region_later (by kernel_rfl) (by kernel_rfl) ?_
            (repeat (first | go_big_quiet_skip | (go_big_quiet_want; go_big_quiet_op; go_big_quiet_on)))
            refine wpQuiet_nil ?_
            rintro _ ⟨p, rfl⟩
            go_wp2
            go_ret
            exact ⟨ret_bool Hf.out.symm, hb.trans (p.below.mono hb.size)⟩
          · clear he
            go_wp2
            refine wp_region_later (by kernel_rfl) (by kernel_rfl) ?_
            (repeat (first | go_big_quiet_skip | (go_big_quiet_want; go_big_quiet_op; go_big_quiet_on)))
            refine wpQuiet_nil ?_
            rintro _ ⟨p, rfl⟩
            go_wp2
            go_ret
            exact ⟨ret_bool Hf.out.symm, hb.trans (p.below.mono hb.size)⟩
      · have Ht := hide (same_true (xs := xs) (ys := ys) (by rw [← HL1.out, ← HL2.out]) fun j hj => hok j (by have := HL1.out; omega))
        clear hA hB hok
        go_wp2
        go_ret
        exact ⟨ret_bool Ht.out.symm, hb⟩
  · have Hf : Hid (decide (xs = ys) = false) := by
      show decide (xs = ys) = false
      simp only [decide_eq_false_iff_not]
      intro e
      apply hnm
      rw [hA.len, hB.len, e]
    have hd : ((n : Int) != (m : Int)) = true := by simp; omega
    clear hA hB
    go_enter Tryd.func39, Tryd.ntmps39
    go_wp2
    go_ret
    exact ⟨ret_bool Hf.out.symm, Below.refl _ _⟩

end Cr
end Go.Proofs.YtnpbgjafahhadaaDoor
