/- A part of the proofs about package wire: what its functions answer, call by call. -/
import Derived.Test.YtnpnghdjdelemaaWe
import Derived.OneCell
import Derived.Deep.RegionLawGrows
import Derived.Maps.AppendAt
namespace Go.Proofs.Ytnpnghdjdelemaa
open Go.RowKit
namespace Wi

/-- Nothing that lay has turned but blocks of X. -/
structure Keep (X : Nat → Prop) (w w' : World) : Prop where
  os : w'.os = w.os
  tape : w'.tape = w.tape
  output : w'.output = w.output
  size : w.heap.size ≤ w'.heap.size
  block : ∀ k, k < w.heap.size → ¬ X k → w'.heap[k]? = w.heap[k]?
theorem Keep.refl (X : Nat → Prop) (w : World) : Keep X w w := ⟨rfl, rfl, rfl, Nat.le_refl _, fun _ _ _ => rfl⟩
theorem Keep.of_below {X : Nat → Prop} {w w' : World} (h : Below w.heap.size w w') : Keep X w w' := ⟨h.os, h.tape, h.output, h.size, fun k hk _ => h.block k hk⟩
theorem Keep.trans {X Y : Nat → Prop} {w a b : World} (h : Keep X w a) (k : Keep Y a b) (hy : ∀ i, i < w.heap.size → Y i → X i) : Keep X w b :=
  ⟨k.os.trans h.os, k.tape.trans h.tape, k.output.trans h.output, Nat.le_trans h.size k.size, fun i hi hx => (k.block i (Nat.lt_of_lt_of_le hi h.size) fun y => hx (hy i hi y)).trans (h.block i hi hx)⟩
theorem Keep.below {X : Nat → Prop} {w w' : World} {B : Nat} (h : Keep X w w') (hB : B ≤ w.heap.size) (hx : ∀ k, k < B → ¬ X k) : Below B w w' :=
  ⟨h.os, h.tape, h.output, h.size, fun k hk => h.block k (Nat.lt_of_lt_of_le hk hB) (hx k hk)⟩
theorem Keep.grown {X : Nat → Prop} {w w' : World} {row : Option Nat} (h : w.grownBy w' row) (hx : ∀ k, row = some k → X k) : Keep X w w' :=
  ⟨h.os, h.tape, h.output, h.size, fun k hk hn => h.block k hk fun e => hn (hx k e.symm)⟩
theorem Keep.setCell {X : Nat → Prop} (w : World) (p : Addr) (u : Value) (hx : X p.block) : Keep X w (w.setCell p u) :=
  ⟨rfl, rfl, rfl, by simp [World.setCell], fun k _ hn => Below.heap_setCell _ _ _ _ fun e => hn (e ▸ hx)⟩
theorem Keep.drew {X : Nat → Prop} {w w' : World} (h : Keep X w w') : Keep X w w'.drew := ⟨h.os, h.tape, h.output, h.size, h.block⟩
theorem OwnB.keep {X : Nat → Prop} {w w' : World} {v : Value} {l : List Nat} (h : OwnB w v l) (k : Keep X w w') (hx : ∀ i, v.ownBlock = some i → ¬ X i) : OwnB w' v l := by
  refine ⟨h.1, ?_⟩
  rcases h.2 with hn | ⟨g, cap, cur, rfl, hb, hgg, rest⟩
  · exact .inl hn
  · refine .inr ⟨g, cap, cur, rfl, hb, ?_, rest⟩
    rw [k.block g (lt_of_block hgg) (hx g rfl)]
    exact hgg
theorem OwnB.lt {w : World} {v : Value} {l : List Nat} (h : OwnB w v l) : ∀ k, v.ownBlock = some k → k < w.heap.size := by
  intro k hk
  rcases h.2 with ⟨hv, _⟩ | ⟨g, cap, cur, rfl, hb, hgg, rest⟩
  · rw [hv] at hk; simp [Value.ownBlock] at hk
  · simp [Value.ownBlock] at hk; subst hk; exact lt_of_block hgg
/-- A writer lies in block b, with the slice v, of these bytes. -/
structure OutAt (w : World) (b : Nat) (v : Value) (l : List Nat) : Prop where
  blk : w.heap[b]? = some (.cells #[v] 27 (0, 0))
  own : OwnB w v l
  ne : v.ownBlock ≠ some b
theorem OutAt.lt {w : World} {b : Nat} {v : Value} {l : List Nat} (h : OutAt w b v l) : b < w.heap.size := lt_of_block h.blk
/-- What a writer's calls may turn. -/
def xOut (b : Nat) (v : Value) (k : Nat) : Prop := k = b ∨ v.ownBlock = some k
/-- Two writers share nothing. -/
def Far (b : Nat) (v : Value) (c : Nat) (u : Value) : Prop := b ≠ c ∧ v.ownBlock ≠ some c ∧ u.ownBlock ≠ some b ∧ ∀ k, v.ownBlock = some k → u.ownBlock ≠ some k
theorem Far.symm {b c : Nat} {v u : Value} (h : Far b v c u) : Far c u b v := ⟨h.1.symm, h.2.2.1, h.2.1, fun k hk e => h.2.2.2 k e hk⟩
theorem OutAt.keep {w w' : World} {b c : Nat} {v u : Value} {l : List Nat} (h : OutAt w c u l) (k : Keep (xOut b v) w w') (hf : Far b v c u) : OutAt w' c u l :=
  ⟨(k.block c h.lt fun e => e.elim (fun e => hf.1 e.symm) hf.2.1).trans h.blk, h.own.keep k fun i hi e => e.elim (fun e => hf.2.2.1 (e ▸ hi)) fun e => hf.2.2.2 i e hi, h.ne⟩
theorem OutAt.later {w w' : World} {b : Nat} {v : Value} {l : List Nat} (h : OutAt w b v l) (hb : Below w.heap.size w w') : OutAt w' b v l :=
  ⟨(hb.block b h.lt).trans h.blk, h.own.later hb, h.ne⟩
theorem Far.move {w : World} {b c : Nat} {v v' u : Value} {m : List Nat} (hf : Far b v c u) (hm : Moved w v v') (hc : OutAt w c u m) : Far b v' c u := by
  rcases hm with hm | hm
  · exact ⟨hf.1, by rw [hm]; exact hf.2.1, hf.2.2.1, by rw [hm]; exact hf.2.2.2⟩
  · exact ⟨hf.1, fun e => by have := hm c e; have := hc.lt; omega, hf.2.2.1, fun k hk e => by have := hm k hk; have := hc.own.lt k e; omega⟩
theorem OutAt.new (w : World) : OutAt (w.alloc (.cells #[.slice none 0 0] 27)) w.heap.size (.slice none 0 0) [] :=
  ⟨heap_alloc_new _ _, OwnB.nil _, by simp [Value.ownBlock]⟩
/-- What a call of a writer leaves: its bytes, and all else as it was. -/
structure Wrote (w : World) (b : Nat) (v : Value) (l : List Nat) (w' : World) (v' : Value) : Prop where
  out : OutAt w' b v' l
  keep : Keep (xOut b v) w w'
  moved : Moved w v v'
theorem Wrote.refl {w : World} {b : Nat} {v : Value} {l : List Nat} (h : OutAt w b v l) : Wrote w b v l w v := ⟨h, Keep.refl _ _, Moved.refl _ _⟩
theorem Wrote.trans {w w1 w2 : World} {b : Nat} {v v1 v2 : Value} {l m : List Nat} (h : Wrote w b v l w1 v1) (k : Wrote w1 b v1 m w2 v2) : Wrote w b v m w2 v2 :=
  ⟨k.out, h.keep.trans k.keep fun i hi e => by
    rcases e with e | e
    · exact .inl e
    · rcases h.moved with hm | hm
      · exact .inr (hm ▸ e)
      · have := hm i e; omega, h.moved.trans k.moved h.keep.size⟩
theorem Wrote.later {w w1 w2 : World} {b : Nat} {v v1 : Value} {l : List Nat} (h : Wrote w b v l w1 v1) (hb : Below w1.heap.size w1 w2) : Wrote w b v l w2 v1 :=
  h.trans ⟨h.out.later hb, Keep.of_below hb, Moved.refl _ _⟩
theorem Wrote.first {w w1 w2 : World} {b : Nat} {v v1 : Value} {l : List Nat} (hb : Below w.heap.size w w1) (h : Wrote w1 b v l w2 v1) : Wrote w b v l w2 v1 :=
  ⟨h.out, (Keep.of_below (X := xOut b v) hb).trans h.keep fun _ _ e => e, by
    rcases h.moved with hm | hm
    · exact .inl hm
    · exact .inr fun k hk => Nat.le_trans hb.size (hm k hk)⟩
theorem Wrote.below {w w' : World} {b B : Nat} {v v' : Value} {l : List Nat} (h : Wrote w b v l w' v') (hB : B ≤ w.heap.size) (hb : B ≤ b) (hv : From B v) : Below B w w' ∧ From B v' :=
  ⟨h.keep.below hB fun k hk e => e.elim (fun e => by omega) fun e => by have := hv k e; omega, hv.moved h.moved hB⟩
/-- One append through the pointer, and the store. -/
theorem wrote_append {w w1 w2 : World} {b : Nat} {v v' : Value} {l m : List Nat} (h : OutAt w b v l) (hb : Below w.heap.size w w1) (hown : OwnB w2 v' m) (hg : w1.grownBy w2 v.ownBlock) (hm : Moved w1 v v') :
    Wrote w b v m (w2.setCell ⟨b, 0, none⟩ v') v' := by
  have k1 : Keep (xOut b v) w w2 := (Keep.of_below (X := xOut b v) hb).trans (Keep.grown (X := xOut b v) hg fun k hk => .inr hk) fun _ _ e => e
  have hblk : w2.heap[b]? = some (.cells #[v] 27 (0, 0)) := by
    have hlt := Nat.lt_of_lt_of_le h.lt hb.size
    rw [hg.block b hlt fun e => h.ne e.symm, hb.block b h.lt]
    exact h.blk
  have hne : v'.ownBlock ≠ some b := by
    rcases hm with hm | hm
    · rw [hm]; exact h.ne
    · intro e
      have := hm b e
      have := Nat.lt_of_lt_of_le h.lt hb.size
      omega
  refine ⟨⟨one_setCell hblk, ownsRow_setCell_other hown hne _, hne⟩, k1.trans (Keep.setCell (X := xOut b v) w2 _ _ (.inl rfl)) fun _ _ e => e, ?_⟩
  rcases hm with hm | hm
  · exact .inl hm
  · exact .inr fun k hk => Nat.le_trans hb.size (hm k hk)
theorem step_append_moved {P : Program} {ops : Array Oper} {o : Oper} {a : Act} {w : World} {K : Act → World → Prop} {Q : Exit → Act → World → Prop} {E : Prop}
    (hg : o.guard = none) (s x : Operand) (t : TypeId) (hop : o.op = Op.call { callee := Callee.builtin Builtin.append, args := #[s, x], argTypes := #[t, t] })
    (e : TypeId) (i : TypeInfo) (z : Value) (size bytes : Nat) (ht : P.underlying t = some (.slice e)) (hi : P.info? e = some i) (hz : i.zero = some z)
    (hsize : i.size = size) (hby : i.bytes = bytes) (hzs : z.cells.size = size) (hsz : 0 < size)
    (v : Value) (n : Nat) (xs : List Value) (hs : a.eval s = v) (hown : w.ownsRow 0 e size v n xs)
    (ad : Addr) (m c : Nat) (news : List Value) (hx : a.eval x = .slice (some ad) m c) (hl : news.length = m * size) (hnews : ∀ j u, news[j]? = some u → w.cell? (ad.add j) = some u) (h1 : ∀ u ∈ news, u.oneCell' = true)
    (h63 : n + m ≤ maxLen) (hbytes : (n + m) * bytes ≤ 140737488355328)
    (hK : ∀ v' w', w'.ownsRow 0 e size v' (n + m) (xs ++ news) → w.grownBy w' v.ownBlock → Moved w v v' → K (a.put o.dst v') w') :
    if Region.wanted o (yielded ops a.tmps) = true then Oper.wp P o a w K Q else E := by
  have hw : Region.wanted o (yielded ops a.tmps) = true := by simp [Region.wanted, hg]
  rw [if_pos hw]
  obtain ⟨v', w', hrun, r1, r2, r3⟩ := run_append_moved (P := P) (w := w) t o.type e i z size bytes ht hi hz hsize hby hzs hsz v n xs hown ad m c news hl hnews h1 h63 hbytes
  unfold Oper.wp
  simp [execOp, hop, resolve, invoke, builtin, hs, hx, hrun, Result.andThen]
  exact hK v' w' r1 r2 r3
theorem cell_one_drew (w : World) (x : Value) (t : TypeId) : ∀ j u, [x][j]? = some u → (w.alloc (.cells #[x] t)).drew.cell? ((⟨w.heap.size, 0, none⟩ : Addr).add j) = some u := by
  intro j u h
  rw [← cell_one_new w x t j u h]
  rfl
theorem cell_grown {w w2 : World} {o : Obj} {b : Nat} {v u : Value} (h : w.cell? ⟨b, 0, none⟩ = some u) (hb : b < w.heap.size) (hne : v.ownBlock ≠ some b) (hg : (w.alloc o).drew.grownBy w2 v.ownBlock) : w2.cell? ⟨b, 0, none⟩ = some u := by
  rw [← h, World.cell?_of_block (w := (w.alloc o).drew) (hg.block b (by show b < (w.alloc o).heap.size; simp; omega) fun e => hne e.symm)]
  exact (below_alloc w o).cell hb
theorem free_grown {w w2 : World} {o : Obj} {b : Nat} {v : Value} (h : w.frozen? ⟨b, 0, none⟩ = false) (hb : b < w.heap.size) (hne : v.ownBlock ≠ some b) (hg : (w.alloc o).drew.grownBy w2 v.ownBlock) : w2.frozen? ⟨b, 0, none⟩ = false := by
  rw [← h, World.frozen?_of_block (w := (w.alloc o).drew) (hg.block b (by show b < (w.alloc o).heap.size; simp; omega) fun e => hne e.symm)]
  exact (below_alloc w o).frozen hb
theorem be_get (x : Nat) : ∀ n i, i < n → (be x n)[i]? = some (x / 256 ^ (n - 1 - i) % 256)
  | 0, _, h => by omega
  | n + 1, i, h => by
    cases i with
    | zero => simp [be]
    | succ i =>
      rw [be, List.getElem?_cons_succ, be_get x n i (by omega)]
      congr 4
      omega
theorem be_take {x n j : Nat} (h : j < n) : (be x n).take (n - (j + 1)) ++ [x / 256 ^ j % 256] = (be x n).take (n - j) := by
  have hg := be_get x n (n - (j + 1)) (by omega)
  rw [show n - 1 - (n - (j + 1)) = j by omega] at hg
  rw [← snoc_take _ _ _ hg]
  congr 1
  omega
theorem low_byte (x j : Nat) : (x : Int) / 2 ^ (8 * j) % 256 = ((x / 256 ^ j % 256 : Nat) : Int) := by
  rw [show (256 : Nat) ^ j = 2 ^ (8 * j) by rw [Nat.pow_mul]]
  rw [Int.natCast_emod, Int.natCast_ediv, Int.natCast_pow]
  rfl
theorem wrap8 {j : Nat} (h : j < 9) : IntKind.i64.wrap (8 * (j : Int)) = 8 * (j : Int) := by
  simp [IntKind.wrap, IntKind.bits, IntKind.signed]
  omega
theorem low_byte2 (x j : Nat) : IntKind.u8.wrap ((x : Int) / 2 ^ (8 * (j : Int)).toNat) = ((x / 256 ^ j % 256 : Nat) : Int) := by
  rw [show (8 * (j : Int)).toNat = 8 * j by omega, ← low_byte]
  simp [IntKind.wrap, IntKind.bits, IntKind.signed]
theorem OwnB.push {w : World} {v : Value} {L : List Nat} {Z : Int} {Y : Nat} (h : w.ownsRow 0 5 1 v (L.length + 1) (encB L ++ [.int .u8 Z])) (e : Z = (Y : Int)) : OwnB w v (L ++ [Y]) := by
  subst e
  unfold OwnB
  rw [encB_append, List.length_append]
  exact h
theorem own_form {w : World} {v : Value} {e : TypeId} {size n : Nat} {xs : List Value} (h : w.ownsRow 0 e size v n xs) : ∃ a m c, v = .slice a m c := by
  rcases h.2 with ⟨hv, _⟩ | ⟨g, cap, cur, hv, _⟩
  · exact ⟨_, _, _, hv⟩
  · exact ⟨_, _, _, hv⟩
set_option maxHeartbeats 2000000 in
theorem low_any (b : Nat) (v : Value) (l : List Nat) (x n : Nat) (_hx : x < 18446744073709551616) (hn : n ≤ 8) (w : World) (h : OutAt w b v l) (hl : l.length ≤ 1000000000) :
    Calls Try.prog 46 #[.pointer (some ⟨b, 0, none⟩), .int .u64 (x : Nat), .int .i64 (n : Nat)] w fun e w' => e = .returned (.tuple #[]) ∧ ∃ v', Wrote w b v (l ++ be x n) w' v' := by
  obtain ⟨i0, hi, hz0, hz1, hz2⟩ := info_parts info5
  go_enter Try.func46, Try.ntmps46
  go_wp2
  go_loopw [2] (fun i wr => ∃ (k : Nat) (z : Int), k ≤ n ∧ i = .int .i64 z ∧ z = (k : Int) - 1 ∧ ∃ v', Wrote w b v (l ++ (be x n).take (n - k)) wr v') (fun i _ => (intOf i + 1).toNat)
  case atStart => exact ⟨n, _, Nat.le_refl _, rfl, by go_num, v, by rw [Nat.sub_self, List.take_zero, List.append_nil]; exact Wrote.refl h⟩
  case round =>
    obtain ⟨k, z, hk, rfl, hz, v', hwr⟩ := hrel
    by_cases hz0' : 0 ≤ z
    · obtain ⟨j, rfl⟩ := Int.eq_ofNat_of_zero_le hz0'
      obtain rfl : k = j + 1 := by omega
      have HT : Hid ((l ++ (be x n).take (n - (j + 1))) ++ [x / 256 ^ j % 256] = l ++ (be x n).take (n - j)) := by
        show _ = _
        rw [List.append_assoc, be_take (by omega)]
      have EB := hide (low_byte2 x j)
      have cB := cell_of_one hwr.out.blk
      have fB := free_of_one hwr.out.blk
      have lB := hwr.out.lt
      have nB := hwr.out.ne
      have hll : (l ++ (be x n).take (n - (j + 1))).length ≤ 1000000008 := by rw [List.length_append, List.length_take]; omega
      generalize l ++ (be x n).take (n - (j + 1)) = L at *
      generalize x / 256 ^ j % 256 = Y at *
      clear hz hz0'
      have hj7 : j < 8 := by omega
      have e8 : IntKind.i64.wrap (8 * (j : Int)) = 8 * (j : Int) := wrap8 (by omega)
      have e9 : 0 ≤ 8 * (j : Int) := by omega
      have e10 : 8 * (j : Int) < 64 := by omega
      go_wp2
      go_region_law (refine step_append_moved rfl (.tmp 16) (.tmp 22) 25 rfl 5 i0 _ 1 1 Try.underlying25 hi hz0 hz1 hz2 rfl (by decide) _ _ _ (by simp [Act.eval]) (hwr.out.own.later (below_alloc _ _).drew) ⟨wr.heap.size, 0, none⟩ 1 1 [.int .u8 (IntKind.u8.wrap ((x : Int) / 2 ^ (8 * (j : Int)).toNat))] (by simp [Act.eval]) rfl (cell_one_drew _ _ _) (one_oneCell _ _) (by unfold maxLen; omega) (by omega) ?_; intro v2 w2 g1 g2 g3; obtain ⟨a2, n2, c2, rfl⟩ := own_form g1; have cB2 := cell_grown cB lB nB g2; have fB2 := free_grown fB lB nB g2; replace g1 := hide (OwnB.push g1 EB.out); replace g2 := hide g2; replace g3 := hide g3)
      all_goals
        have HW := hide (hwr.trans (wrote_append hwr.out (below_alloc _ _).drew g1.out g2.out g3.out))
        clear g1 g2 g3
        go_wp2
        go_roundw
        case rel => exact ⟨j, _, by omega, rfl, by go_num, _, by rw [← HT.out]; exact HW.out⟩
        case measure => simp [intOf]
    · obtain rfl : k = 0 := by omega
      have HT : Hid ((be x n).take (n - 0) = be x n) := List.take_of_length_le (by rw [be_length]; omega)
      rw [HT.out] at hwr
      go_wp2
      go_end0
      exact ⟨rfl, v', hwr⟩

end Wi
end Go.Proofs.Ytnpnghdjdelemaa
