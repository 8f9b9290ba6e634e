/- A part of the proofs about package ssd: what its functions answer, call by call. -/
import Derived.Test.YtdcnjaomocehmaaWl
import Derived.Lib.LazyBuf
namespace Go.Proofs.Ytdcnjaomocehmaa
open Go.RowKit
namespace Wi

theorem cells_new (w : World) (l : List Value) (t : TypeId) : ∀ j u, l[j]? = some u → (w.alloc (.cells l.toArray t)).drew.cell? ((⟨w.heap.size, 0, none⟩ : Addr).add j) = some u := by
  intro j u h
  rw [Addr.add_mid, Nat.zero_add]
  show (w.alloc (.cells l.toArray t)).cell? ⟨w.heap.size, j, none⟩ = some u
  rw [cell_of_row _ _ _ _ _ _ (heap_alloc_new w _)]
  simpa using h
theorem cell_grown {w w2 : World} {o : Obj} {b i : Nat} {v u : Value} (h : w.cell? ⟨b, i, none⟩ = some u) (hb : b < w.heap.size) (hne : v.ownBlock ≠ some b) (hg : (w.alloc o).drew.grownBy w2 v.ownBlock) : w2.cell? ⟨b, i, none⟩ = some u := by
  rw [← h, World.cell?_of_block (w := (w.alloc o).drew) (hg.block b (by show b < (w.alloc o).heap.size; simp; omega) fun e => hne e.symm)]
  exact (below_alloc w o).cell hb
theorem free_grown {w w2 : World} {o : Obj} {b i : Nat} {v : Value} (h : w.frozen? ⟨b, i, none⟩ = false) (hb : b < w.heap.size) (hne : v.ownBlock ≠ some b) (hg : (w.alloc o).drew.grownBy w2 v.ownBlock) : w2.frozen? ⟨b, i, none⟩ = false := by
  rw [← h, World.frozen?_of_block (w := (w.alloc o).drew) (hg.block b (by show b < (w.alloc o).heap.size; simp; omega) fun e => hne e.symm)]
  exact (below_alloc w o).frozen hb
theorem encL_snoc (l : List (Nat × List Nat)) (p : Nat × List Nat) : encL (l ++ [p]) = encL l ++ encC p := by simp [encL]
/-- A change more, and the store of the slice. -/
theorem Raw.push {w w1 w2 : World} {b : Nat} {sv pv v2 : Value} {z : Int} {g : Bool} {cur : List (List Nat)} {log : List (Nat × List Nat)} {p : Nat × List Nat} (h : Raw w b sv pv z g cur log) (hb : Below w.heap.size w w1)
    (g1 : w2.ownsRow 0 69 65 v2 (log.length + 1) (encL log ++ encC p)) (g2 : w1.grownBy w2 pv.ownBlock) (g3 : Moved w1 pv v2) (hp : p.1 < cur.length ∧ p.2.length = 64) :
    Raw (w2.setCell ⟨b, 1, none⟩ v2) b sv v2 z g cur (log ++ [p]) ∧ Keep (xDev b sv pv) w (w2.setCell ⟨b, 1, none⟩ v2) ∧ Moved w pv v2 := by
  have hlt := Nat.lt_of_lt_of_le h.lt hb.size
  have k1 : Keep (fun k => pv.ownBlock = some k) w w2 := (Keep.of_below (X := fun k => pv.ownBlock = some k) hb).trans (Keep.grown (X := fun k => pv.ownBlock = some k) g2 fun _ e => e) fun _ _ e => e
  have hblk := (k1.block b h.lt h.np).trans h.blk
  have hsec := row_keep h.sec k1 fun i hi e => h.nn i hi e
  have hm : Moved w pv v2 := g3.imp id fun hf k hk => Nat.le_trans hb.size (hf k hk)
  have hne : v2.ownBlock ≠ some b := apart_moved h.np g3 hlt
  refine ⟨⟨setCell_blk hblk _, ownsRow_setCell_other hsec h.ns _, ?_, h.whole, ?_, h.ns, hne, ?_, h.most⟩, ?_, hm⟩
  · rw [encL_snoc, List.length_append]
    exact ownsRow_setCell_other g1 hne _
  · intro q hq
    rcases List.mem_append.1 hq with hq | hq
    · exact h.lwhole q hq
    · rw [List.mem_singleton.1 hq]; exact hp
  · intro k hk
    exact apart_moved (h.nn k hk) hm (h.sec.lt k hk).2
  · refine Keep.trans (X := xDev b sv pv) ⟨k1.os, k1.tape, k1.output, k1.size, fun k hk hn => k1.block k hk fun e => hn (.inr (.inr e))⟩ (Keep.setCell (X := xDev b sv pv) w2 _ _ (.inl rfl)) fun _ _ e => e
theorem run_copy_str64 (w : World) (ty : TypeId) (g o cap : Nat) (s : ByteArray) (h64 : 64 ≤ s.size) (hth : w.there g o 64) :
    (Builtin.copy_ #[41, 9] ty #[.slice (some ⟨g, o, none⟩) 64 cap, .string s]).run Try.prog w = .ok (goInt 64) (w.setCells g o (encB ((bs s).take 64))) := by
  obtain ⟨i0, hi, hz0, hz1, hz2⟩ := info_parts info5
  have hl : (encB ((bs s).take 64)).length = 64 := by rw [encB_length, List.length_take, bs_length]; omega
  have hst := run_storeCells_cells (P := Try.prog) g o (encB ((bs s).take 64)) 0 w (fun j hj => by simpa using (hth j (by omega)).1) (fun j hj => by simpa using (hth j (by omega)).2) (encB_oneCell _)
  have hmin : Nat.min s.size 64 = 64 := Nat.min_eq_right h64
  have hc : ((s.extract 0 64).data.map fun b => Value.int .u8 b.toNat).toList = encB ((bs s).take 64) := by
    simp [encB, bs, ByteArray.data_extract, List.map_take, Function.comp_def]
  simp [Builtin.copy_, run_underlying Try.underlying41, Builtin.lenOf, Builtin.firstCells, sizeOf, typeInfo, hi, hz1, hmin] at *
  rw [hc, hst]
  rfl
theorem wpList_copy_str64 {ops : Array Oper} {rest : List Oper} {op : Oper} {a : Act} {w : World} {Q : Exit → Act → World → Prop} (hgd : op.guard = none) (x y : Operand) (ho : op.op = .call { callee := .builtin .copy, args := #[x, y], argTypes := #[41, 9] })
    (g o cap : Nat) (s : ByteArray) (hd : a.eval x = .slice (some ⟨g, o, none⟩) 64 cap) (hs : a.eval y = .string s) (h64 : 64 ≤ s.size) (hth : w.there g o 64)
    (h : wpList Try.prog ops Q rest (a.put op.dst (goInt 64)) (w.setCells g o (encB ((bs s).take 64)))) : wpList Try.prog ops Q (op :: rest) a w := by
  refine wpList_plain hgd fun K hK => ?_
  have hrun := run_copy_str64 w op.type g o cap s h64 hth
  unfold Oper.wp
  simp [execOp, ho, resolve, invoke, builtin, hd, hs, hrun, Result.andThen]
  exact hK _ _ h
/-- The device as a write goes on: k sectors are written. -/
structure Wr (w : World) (b : Nat) (sv pv : Value) (z : Int) (d : Dv) (A : Nat) (data : List Nat) (k : Nat) (wr : World) (pv' : Value) : Prop where
  raw : Raw wr b sv pv' z d.gone (settle d.last (d.pend ++ puts A data k)) (logOf d.last (d.pend ++ puts A data k))
  keep : Keep (xDev b sv pv) w wr
  moved : Moved w pv pv'
theorem cut64 {s : ByteArray} {k : Nat} (h : 64 ≤ s.size - k * 64) : (bs (s.extract (k * 64) s.size)).take 64 = ((bs s).drop (64 * k)).take 64 := by
  rw [bs_cut, List.take_take, Nat.min_eq_left h, Nat.mul_comm]
theorem Wr.next {w wr w3 : World} {b : Nat} {sv pv pv' v2 : Value} {z : Int} {d : Dv} {A k : Nat} {data S X : List Nat} (h : Wr w b sv pv z d A data k wr pv') (hS : (settle d.last (d.pend ++ puts A data k)).getD (A + k) [] = S) (hX : X = (data.drop (64 * k)).take 64)
    (R : Raw w3 b sv v2 z d.gone ((settle d.last (d.pend ++ puts A data k)).set (A + k) X) (logOf d.last (d.pend ++ puts A data k) ++ [(A + k, S)])) (K : Keep (xDev b sv pv') wr w3) (M : Moved wr pv' v2) : Wr w b sv pv z d A data (k + 1) w3 v2 := by
  refine ⟨?_, h.keep.trans K fun i hi e => ?_, h.moved.trans M h.keep.size⟩
  · rw [puts_snoc, ← List.append_assoc, settle_snoc, logOf_snoc, ← hX, hS]
    exact R
  · rcases e with e | e | e
    · exact .inl e
    · exact .inr (.inl e)
    · rcases h.moved with hm | hm
      · exact .inr (.inr (hm ▸ e))
      · have := hm i e; omega
set_option maxHeartbeats 4000000 in
theorem write_ok {w : World} {b : Nat} {X : Nat → Prop} {d : Dv} (h : Dev w b X d) (A : Nat) (s : ByteArray) (n : Nat) (hn : 64 * n = s.size) (hA : A + n ≤ d.last.length) (hp : d.pend.length + n ≤ 1000000000) (hd : d.dead = false) :
    Calls Try.prog 18 #[.pointer (some ⟨b, 0, none⟩), .int .i64 (A : Nat), .string s] w fun e w' => e = .returned (.int .i64 0) ∧ Left w b X { d.tick with pend := d.pend ++ puts A (bs s) n } w' := by
  obtain ⟨sv, pv, z, h, rfl⟩ := h
  obtain ⟨i0, z0, hi, hz0, hzs, hz1, hz2⟩ := info_big info69
  have hm := h.ok.most
  have htk := turn_ok h hd
  go_enter Try.func18, Try.ntmps18
  go_wp2_with fail
  refine htk.mono ?_
  rintro e w1 ⟨rfl, ⟨z', h'⟩, hk1⟩
  clear htk
  have hf := fits_any h'.raw (A : Int) (n : Int) (by omega) (by omega)
  rw [d.tick.now_length, show d.tick.last.length = d.last.length from rfl, decide_eq_true (by omega)] at hf
  have hq : (s.size : Int) / 64 = (n : Int) := by omega
  have hq2 : (s.size : Int).tdiv 64 = (n : Int) := by rw [Int.tdiv_eq_ediv_of_nonneg (by omega)]; exact hq
  go_wp2_with fail
  refine hf.mono ?_
  rintro e w' ⟨rfl, rfl⟩
  clear hf hq hq2
  have h1w : 64 * n = s.size := hn
  have HN := hide hn
  clear hn h1w
  go_wp2
  go_loopw [35] (fun i wr => ∃ k : Nat, k ≤ n ∧ i = .int .i64 k ∧ ∃ pv', Wr w' b sv pv z' d A (bs s) k wr pv') (fun i _ => n - (intOf i).toNat)
  case atStart => exact ⟨0, Nat.zero_le _, rfl, pv, by simp only [puts, List.append_nil]; exact h'.raw, Keep.refl _ _, Moved.refl _ _⟩
  case round =>
    obtain ⟨k, hk, rfl, pv', hw⟩ := hrel
    by_cases hlt : k < n
    · have hcl : (settle d.last (d.pend ++ puts A (bs s) k)).length = d.last.length := settle_length _ _
      have hS : (settle d.last (d.pend ++ puts A (bs s) k))[A + k]? = some ((settle d.last (d.pend ++ puts A (bs s) k)).getD (A + k) []) := by
        rw [List.getD, List.getElem?_eq_getElem (by omega)]; rfl
      have hSl := hw.raw.whole _ (List.mem_of_getElem? hS)
      have hll : (logOf d.last (d.pend ++ puts A (bs s) k)).length = d.pend.length + k := by rw [logOf_length, List.length_append, puts_length]
      obtain ⟨gs, cap, hsv, hgs⟩ := row_form hw.raw.sec (by omega)
      obtain ⟨hrg, hth⟩ := hw.raw.sector hsv hS
      obtain ⟨c0, c1, c2, c3⟩ := hw.raw.c
      rw [hsv, hcl] at c0
      obtain ⟨ap, cp, hpv⟩ := row_slice hw.raw.chg
      rw [hpv, hll] at c1
      have f1 := hw.raw.fr 1
      have lB := hw.raw.lt
      have nB := hw.raw.np
      have hbd := build_change (A + k) _ hSl
      have hbs := slice_change (A + k) _ hSl
      have hLen : 64 ≤ s.size - k * 64 := by have := HN.out; omega
      have hlt2 : k * 64 ≤ s.size := by omega
      have eA : IntKind.i64.wrap ((A : Int) + (k : Int)) = (A : Int) + (k : Int) := by simp [IntKind.wrap, IntKind.bits, IntKind.signed]; omega
      have HC := hide hw.raw.chg
      have hix : 0 ≤ (A : Int) + (k : Int) ∧ (A : Int) + (k : Int) < (d.last.length : Int) := by omega
      have hAk : ((A : Int) + (k : Int)).toNat = A + k := by omega
      have HG := hide hrg
      have HTh := hide hth
      have hlS : (Try.prog.info? 66).map (·.size) = some (encB ((settle d.last (d.pend ++ puts A (bs s) k)).getD (A + k) [])).length := by rw [encB_length, hSl]; exact size66
      have c0' : ∀ p : Later wr, p.val.cell? ⟨b, 0, none⟩ = some (.slice (some ⟨gs, 0, none⟩) d.last.length cap) := fun p => (p.below.cell lB).trans c0
      have c1' : ∀ p : Later wr, p.val.cell? ⟨b, 1, none⟩ = some (.slice ap (d.pend.length + k) cp) := fun p => (p.below.cell lB).trans c1
      have hne := later_ne wr
      clear hrg hth hS c2 c3
      generalize hSS : (settle d.last (d.pend ++ puts A (bs s) k)).getD (A + k) [] = S at *
      have HSS := hide hSS
      clear hSS
      go_wp2
      refine wp_region_any (by kernel_rfl) ?_
      change wpAny _ _ _ _ _ #[false, false, false, false, false, false, false, false, false, false, false, false, false, false, false, false, false, false, false, false, false, false, false] _ (World.drew _)
      refine takeX (i := 0) (some 38) (.pointer (some ⟨b, 0, none⟩)) rfl (by kernel_rfl) (by kernel_rfl) (by kernel_rfl) rfl rfl (by intro w; first | rfl | go_simp) (fun _ _ _ h => h) ?_
      simp only [Act.put, List.setIfInBounds_toArray, List.set_cons_zero, List.set_cons_succ]
      refine takeX (i := 1) (some 39) (.pointer (some ⟨b, 0, none⟩)) rfl (by kernel_rfl) (by kernel_rfl) (by kernel_rfl) rfl rfl (by intro w; first | rfl | go_simp) (fun _ _ _ h => h) ?_
      simp only [Act.put, List.setIfInBounds_toArray, List.set_cons_zero, List.set_cons_succ]
      refine takeX (i := 2) (some 40) (.pointer (some ⟨b, 0, none⟩)) rfl (by kernel_rfl) (by kernel_rfl) (by kernel_rfl) rfl rfl (by intro w; first | rfl | go_simp) (fun _ _ _ h => h) ?_
      simp only [Act.put, List.setIfInBounds_toArray, List.set_cons_zero, List.set_cons_succ]
      refine takeX (i := 3) (some 41) (.pointer (some ⟨b, 1, none⟩)) rfl (by kernel_rfl) (by kernel_rfl) (by kernel_rfl) rfl rfl (by intro w; first | rfl | go_simp) (fun _ _ _ h => h) ?_
      simp only [Act.put, List.setIfInBounds_toArray, List.set_cons_zero, List.set_cons_succ]
      refine takeX (i := 5) (some 43) (.int .i64 (A : Int)) rfl (by kernel_rfl) (by kernel_rfl) (by kernel_rfl) rfl rfl (by intro w; first | rfl | go_simp) (fun _ _ _ h => h) ?_
      simp only [Act.put, List.setIfInBounds_toArray, List.set_cons_zero, List.set_cons_succ]
      refine takeX (i := 6) (some 44) (.int .i64 (k : Int)) rfl (by kernel_rfl) (by kernel_rfl) (by kernel_rfl) rfl rfl (by intro w; first | rfl | go_simp) (fun _ _ _ h => h) ?_
      simp only [Act.put, List.setIfInBounds_toArray, List.set_cons_zero, List.set_cons_succ]
      refine takeX (i := 7) (some 45) (.int .i64 ((A : Int) + (k : Int))) rfl (by kernel_rfl) (by kernel_rfl) (by kernel_rfl) rfl rfl (by intro w; first | rfl | go_simp) (fun _ _ _ h => h) ?_
      simp only [Act.put, List.setIfInBounds_toArray, List.set_cons_zero, List.set_cons_succ]
      refine takeX (i := 8) (some 46) (.pointer (some ⟨b, 0, none⟩)) rfl (by kernel_rfl) (by kernel_rfl) (by kernel_rfl) rfl rfl (by intro w; first | rfl | go_simp) (fun _ _ _ h => h) ?_
      simp only [Act.put, List.setIfInBounds_toArray, List.set_cons_zero, List.set_cons_succ]
      refine takeX (i := 9) (some 47) (.pointer (some ⟨b, 0, none⟩)) rfl (by kernel_rfl) (by kernel_rfl) (by kernel_rfl) rfl rfl (by intro w; first | rfl | go_simp) (fun _ _ _ h => h) ?_
      simp only [Act.put, List.setIfInBounds_toArray, List.set_cons_zero, List.set_cons_succ]
      refine takeX (i := 10) (some 48) (.pointer (some ⟨b, 0, none⟩)) rfl (by kernel_rfl) (by kernel_rfl) (by kernel_rfl) rfl rfl (by intro w; first | rfl | go_simp) (fun _ _ _ h => h) ?_
      simp only [Act.put, List.setIfInBounds_toArray, List.set_cons_zero, List.set_cons_succ]
      refine takeX (i := 12) (some 50) (.int .i64 (A : Int)) rfl (by kernel_rfl) (by kernel_rfl) (by kernel_rfl) rfl rfl (by intro w; first | rfl | go_simp) (fun _ _ _ h => h) ?_
      simp only [Act.put, List.setIfInBounds_toArray, List.set_cons_zero, List.set_cons_succ]
      refine takeX (i := 13) (some 51) (.int .i64 (k : Int)) rfl (by kernel_rfl) (by kernel_rfl) (by kernel_rfl) rfl rfl (by intro w; first | rfl | go_simp) (fun _ _ _ h => h) ?_
      simp only [Act.put, List.setIfInBounds_toArray, List.set_cons_zero, List.set_cons_succ]
      refine takeX (i := 14) (some 52) (.int .i64 ((A : Int) + (k : Int))) rfl (by kernel_rfl) (by kernel_rfl) (by kernel_rfl) rfl rfl (by intro w; first | rfl | go_simp) (fun _ _ _ h => h) ?_
      simp only [Act.put, List.setIfInBounds_toArray, List.set_cons_zero, List.set_cons_succ]
      refine join (G := ?G) (fun key => ?main) ?keyp
      case main =>
        refine twoX (i := 4) (j := 11) (by kernel_rfl) ?_ ?_
        · refine opX (some 42) (.slice ap (d.pend.length + k) cp) rfl rfl rfl (by first | rfl | (go_simp; done) | (go_simp; rfl)) ?_
          simp only [Act.put, List.setIfInBounds_toArray, List.set_cons_zero, List.set_cons_succ]
          refine oneX (i := 11) (some 49) (.slice (some ⟨gs, 0, none⟩) d.last.length cap) (by kernel_rfl) rfl rfl rfl (by first | rfl | (go_simp; done) | (go_simp; rfl)) ?_
          simp only [Act.put, List.setIfInBounds_toArray, List.set_cons_zero, List.set_cons_succ]
          refine takeX (i := 15) (some 53) (.pointer (some ⟨gs, (A + k) * 64, none⟩)) rfl (by kernel_rfl) (by kernel_rfl) (by kernel_rfl) rfl rfl (by intro w; first | rfl | go_simp) (fun _ _ _ h => h) ?_
          simp only [Act.put, List.setIfInBounds_toArray, List.set_cons_zero, List.set_cons_succ]
          refine oneX (i := 16) (some 54) (.agg (encB S).toArray) (by kernel_rfl) rfl rfl rfl (by exact exec_load 66 (.tmp 53) rfl gs ((A + k) * 64) rfl (encB S) _ HG.out Try.underlying66 rfl hlS) ?_
          simp only [Act.put, List.setIfInBounds_toArray, List.set_cons_zero, List.set_cons_succ]
          refine takeX (i := 17) (some 55) (.agg (encC (A + k, S)).toArray) rfl (by kernel_rfl) (by kernel_rfl) (by kernel_rfl) rfl rfl (by intro w; exact exec_build 69 (.tmp 45) (.tmp 54) rfl _ _ _ rfl rfl (hbd w)) (fun _ _ _ h => h) ?_
          simp only [Act.put, List.setIfInBounds_toArray, List.set_cons_zero, List.set_cons_succ]
          refine oneX (i := 18) (some 56) (.slice (some ⟨wr.heap.size, 0, none⟩) 1 1) (by kernel_rfl) rfl rfl rfl (by exact exec_slice1 56 1 (.tmp 55) rfl _ _ rfl (hbs wr.drew)) ?_
          simp only [Act.put, List.setIfInBounds_toArray, List.set_cons_zero, List.set_cons_succ]
          exact key
        · refine opX (some 49) (.slice (some ⟨gs, 0, none⟩) d.last.length cap) rfl rfl rfl (by first | rfl | (go_simp; done) | (go_simp; rfl)) ?_
          simp only [Act.put, List.setIfInBounds_toArray, List.set_cons_zero, List.set_cons_succ]
          refine takeX (i := 15) (some 53) (.pointer (some ⟨gs, (A + k) * 64, none⟩)) rfl (by kernel_rfl) (by kernel_rfl) (by kernel_rfl) rfl rfl (by intro w; first | rfl | go_simp) (fun _ _ _ h => h) ?_
          simp only [Act.put, List.setIfInBounds_toArray, List.set_cons_zero, List.set_cons_succ]
          refine twoX (i := 4) (j := 16) (by kernel_rfl) ?_ ?_
          · refine opX (some 42) (.slice ap (d.pend.length + k) cp) rfl rfl rfl (by first | rfl | (go_simp; done) | (go_simp; rfl)) ?_
            simp only [Act.put, List.setIfInBounds_toArray, List.set_cons_zero, List.set_cons_succ]
            refine oneX (i := 16) (some 54) (.agg (encB S).toArray) (by kernel_rfl) rfl rfl rfl (by exact exec_load 66 (.tmp 53) rfl gs ((A + k) * 64) rfl (encB S) _ HG.out Try.underlying66 rfl hlS) ?_
            simp only [Act.put, List.setIfInBounds_toArray, List.set_cons_zero, List.set_cons_succ]
            refine takeX (i := 17) (some 55) (.agg (encC (A + k, S)).toArray) rfl (by kernel_rfl) (by kernel_rfl) (by kernel_rfl) rfl rfl (by intro w; exact exec_build 69 (.tmp 45) (.tmp 54) rfl _ _ _ rfl rfl (hbd w)) (fun _ _ _ h => h) ?_
            simp only [Act.put, List.setIfInBounds_toArray, List.set_cons_zero, List.set_cons_succ]
            refine oneX (i := 18) (some 56) (.slice (some ⟨wr.heap.size, 0, none⟩) 1 1) (by kernel_rfl) rfl rfl rfl (by exact exec_slice1 56 1 (.tmp 55) rfl _ _ rfl (hbs wr.drew)) ?_
            simp only [Act.put, List.setIfInBounds_toArray, List.set_cons_zero, List.set_cons_succ]
            exact key
          · refine opX (some 54) (.agg (encB S).toArray) rfl rfl rfl (by exact exec_load 66 (.tmp 53) rfl gs ((A + k) * 64) rfl (encB S) _ HG.out Try.underlying66 rfl hlS) ?_
            simp only [Act.put, List.setIfInBounds_toArray, List.set_cons_zero, List.set_cons_succ]
            refine takeX (i := 17) (some 55) (.agg (encC (A + k, S)).toArray) rfl (by kernel_rfl) (by kernel_rfl) (by kernel_rfl) rfl rfl (by intro w; exact exec_build 69 (.tmp 45) (.tmp 54) rfl _ _ _ rfl rfl (hbd w)) (fun _ _ _ h => h) ?_
            simp only [Act.put, List.setIfInBounds_toArray, List.set_cons_zero, List.set_cons_succ]
            refine twoX (i := 4) (j := 18) (by kernel_rfl) ?_ ?_
            · refine opX (some 42) (.slice ap (d.pend.length + k) cp) rfl rfl rfl (by first | rfl | (go_simp; done) | (go_simp; rfl)) ?_
              simp only [Act.put, List.setIfInBounds_toArray, List.set_cons_zero, List.set_cons_succ]
              refine oneX (i := 18) (some 56) (.slice (some ⟨wr.heap.size, 0, none⟩) 1 1) (by kernel_rfl) rfl rfl rfl (by exact exec_slice1 56 1 (.tmp 55) rfl _ _ rfl (hbs wr.drew)) ?_
              simp only [Act.put, List.setIfInBounds_toArray, List.set_cons_zero, List.set_cons_succ]
              exact key
            · refine opX (some 56) (.slice (some ⟨wr.heap.size, 0, none⟩) 1 1) rfl rfl rfl (by exact exec_slice1 56 1 (.tmp 55) rfl _ _ rfl (hbs wr.drew)) ?_
              simp only [Act.put, List.setIfInBounds_toArray, List.set_cons_zero, List.set_cons_succ]
              refine oneX (i := 4) (some 42) (.slice ap (d.pend.length + k) cp) (by kernel_rfl) rfl rfl rfl (by first | rfl | (go_simp; done) | (go_simp; rfl)) ?_
              simp only [Act.put, List.setIfInBounds_toArray, List.set_cons_zero, List.set_cons_succ]
              exact key
      case keyp =>
        refine wpAny_seqF [19, 20, 21, 22] (by kernel_rfl) (by kernel_rfl) ?_
        simp only [List.filterMap_cons, List.filterMap_nil, List.getElem?_toArray, List.getElem?_cons_succ, List.getElem?_cons_zero]
        change wpList _ _ _ [_, _, _, _] _ (World.drew (World.alloc wr _))
        refine wpList_append_moved rfl (.tmp 42) (.tmp 56) 56 rfl 69 i0 z0 65 72 Try.underlying56 hi hz0 hz1 hz2 hzs (by decide) pv' (d.pend.length + k) (encL (logOf d.last (d.pend ++ puts A (bs s) k))) ?e1 ?e2 ⟨wr.heap.size, 0, none⟩ 1 1 (encC (A + k, S)) rfl ?e3 (cells_new _ _ _) (encC_oneCell _) ?e4 ?e5 ?e6
        case e1 => rw [hpv, hll]; rfl
        case e2 => rw [← hll]; exact row_keep HC.out (X := fun _ => False) (Keep.of_below (below_alloc _ _).drew) (fun _ _ => id)
        case e3 => rw [encC_length hSl]
        case e4 => unfold maxLen; omega
        case e5 => omega
        case e6 =>
          intro v2 w2 g1 g2 g3
          have hcl' : A + k < (settle d.last (d.pend ++ puts A (bs s) k)).length := by omega
          have HP := hide (hw.raw.push (p := (A + k, S)) (below_alloc wr (.cells (encC (A + k, S)).toArray 69)).drew (by rw [hll]; exact g1) g2 g3 ⟨hcl', hSl⟩)
          obtain ⟨a2, n2, c2, rfl⟩ := own_form g1
          have cB2 := cell_grown (v := pv') c1 lB nB g2
          have fB2 := free_grown f1 lB nB g2
          clear g1 g2 g3
          go_wp2
          clear cB2 fB2 HC hbd hbs c0' c1' hne HG hlS
          obtain ⟨R2, K2, M2⟩ := HP.out
          clear HP
          generalize w2.setCell ⟨b, 1, none⟩ (.slice a2 n2 c2) = w3 at *
          have hne := later_ne w3
          have c0' : ∀ p : Later w3, p.val.cell? ⟨b, 0, none⟩ = some (.slice (some ⟨gs, 0, none⟩) d.last.length cap) := fun p => (p.below.cell R2.lt).trans (by rw [R2.c.1, hsv, hcl])
          refine wp_region_later_tail 13 (by kernel_rfl) (by kernel_rfl) ?_
          simp only [List.take, List.drop]
          (repeat (first | go_big_quiet_skip | (go_big_quiet_want; go_big_quiet_op; go_big_quiet_on)))
          refine wpQuiet_nil ?_
          rintro _ ⟨p, rfl⟩
          have R3 := R2.later p.below
          refine wpList_copy_str64 rfl (.tmp 68) (.tmp 72) rfl gs ((A + k) * 64) _ _ rfl rfl ?f1 ?f2 ?f3
          case f1 => rw [ByteArray.size_extract]; omega
          case f2 => exact (R3.sector hsv (List.getElem?_eq_getElem hcl')).2
          case f3 =>
            have hXl : ((bs (s.extract (k * 64) s.size)).take 64).length = 64 := by rw [List.length_take, bs_length, ByteArray.size_extract]; omega
            have R4 := R3.setSector hsv hcl' hXl
            have K4 : Keep (xDev b sv pv') wr (p.val.setCells gs ((A + k) * 64) (encB ((bs (s.extract (k * 64) s.size)).take 64))) :=
              (K2.trans (Keep.of_below (X := xDev b sv pv') p.below) fun _ _ e => e).trans (Keep.setCells (X := xDev b sv pv') gs (.inr (.inl (by rw [hsv]; rfl))) _ _ _) fun _ _ e => e
            have HW := hide (hw.next HSS.out (cut64 hLen) R4 K4 M2)
            clear R4 K4 R3 R2 K2 M2
            generalize p.val.setCells gs ((A + k) * 64) (encB ((bs (s.extract (k * 64) s.size)).take 64)) = w4 at *
            go_wp2
            go_roundw
            case rel => exact ⟨k + 1, by omega, by go_num, _, HW.out⟩
            case measure => simp [intOf]; omega
    · obtain rfl : k = n := by omega
      go_wp2
      go_ret
      refine ⟨rfl, xDev b sv pv', ⟨⟨sv, pv', z', ⟨hw.raw, h.ok.add hA (by rw [bs_length]; exact HN.out.symm) _, h'.stop⟩, rfl⟩, ?_, ?_⟩⟩
      · exact hk1.trans hw.keep fun _ _ e => e
      · intro i hi
        rcases hi with e | e | e
        · exact .inl (.inl e)
        · exact .inl (.inr (.inl e))
        · rcases hw.moved with hm | hm
          · exact .inl (.inr (.inr (hm ▸ e)))
          · exact .inr (Nat.le_trans hk1.size (hm i e))

end Wi
end Go.Proofs.Ytdcnjaomocehmaa
