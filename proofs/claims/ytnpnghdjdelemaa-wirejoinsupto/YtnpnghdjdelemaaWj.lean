/- A part of the proofs about package wire: what its functions answer, call by call. -/
import Derived.Test.YtnpnghdjdelemaaWb
import Derived.Test.YtnpnghdjdelemaaWc
import Derived.Lib.AppendStr
namespace Go.Proofs.Ytnpnghdjdelemaa
open Go.RowKit
namespace Wi

theorem step_call {P : Program} {ops : Array Oper} {o : Oper} {a : Act} {w : World} {K : Act → World → Prop} {Q : Exit → Act → World → Prop} {E : Prop} (hg : o.guard = none) (f : FuncId) (args : Array Value) (r : Value)
    (hrun : (execOp a.eval o).run P w = .ok (.enter f args) w) (hc : Calls P f args w fun e w' => e = .returned r ∧ w' = w) (hK : K (a.put o.dst r) w) : if Region.wanted o (yielded ops a.tmps) = true then Oper.wp P o a w K Q else E := by
  have hw : Region.wanted o (yielded ops a.tmps) = true := by simp [Region.wanted, hg]
  rw [if_pos hw]
  unfold Oper.wp
  rw [hrun]
  refine hc.mono ?_
  rintro e w' ⟨rfl, rfl⟩
  exact hK
/-- A slice's memory holds these numbers. -/
structure Us (w : World) (a : Option Addr) (n : Nat) (xs : List Nat) : Prop where
  len : n = xs.length
  most : n ≤ 9223372036854775807
  fit : ∀ x ∈ xs, x < 18446744073709551616
  cells : ∀ i x, xs[i]? = some x → ∃ b off, a = some ⟨b, off, none⟩ ∧ b < w.heap.size ∧ w.cell? ⟨b, off + i, none⟩ = some (.int .u64 (x : Nat))
/-- A slice lies apart from a writer. -/
def Off (a : Option Addr) (b : Nat) (v : Value) : Prop := ∀ ad, a = some ad → ¬ xOut b v ad.block
theorem Us.keep {w w' : World} {a : Option Addr} {n b : Nat} {v : Value} {xs : List Nat} (h : Us w a n xs) (k : Keep (xOut b v) w w') (ho : Off a b v) : Us w' a n xs :=
  ⟨h.len, h.most, h.fit, fun i x hi => by
    obtain ⟨g, off, ha, hg, c0⟩ := h.cells i x hi
    exact ⟨g, off, ha, Nat.lt_of_lt_of_le hg k.size, (World.cell?_of_block (w := w) (k.block g hg (ho _ ha))).trans c0⟩⟩
theorem Us.later {w w' : World} {a : Option Addr} {n : Nat} {xs : List Nat} (h : Us w a n xs) (hb : Below w.heap.size w w') : Us w' a n xs :=
  ⟨h.len, h.most, h.fit, fun i x hi => by
    obtain ⟨g, off, ha, hg, c0⟩ := h.cells i x hi
    exact ⟨g, off, ha, Nat.lt_of_lt_of_le hg hb.size, (hb.cell hg).trans c0⟩⟩
theorem Ss.keep {w w' : World} {a : Option Addr} {n b : Nat} {v : Value} {xs : List ByteArray} (h : Ss w a n xs) (k : Keep (xOut b v) w w') (ho : Off a b v) : Ss w' a n xs :=
  ⟨h.len, h.most, h.fit, fun i x hi => by
    obtain ⟨g, off, ha, hg, c0⟩ := h.cells i x hi
    exact ⟨g, off, ha, Nat.lt_of_lt_of_le hg k.size, (World.cell?_of_block (w := w) (k.block g hg (ho _ ha))).trans c0⟩⟩
theorem Us.one (w : World) (x : Nat) (h : x < 18446744073709551616) (t : TypeId) : Us (w.alloc (.cells #[.int .u64 (x : Nat)] t)) (some ⟨w.heap.size, 0, none⟩) 1 [x] :=
  ⟨rfl, by omega, by simpa using h, fun i y hi => by
    cases i with
    | zero => simp at hi; subst hi; exact ⟨_, _, rfl, by simp, by simp⟩
    | succ i => simp at hi⟩
/-- A slice in new memory lies apart from a writer that was there. -/
theorem off_new {w : World} {b : Nat} {v : Value} {l : List Nat} (h : OutAt w b v l) : Off (some ⟨w.heap.size, 0, none⟩) b v := by
  intro ad e x
  simp only [Option.some.injEq] at e
  subst e
  rcases x with x | x
  · have := h.lt; simp at x; omega
  · have := h.own.lt _ x; simp at this
/-- Numbers, each in few bytes. -/
def vrs (xs : List Nat) : List Nat := xs.flatMap vr
theorem vrs_snoc {xs : List Nat} {k x : Nat} (h : xs[k]? = some x) : vrs (xs.take (k + 1)) = vrs (xs.take k) ++ vr x := by
  rw [snoc_take _ _ _ h, vrs, List.flatMap_append]
  simp [vrs]
theorem vr_len9 (x : Nat) : (vr x).length ≤ 9 := by rw [vr_length]; exact (size_pos x).2
theorem vrs_length : ∀ xs : List Nat, (vrs xs).length ≤ 9 * xs.length
  | [] => by simp [vrs]
  | x :: r => by
    have h1 := vrs_length r
    have h2 := vr_len9 x
    simp only [vrs, List.flatMap_cons, List.length_append, List.length_cons] at h1 ⊢
    omega
theorem first_or {x m : Nat} (hx : x < 18446744073709551616) (h : size x = m + 1) : bits .or .u8 ((hd (m + 1) : Nat) : Int) (IntKind.u8.wrap ((x : Int) / 2 ^ (8 * (m : Int)).toNat)) = ((hd (m + 1) + x / 256 ^ m : Nat) : Int) := by
  have hp := size_pos x
  have hs : x / 256 ^ m < 2 ^ (9 - (m + 1)) := by
    rcases size_cases x hx with ⟨h', h1⟩ | ⟨h', h0, h1⟩ | ⟨h', h0, h1⟩ | ⟨h', h0, h1⟩ | ⟨h', h0, h1⟩ | ⟨h', h0, h1⟩ | ⟨h', h0, h1⟩ | ⟨h', h0, h1⟩ | ⟨h', h0, h1⟩ <;> rw [h] at h' <;> (obtain rfl : m = _ := Nat.succ.inj h') <;> simp only [Nat.reduceSub, Nat.reducePow, Nat.reduceAdd] <;> omega
  have hs2 : 2 ^ (9 - (m + 1)) ≤ 2 ^ 8 := Nat.pow_le_pow_right (by omega) (by omega)
  rw [low_byte2, Nat.mod_eq_of_lt (Nat.lt_of_lt_of_le hs hs2)]
  exact or_hd (by omega) (by omega) hs
set_option maxHeartbeats 4000000 in
theorem var_any (b : Nat) (v : Value) (l : List Nat) (a : Option Addr) (n cap : Nat) (xs : List Nat) (w : World) (hU : Us w a n xs) (h : OutAt w b v l) (ho : Off a b v) (hl : l.length + 9 * n ≤ 900000000) :
    Calls Try.prog 28 #[.pointer (some ⟨b, 0, none⟩), .slice a n cap] w fun e w' => e = .returned (.tuple #[]) ∧ ∃ v', Wrote w b v (l ++ vrs xs) w' v' := by
  obtain ⟨i0, hi, hz0, hz1, hz2⟩ := info_parts info5
  have hn := hU.most
  go_enter Try.func28, Try.ntmps28
  go_wp2
  go_loopw [11] (fun i wr => ∃ k : Nat, k ≤ n ∧ i = .int .i64 k ∧ ∃ v', Wrote w b v (l ++ vrs (xs.take k)) wr v') (fun i _ => n - (intOf i).toNat)
  case atStart => exact ⟨0, Nat.zero_le _, rfl, v, by rw [List.take_zero, show vrs [] = [] from rfl, List.append_nil]; exact Wrote.refl h⟩
  case round =>
    obtain ⟨k, hk, rfl, v', hwr⟩ := hrel
    have hlen := hU.len
    by_cases hlt : k < n
    · obtain ⟨x, hx⟩ : ∃ x, xs[k]? = some x := ⟨_, List.getElem?_eq_getElem (by omega)⟩
      obtain ⟨g, off, rfl, hbl, c0⟩ := (hU.keep hwr.keep ho).cells k x hx
      have hxl := hU.fit x (List.mem_of_getElem? hx)
      have hp := size_pos x
      obtain ⟨m, hm⟩ : ∃ m, size x = m + 1 := ⟨size x - 1, by omega⟩
      have hsz : ∀ w, _ := fun w => size_any x hxl w
      rw [hm, show ((m + 1 : Nat) : Int) = (m : Int) + 1 by omega] at hsz
      have hmark : ∀ w, _ := fun w => mark_any (m + 1) (by omega) (by omega) w
      rw [show ((m + 1 : Nat) : Int) = (m : Int) + 1 by omega] at hmark
      have eo := first_or hxl hm
      have HT : Hid (l ++ vrs (xs.take k) ++ [hd (m + 1) + x / 256 ^ m] ++ be x m = l ++ vrs (xs.take (k + 1))) := by
        show _ = _
        rw [vrs_snoc hx, vr, hm]
        simp
      have hll : (l ++ vrs (xs.take k)).length ≤ 900000000 := by
        have h1 := vrs_length (xs.take k)
        have h2 : (xs.take k).length ≤ k := by rw [List.length_take]; omega
        rw [List.length_append]
        omega
      have cB := cell_of_one hwr.out.blk
      have fB := free_of_one hwr.out.blk
      have lB := hwr.out.lt
      have nB := hwr.out.ne
      have hm8 : m ≤ 8 := by omega
      have e8 : IntKind.i64.wrap (8 * (m : Int)) = 8 * (m : Int) := wrap8 (by omega)
      have e9 : 0 ≤ 8 * (m : Int) := by omega
      have em : IntKind.i64.wrap ((m : Int) + 1) = (m : Int) + 1 := by simp [IntKind.wrap, IntKind.bits, IntKind.signed]; omega
      clear hx hlen hm hp
      generalize l ++ vrs (xs.take k) = L at *
      generalize hd (m + 1) + x / 256 ^ m = Y at *
      generalize hd (m + 1) = H at *
      go_wp2_with fail
      refine (hsz _).mono ?_
      rintro e w' ⟨rfl, rfl⟩
      go_wp2
      go_region_law (first | (refine step_append_moved rfl (.tmp 22) (.tmp 32) 25 rfl 5 i0 _ 1 1 Try.underlying25 hi hz0 hz1 hz2 rfl (by decide) _ _ _ (by simp [Act.eval, Act.put]) (hwr.out.own.later (below_alloc _ _).drew) ⟨w'.heap.size, 0, none⟩ 1 1 [.int .u8 (Y : Nat)] (by simp [Act.eval, Act.put]) rfl (cell_one_drew _ _ _) (one_oneCell _ _) (by unfold maxLen; omega) (by omega) ?_; intro v2 w2 g1 g2 g3; obtain ⟨a2, n2, c2, rfl⟩ := own_form g1; have cB2 := cell_grown cB lB nB g2; have fB2 := free_grown fB lB nB g2; replace g1 := hide (OwnB.push g1 rfl); replace g2 := hide g2; replace g3 := hide g3) | (refine step_call rfl 45 #[.int .i64 ((m : Int) + 1)] (.int .u8 (H : Nat)) (by simp [go_sem]) (hmark _) ?_))
      all_goals
        have HW := hide (hwr.trans (wrote_append hwr.out (below_alloc _ _).drew g1.out g2.out g3.out))
        clear g1 g2 g3
        go_wp2_with fail
        refine (low_any b _ (L ++ [Y]) x m hxl hm8 _ HW.out.out (by simp; omega)).mono ?_
        rintro e w3 ⟨rfl, v3, hw3⟩
        have HW3 := hide (HW.out.trans hw3)
        clear hw3
        go_wp2
        go_roundw
        case rel => exact ⟨k + 1, by omega, by go_num, v3, by rw [← HT.out]; exact HW3.out⟩
        case measure => simp [intOf]; omega
    · rw [List.take_of_length_le (by omega)] at hwr
      clear hlen
      go_wp2
      go_end0
      exact ⟨rfl, v', hwr⟩
theorem run_append_str {w : World} (ty : TypeId) (v : Value) (L : List Nat) (hown : OwnB w v L) (s : ByteArray) (hl : L.length + s.size ≤ 140737488355328) :
    ∃ v' w', (Builtin.append_ #[25, 9] ty #[v, .string s]).run Try.prog w = .ok v' w' ∧ OwnB w' v' (L ++ bs s) ∧ w.grownBy w' v.ownBlock ∧ Moved w v v' := by
  obtain ⟨i0, hi, hz0, hz1, hz2⟩ := info_parts info5
  have hsc : Lib.strCells s = encB (bs s) := by simp [Lib.strCells, encB, bs]
  have h63 : L.length + s.size ≤ maxLen := by unfold maxLen; omega
  have main : ∀ B, B ≤ w.heap.size → w.ownsRow B 5 1 v L.length (encB L) → ∃ v' w', (Builtin.append_ #[25, 9] ty #[v, .string s]).run Try.prog w = .ok v' w' ∧ w'.ownsRow B 5 1 v' (L ++ bs s).length (encB (L ++ bs s)) ∧ w.grownBy w' v.ownBlock := fun B hB hB2 => by
    obtain ⟨v', w', hr, ho, hg, _⟩ := Lib.run_append_own_string (P := Try.prog) w B 25 9 ty 5 i0 Try.underlying25 Try.underlying9 hi hz0 hz1 hz2 v L.length (encB L) hB2 s h63 hl hB
    refine ⟨v', w', hr, ?_, hg⟩
    rw [encB_append, List.length_append, bs_length, ← hsc]
    exact ho
  obtain ⟨v', w', hr, ho, hg⟩ := main 0 (Nat.zero_le _) hown
  refine ⟨v', w', hr, ho, hg, ?_⟩
  rcases hown.2 with ⟨hv, hn0⟩ | ⟨g, cap, cur, hv, hbg, hgg, hnc, hcm, hcs, htake⟩
  · obtain ⟨v2, w2, hr2, ho2, _⟩ := main w.heap.size (Nat.le_refl _) ⟨hown.1, .inl ⟨hv, hn0⟩⟩
    rw [hr] at hr2
    cases hr2
    exact .inr fun k hk => (ho2.lt k hk).1
  · by_cases hroom : L.length + s.size ≤ cap
    · have hr2 := Lib.run_append_room_string (P := Try.prog) w 25 9 ty 5 i0 Try.underlying25 Try.underlying9 hi hz1 g L.length cap cur hgg s hroom (by omega)
      rw [hv] at hr ⊢
      rw [hr2] at hr
      cases hr
      exact .inl rfl
    · subst hv
      have holds : ∀ j u, (encB L)[j]? = some u → w.cell? ((⟨g, 0, none⟩ : Addr).add j) = some u := (show w.ownsRow 0 5 1 _ L.length (encB L) from hown).cells (g := g) rfl
      have hr2 := Lib.run_append_grow_string (P := Try.prog) w 25 9 ty 5 i0 (.int .u8 0) Try.underlying25 Try.underlying9 hi hz0 ⟨g, 0, none⟩ L.length cap (encB L) (by rw [hz1, encB_length]; omega) holds s (by omega) (by omega) (by rw [hz2]; exact growslice_fits (by omega) (by omega))
      rw [hr2] at hr
      cases hr
      exact .inr fun k hk => by simp [Value.ownBlock] at hk; omega
theorem wpList_append_str {w : World} {ops : Array Oper} {rest : List Oper} {o : Oper} {a : Act} {Q : Exit → Act → World → Prop} (hgd : o.guard = none) (sl x : Operand)
    (ho : o.op = .call { callee := .builtin .append, args := #[sl, x], argTypes := #[25, 9] }) (v : Value) (L : List Nat) (hs : a.eval sl = v) (hown : OwnB w v L) (s : ByteArray) (hx : a.eval x = .string s)
    (hl : L.length + s.size ≤ 140737488355328)
    (h : ∀ v' w', OwnB w' v' (L ++ bs s) → w.grownBy w' v.ownBlock → Moved w v v' → wpList Try.prog ops Q rest (a.put o.dst v') w') : wpList Try.prog ops Q (o :: rest) a w := by
  refine wpList_plain hgd fun K hK => ?_
  obtain ⟨v', w', hr, h2, h3, h4⟩ := run_append_str (w := w) o.type v L hown s hl
  unfold Oper.wp execOp
  simp only [ho, resolve, invoke, builtin, Sem.run_bind, Sem.run_pure, Result.andThen_ok, List.map_toArray, List.map_cons, List.map_nil, hs, hx, hr]
  exact hK _ _ (h v' w' h2 h3 h4)
theorem cell_grown0 {w w2 : World} {b : Nat} {v u : Value} (h : w.cell? ⟨b, 0, none⟩ = some u) (hb : b < w.heap.size) (hne : v.ownBlock ≠ some b) (hg : w.grownBy w2 v.ownBlock) : w2.cell? ⟨b, 0, none⟩ = some u := by
  rw [← h, World.cell?_of_block (w := w) (hg.block b hb fun e => hne e.symm)]
theorem free_grown0 {w w2 : World} {b : Nat} {v : Value} (h : w.frozen? ⟨b, 0, none⟩ = false) (hb : b < w.heap.size) (hne : v.ownBlock ≠ some b) (hg : w.grownBy w2 v.ownBlock) : w2.frozen? ⟨b, 0, none⟩ = false := by
  rw [← h, World.frozen?_of_block (w := w) (hg.block b hb fun e => hne e.symm)]
theorem jn_take_le {xs : List ByteArray} (k : Nat) : (jn (xs.take k)).length ≤ (jn xs).length := by
  have h : jn xs = jn (xs.take k) ++ jn (xs.drop k) := by rw [← jn_append, List.take_append_drop]
  rw [h, List.length_append]
  omega
set_option maxHeartbeats 2000000 in
theorem raw_any (b : Nat) (v : Value) (l : List Nat) (a : Option Addr) (n cap : Nat) (xs : List ByteArray) (w : World) (hS : Ss w a n xs) (h : OutAt w b v l) (ho : Off a b v) (hl : l.length + (jn xs).length ≤ 900000000) :
    Calls Try.prog 30 #[.pointer (some ⟨b, 0, none⟩), .slice a n cap] w fun e w' => e = .returned (.tuple #[]) ∧ ∃ v', Wrote w b v (l ++ jn xs) w' v' := by
  have hn := hS.most
  go_enter Try.func30, Try.ntmps30
  go_wp2
  go_loopw [10] (fun i wr => ∃ k : Nat, k ≤ n ∧ i = .int .i64 k ∧ ∃ v', Wrote w b v (l ++ jn (xs.take k)) wr v') (fun i _ => n - (intOf i).toNat)
  case atStart => exact ⟨0, Nat.zero_le _, rfl, v, by rw [List.take_zero, show jn [] = [] from rfl, List.append_nil]; exact Wrote.refl h⟩
  case round =>
    obtain ⟨k, hk, rfl, v', hwr⟩ := hrel
    have hlen := hS.len
    by_cases hlt : k < n
    · obtain ⟨s, hs⟩ : ∃ s, xs[k]? = some s := ⟨_, List.getElem?_eq_getElem (by omega)⟩
      obtain ⟨g, off, rfl, hbl, c0⟩ := (hS.keep hwr.keep ho).cells k s hs
      have HT : Hid (l ++ jn (xs.take k) ++ bs s = l ++ jn (xs.take (k + 1))) := by
        show _ = _
        rw [jn_take_succ hs, List.append_assoc]
      have hll : (l ++ jn (xs.take k)).length + s.size ≤ 900000000 := by
        have h1 := jn_take_le (xs := xs) (k + 1)
        rw [jn_take_succ hs, List.length_append, bs_length] at h1
        rw [List.length_append]
        omega
      have cB := cell_of_one hwr.out.blk
      have fB := free_of_one hwr.out.blk
      have lB := hwr.out.lt
      have nB := hwr.out.ne
      clear hs hlen
      generalize l ++ jn (xs.take k) = L at *
      go_wp2_with (at_builtin; refine wpList_append_str rfl (.tmp 18) (.tmp 19) rfl _ L rfl hwr.out.own s rfl (by omega) ?_; intro v2 w2 g1 g2 g3; obtain ⟨a2, n2, c2, rfl⟩ := own_form g1; have cB2 := cell_grown0 cB lB nB g2; have fB2 := free_grown0 fB lB nB g2; replace g1 := hide g1; replace g2 := hide g2; replace g3 := hide g3)
      have HW := hide (hwr.trans (wrote_append hwr.out (Below.refl _ _) g1.out g2.out g3.out))
      clear g1 g2 g3
      go_roundw
      case rel => exact ⟨k + 1, by omega, by go_num, _, by rw [← HT.out]; exact HW.out⟩
      case measure => simp [intOf]; omega
    · rw [List.take_of_length_le (by omega)] at hwr
      clear hlen
      go_wp2
      go_end0
      exact ⟨rfl, v', hwr⟩

end Wi
end Go.Proofs.Ytnpnghdjdelemaa
