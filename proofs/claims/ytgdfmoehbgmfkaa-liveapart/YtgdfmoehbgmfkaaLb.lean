/- Add of a table. -/
import Derived.Test.YtgdfmoehbgmfkaaLa
import Derived.Test.YtgdfmoehbgmfkaaSm
namespace Go.Proofs.Ytgdfmoehbgmfkaa
open Go.RowKit
namespace Li
open Wi
theorem grown_of_below {w w' : World} (h : Below w.heap.size w w') (row : Option Nat) : w.grownBy w' row := ⟨h.os, h.tape, h.output, h.size, fun i hi _ => h.block i hi⟩
/-- A slice's memory holds these rows. -/
structure Er (w : World) (a : Option Addr) (n : Nat) (xs : List Ro) : Prop where
  len : n = xs.length
  rng : ∀ x ∈ xs, I64 x.1 ∧ I64 x.2.1 ∧ I64 x.2.2
  cells : ∀ i x, xs[i]? = some x → ∃ g off, a = some ⟨g, off, none⟩ ∧ g < w.heap.size ∧ w.cell? ⟨g, off + i * 3, none⟩ = some (.int .i64 x.1) ∧ w.cell? ⟨g, off + i * 3 + 1, none⟩ = some (.int .i64 x.2.1) ∧ w.cell? ⟨g, off + i * 3 + 2, none⟩ = some (.int .i64 x.2.2)
theorem Er.later {w w' : World} {a : Option Addr} {n : Nat} {xs : List Ro} (h : Er w a n xs) (hb : Below w.heap.size w w') : Er w' a n xs :=
  ⟨h.len, h.rng, fun i x hi => by
    obtain ⟨g, off, ha, hg, c0, c1, c2⟩ := h.cells i x hi
    exact ⟨g, off, ha, Nat.lt_of_lt_of_le hg hb.size, (hb.cell (p := ⟨g, _, none⟩) hg).trans c0, (hb.cell (p := ⟨g, _, none⟩) hg).trans c1, (hb.cell (p := ⟨g, _, none⟩) hg).trans c2⟩⟩
/-- Rows that are owned, as a slice's memory. -/
theorem er_own {w : World} {n0 : Nat} {a : Option Addr} {n cap : Nat} {xs : List Ro} (h : w.ownsRow n0 58 3 (.slice a n cap) n (rcs xs)) (hn : n = xs.length) (hr : ∀ x ∈ xs, I64 x.1 ∧ I64 x.2.1 ∧ I64 x.2.2) : Er w a n xs := by
  refine ⟨hn, hr, fun i x hi => ?_⟩
  have hil := (List.getElem?_eq_some_iff.1 hi).1
  rcases h.2 with ⟨_, h0⟩ | ⟨g, cap', cur, hv, hb, hgg, rest⟩
  · omega
  · injection hv with e1 e2 e3
    subst e1
    have hx : xs[i]! = x := by rw [getElem!_pos xs i hil]; exact (List.getElem?_eq_some_iff.1 hi).2
    have c : ∀ j, j < 3 → w.cell? ⟨g, i * 3 + j, none⟩ = (rc x)[j]? := fun j hj => by
      rw [World.ownsRow.cellAt h (i * 3 + j) (by omega), rcs_get xs (i * 3 + j) (by omega), show (i * 3 + j) / 3 = i by omega, show (i * 3 + j) % 3 = j by omega, hx]
      match j, hj with
      | 0, _ => rfl
      | 1, _ => rfl
      | 2, _ => rfl
    refine ⟨g, 0, rfl, lt_of_block hgg, ?_, ?_, ?_⟩
    · rw [Nat.zero_add]; exact c 0 (by omega)
    · rw [Nat.zero_add]; exact c 1 (by omega)
    · rw [Nat.zero_add]; exact c 2 (by omega)
theorem run_makeMap_n (k : Nat) (w : World) : (Instr.makeMap 69 (some (.int .i64 (k : Int)))).run Try.prog w = .ok (.map (some w.heap.size)) (w.alloc (.map #[] 0)) := by
  simp [Instr.makeMap, run_underlying Try.underlying69, asInt, asIntOf, Result.andThen]
theorem putAll_keys {β : Type} {l : Al β} {ps : Al β} {k : Int} (hn : ps.Pairwise (fun p q => p.1 ≠ q.1)) (h : getA (putAll l ps) k = none) : getA ps k = none ∧ getA l k = none := by
  rw [getA_putAll ps l k hn] at h
  cases h1 : getA ps k with
  | some v => rw [h1] at h; cases h
  | none => rw [h1] at h; exact ⟨rfl, h⟩
/-- A new box. -/
def boxR (B : Nat) : Wi.Spec := ⟨fun v w => ∃ b, v = .pointer (some ⟨b, 0, none⟩) ∧ B ≤ b ∧ w.heap[b]? = some (.cells #[.int .i64 0, .int .i64 0, .int .i64 0] 58 (0, 0)), fun _ _ _ ⟨b, h1, h2, h3⟩ hb => ⟨b, h1, h2, (hb.block b (lt_of_block h3)).trans h3⟩⟩
def anyP : Wi.Spec := ⟨fun _ _ => True, fun _ _ _ h _ => h⟩
theorem not_needed {e : Bool} {p : Prop} (hf : e = false) : e = true → p := fun h => by rw [hf] at h; cases h
/-- A row is stored in a new box. -/
theorem row_store {w0 w : World} {b : Nat} (hB : w0.heap.size ≤ b) (hb : Below w0.heap.size w0 w) (hblk : w.heap[b]? = some (.cells #[.int .i64 0, .int .i64 0, .int .i64 0] 58 (0, 0))) (s h t : Int) {A : Act} {x y : Operand} (hx : A.eval x = .pointer (some ⟨b, 0, none⟩)) (hy : A.eval y = .agg #[.int .i64 s, .int .i64 h, .int .i64 t]) :
    ∃ w', (∀ op : Oper, op.op = .store 58 x y → (execOp A.eval op).run Try.prog w = .ok .skip w') ∧ Below w0.heap.size w0 w' := by
  have hk := Wi.Keep.setCells (X := fun k => k = b) b rfl [.int .i64 s, .int .i64 h, .int .i64 t] 0 w
  have ht : w.there b 0 (#[Value.int .i64 s, .int .i64 h, .int .i64 t] : Array Value).size := fun j hj => by
    have hj2 : j < 3 := hj
    refine ⟨?_, frozen_of_row w _ _ _ _ hblk⟩
    rw [cell_of_row _ _ _ _ _ _ hblk]
    have hj3 : j = 0 ∨ j = 1 ∨ j = 2 := by omega
    rcases hj3 with rfl | rfl | rfl <;> rfl
  refine ⟨w.setCells b 0 [.int .i64 s, .int .i64 h, .int .i64 t], fun op ho => ?_, hb.trans (hk.below hb.size fun k hk2 e => by omega)⟩
  unfold execOp
  simp only [ho, hx, hy, Sem.run_bind, Sem.run_pure, run_storeAt_mid (P := Try.prog) w b 0 58 #[.int .i64 s, .int .i64 h, .int .i64 t] ht (by kernel_rfl) (by simp [Value.oneCell']), Result.andThen_ok]
theorem putAll_mid (rs xs : Rows) (hr : Ris rs) (hn : xs.Pairwise (fun p q => p.1 ≠ q.1)) : putAll rs (putAll [] xs) = putAll rs xs := by
  have h0 : Ris (putAll ([] : Rows) xs) := ris_nil.putAll xs
  refine Ris.ext (hr.putAll _) (hr.putAll _) fun k => ?_
  rw [getA_putAll _ rs k h0.ne, getA_putAll xs rs k hn, getA_putAll xs [] k hn, getA_nil]
  cases getA xs k <;> rfl
abbrev mayRo (r : Ro) : Bool := mayR r.1 r.2.1 r.2.2
/-- Rows with others, one by one; none: one of them is there. -/
def addF : Rows → List Ro → Option Rows
  | rs, [] => some rs
  | rs, x :: r => if (getA rs x.1).isSome then none else addF (putA rs x.1 x.2) r
def addE (rs : Rows) (xs : List Ro) : Int := if xs.all mayRo then (if (addF rs xs).isSome then 0 else 16) else 1
def addR (rs : Rows) (xs : List Ro) : Rows := if xs.all mayRo then (addF rs xs).getD rs else rs
theorem addF_append : ∀ (a b : List Ro) (rs : Rows), addF rs (a ++ b) = (addF rs a).bind fun m => addF m b
  | [], b, rs => rfl
  | x :: a, b, rs => by
    simp only [List.cons_append, addF]
    split
    · rfl
    · exact addF_append a b _
theorem addF_some : ∀ (a : List Ro) (rs m : Rows), addF rs a = some m → m = putAll rs a
  | [], rs, m, h => by cases h; rfl
  | x :: a, rs, m, h => by
    simp only [addF] at h
    split at h
    · cases h
    · rw [putAll_cons]; exact addF_some a _ m h
theorem addF_take {rs m : Rows} {xs : List Ro} {k : Nat} {x : Ro} (h : addF rs (xs.take k) = some m) (hx : xs[k]? = some x) : addF rs (xs.take (k + 1)) = if (getA m x.1).isSome then none else some (putA m x.1 x.2) := by
  rw [snoc_take _ _ _ hx, addF_append, h]
  rfl
theorem addF_none {rs : Rows} {xs : List Ro} {k : Nat} (h : addF rs (xs.take k) = none) : addF rs xs = none := by
  rw [← List.take_append_drop k xs, addF_append, h]
  rfl

set_option maxHeartbeats 8000000 in
set_option maxRecDepth 100000 in
theorem add_any {w : World} {tb mb : Nat} {rs : Rows} {a : Option Addr} {n cap : Nat} {xs : List Ro} (hT : Tab w tb mb rs) (hE : Er w a n xs) (hlen : rs.length + n ≤ 1000000) (hcap : n ≤ cap) :
    Calls Try.prog 28 #[.pointer (some ⟨tb, 0, none⟩), .slice a n cap] w fun e w' => e = .returned (.int .i64 (addE rs xs)) ∧ Tab w' tb mb (addR rs xs) ∧ w.grownBy w' (some mb) := by
  have HE := hide hE
  have HL := hide hE.len
  have HT := hide hT
  have hn : n ≤ 1000000 := by omega
  have HLEN := hide hlen
  clear hE hT hlen
  go_enter Try.func28, Try.ntmps28
  go_wp2
  go_loopw [18] (fun i wr => ∃ k : Nat, k ≤ n ∧ i = .int .i64 k ∧ (∀ j x, j < k → xs[j]? = some x → mayRo x = true) ∧ Below w.heap.size w wr) (fun i _ => n - (intOf i).toNat)
  case atStart => exact ⟨0, Nat.zero_le _, rfl, fun j x h => by omega, Below.refl _ _⟩
  case round =>
    obtain ⟨k, hk, rfl, hall, hb⟩ := hrel
    by_cases hlt : k < n
    · obtain ⟨x, hx⟩ : ∃ x, xs[k]? = some x := ⟨_, List.getElem?_eq_getElem (by have := HL.out; omega)⟩
      obtain ⟨g, off, rfl, hg, c0, c1, c2⟩ := (HE.out.later hb).cells k x hx
      have hc := may_any x.1 x.2.1 x.2.2 (wr.alloc (.cells #[.int .i64 x.1, .int .i64 x.2.1, .int .i64 x.2.2] 58))
      have HB := hide (hb.alloc hb.size (.cells #[.int .i64 x.1, .int .i64 x.2.1, .int .i64 x.2.2] 58))
      have HX := hide hx
      have HA := hide hall
      obtain ⟨xs1, xs2, xs3⟩ := x
      simp only at *
      clear hx hb hall
      cases hmm : mayR xs1 xs2 xs3 with
      | true =>
        rw [hmm] at hc
        have HM : Hid (mayRo (xs1, xs2, xs3) = true) := hmm
        clear hmm
        go_wp2_with fail
        refine hc.mono ?_
        rintro e w2 ⟨rfl, hb2⟩
        have HB2 := hide (HB.out.trans (hb2.mono HB.out.size))
        clear hc hb2
        go_wp2
        go_roundw
        case rel => exact ⟨k + 1, by omega, by go_num, fun j y hj hy => by
          by_cases e : j = k
          · subst e
            have := HX.out
            rw [hy] at this
            injection this with this
            rw [this]
            exact HM.out
          · exact HA.out j y (by omega) hy, HB2.out⟩
        case measure => simp [intOf]; omega
      | false =>
        rw [hmm] at hc
        have HM : Hid (mayRo (xs1, xs2, xs3) = false) := hmm
        clear hmm
        go_wp2_with fail
        refine hc.mono ?_
        rintro e w2 ⟨rfl, hb2⟩
        have HB2 := hide (HB.out.trans (hb2.mono HB.out.size))
        clear hc hb2
        go_wp2
        go_ret
        have hno : ¬ xs.all mayRo = true := fun h => by
          have := List.all_eq_true.1 h _ (List.mem_of_getElem? HX.out)
          rw [HM.out] at this; cases this
        refine ⟨by unfold addE; rw [if_neg hno]; rfl, ?_, grown_of_below HB2.out _⟩
        unfold addR
        rw [if_neg hno]
        exact HT.out.later HB2.out
    · obtain rfl : k = n := by omega
      have HALL : Hid (xs.all mayRo = true) := List.all_eq_true.2 fun x hx => by
        obtain ⟨j, hj, rfl⟩ := List.mem_iff_getElem.1 hx
        exact hall j _ (by have := HL.out; omega) (List.getElem?_eq_getElem hj)
      have HB := hide hb
      have hmm := run_makeMap_n k
      clear hall hb
      go_wp2
      obtain ⟨ab, hab⟩ : ∃ ab, ab = wr.heap.size := ⟨_, rfl⟩
      have HAB : Hid (w.heap.size ≤ ab) := by show _ ≤ _; rw [hab]; exact HB.out.size
      have HR0 : Hid (RMap (wr.alloc (.map #[] 0)) ab (putAll [] (xs.take 0))) := by
        rw [hab]; exact ⟨ris_nil, World.ownsMap_made wr Try.prog 3 rowR⟩
      have HB0 := hide (HB.out.alloc HB.out.size (.map #[] 0))
      rw [← hab]
      generalize wr.alloc (.map #[] 0) = wa at *
      clear hab hmm HB
      go_loopw [31] (fun i wr => ∃ j : Nat, j ≤ k ∧ i = .int .i64 j ∧ RMap wr ab (putAll [] (xs.take j)) ∧ addF rs (xs.take j) = some (putAll rs (xs.take j)) ∧ (xs.take j).Pairwise (fun p q => p.1 ≠ q.1) ∧ Below w.heap.size w wr) (fun i _ => k - (intOf i).toNat)
      case atStart => exact ⟨0, Nat.zero_le _, rfl, HR0.out, rfl, List.Pairwise.nil, HB0.out⟩
      case round =>
        obtain ⟨j, hj, rfl, hR, hF, hP, hb⟩ := hrel
        by_cases hlt2 : j < k
        · obtain ⟨x, hx⟩ : ∃ x, xs[j]? = some x := ⟨_, List.getElem?_eq_getElem (by have := HL.out; omega)⟩
          obtain ⟨g, off, rfl, hg, c0, c1, c2⟩ := (HE.out.later hb).cells j x hx
          have hI := HE.out.rng x (List.mem_of_getElem? hx)
          have HB := hide (hb.alloc hb.size (.cells #[.int .i64 x.1, .int .i64 x.2.1, .int .i64 x.2.2] 58))
          have HX := hide hx
          have HF := hide hF
          have HP := hide hP
          have HR := hide (hR.later (below_alloc wr (.cells #[.int .i64 x.1, .int .i64 x.2.1, .int .i64 x.2.2] 58)))
          have hblk := World.alloc_heap_new wr (.cells #[.int .i64 x.1, .int .i64 x.2.1, .int .i64 x.2.2] 58)
          have HBLK := hide hblk
          obtain ⟨xs1, xs2, xs3⟩ := x
          simp only at *
          clear hx hb hF hP hR hblk
          have HT2 := hide (HT.out.later HB.out)
          obtain ⟨W0, hW0⟩ : ∃ W0, W0 = wr.alloc (.cells #[.int .i64 xs1, .int .i64 xs2, .int .i64 xs3] 58) := ⟨_, rfl⟩
          obtain ⟨B, hB⟩ : ∃ B, B = wr.heap.size := ⟨_, rfl⟩
          rw [← hW0] at HB HT2 HR HBLK
          rw [← hB] at HBLK
          have HBLT : Hid (B < W0.heap.size) := lt_of_block HBLK.out
          obtain ⟨l0, l1, l2, bb, hbb, hlook⟩ : ∃ (l0 l1 l2 : Int) (bb : Bool), bb = (getA rs xs1).isSome ∧ ∀ w2, Below W0.heap.size W0 w2 → (Instr.lookup 69 (.map (some mb)) (.int .i64 xs1) true).run Try.prog w2 = .ok (.tuple #[.agg #[.int .i64 l0, .int .i64 l1, .int .i64 l2], .bool bb]) w2 := by
            cases hg2 : getA rs xs1 with
            | none => exact ⟨0, 0, 0, false, rfl, fun w2 hb2 => look_none (HT2.out.map.later hb2) hI.1 hg2⟩
            | some p => exact ⟨xs1, p.1, p.2, true, rfl, fun w2 hb2 => look_some (HT2.out.map.later hb2) hI.1 hg2⟩
          obtain ⟨q0, q1, q2, cc, hcc, hlook2⟩ : ∃ (q0 q1 q2 : Int) (cc : Bool), cc = (getA (putAll [] (xs.take j)) xs1).isSome ∧ ∀ w2, Below W0.heap.size W0 w2 → (Instr.lookup 69 (.map (some ab)) (.int .i64 xs1) true).run Try.prog w2 = .ok (.tuple #[.agg #[.int .i64 q0, .int .i64 q1, .int .i64 q2], .bool cc]) w2 := by
            cases hg2 : getA (putAll [] (xs.take j)) xs1 with
            | none => exact ⟨0, 0, 0, false, rfl, fun w2 hb2 => look_none (HR.out.later hb2) hI.1 hg2⟩
            | some p => exact ⟨xs1, p.1, p.2, true, rfl, fun w2 hb2 => look_some (HR.out.later hb2) hI.1 hg2⟩
          have HTB : Hid (∀ w2, Below W0.heap.size W0 w2 → w2.cell? ⟨tb, 0, none⟩ = some (.map (some mb))) := fun w2 hb2 => (HT2.out.later hb2).cell
          have HBK : Hid (∀ w2, Below W0.heap.size W0 w2 → w2.cell? ⟨B, 0, none⟩ = some (.int .i64 xs1) ∧ w2.cell? ⟨B, 1, none⟩ = some (.int .i64 xs2) ∧ w2.cell? ⟨B, 2, none⟩ = some (.int .i64 xs3)) := fun w2 hb2 => row_cells ((hb2.block B HBLT.out).trans HBLK.out)
          have HLK := hide hlook
          have HLK2 := hide hlook2
          have HBB := hide hbb
          have HCC := hide hcc
          have HI := hide hI
          clear hlook hlook2 hbb hcc hI
          go_wp2_with fail
          rw [← hW0, ← hB]
          clear hW0 hB
          refine Wi.wp_region_specs_mid (n := 11) [.val (.pointer (some ⟨tb, 0, none⟩)), .val (.pointer (some ⟨tb, 0, none⟩)), .val (.pointer (some ⟨tb, 0, none⟩)), .val (.map (some mb)), .val (.pointer (some ⟨B, 0, none⟩)), .val (.int .i64 xs1), .val (.tuple #[.agg #[.int .i64 l0, .int .i64 l1, .int .i64 l2], .bool bb]), .val (.tuple #[.agg #[.int .i64 l0, .int .i64 l1, .int .i64 l2], .bool bb]), .val (.agg #[.int .i64 l0, .int .i64 l1, .int .i64 l2]), .val (.bool bb), boxR W0.heap.size, .val undef, .val (.bool bb)]
            [.val (.pointer (some ⟨tb, 0, none⟩)), .val (.pointer (some ⟨tb, 0, none⟩)), .val (.pointer (some ⟨tb, 0, none⟩)), .val (.map (some mb)), .val (.pointer (some ⟨B, 0, none⟩)), .val (.int .i64 xs1), .val (.tuple #[.agg #[.int .i64 l0, .int .i64 l1, .int .i64 l2], .bool bb]), .val (.tuple #[.agg #[.int .i64 l0, .int .i64 l1, .int .i64 l2], .bool bb]), .val (.agg #[.int .i64 l0, .int .i64 l1, .int .i64 l2]), .val (.bool bb), anyP, .val undef, .val (.bool bb)] (by kernel_rfl) (by kernel_rfl) rfl rfl rfl ?_ ?_ ?_ ?_
          · refine ⟨?_, ?_⟩
            · intro hp A w1 hb ho hd
              clear hp
              have e0 : A.tmps[0]?.getD undef = .pointer (some ⟨tb, 0, none⟩) := Wi.olds_get ho 0 (by kernel_rfl)
              refine ⟨rfl, Wi.goes_value (v := .pointer (some ⟨tb, 0, none⟩)) ?_ rfl⟩
              simp [go_sem, e0]
            refine ⟨?_, ?_⟩
            · intro hp A w1 hb ho hd
              clear hp
              have e36 : A.tmps[36]?.getD undef = .pointer (some ⟨tb, 0, none⟩) := Wi.getq (hd _ (Array.mem_of_getElem? (i := 0) rfl) rfl _ _ rfl rfl)
              refine ⟨rfl, Wi.goes_value (v := .pointer (some ⟨tb, 0, none⟩)) ?_ rfl⟩
              simp [go_sem, e36]
            refine ⟨?_, ?_⟩
            · intro hp A w1 hb ho hd
              clear hp
              have e37 : A.tmps[37]?.getD undef = .pointer (some ⟨tb, 0, none⟩) := Wi.getq (hd _ (Array.mem_of_getElem? (i := 0) rfl) rfl _ _ rfl rfl)
              refine ⟨rfl, Wi.goes_value (v := .pointer (some ⟨tb, 0, none⟩)) ?_ rfl⟩
              simp [go_sem, e37]
            refine ⟨?_, ?_⟩
            · intro hp A w1 hb ho hd
              clear hp
              have e38 : A.tmps[38]?.getD undef = .pointer (some ⟨tb, 0, none⟩) := Wi.getq (hd _ (Array.mem_of_getElem? (i := 0) rfl) rfl _ _ rfl rfl)
              have z := HTB.out w1 hb
              refine ⟨rfl, Wi.goes_value (v := .map (some mb)) ?_ rfl⟩
              simp [go_sem, e38, z]
            refine ⟨?_, ?_⟩
            · intro hp A w1 hb ho hd
              clear hp
              have e9 : A.tmps[9]?.getD undef = .pointer (some ⟨B, 0, none⟩) := Wi.olds_get ho 9 (by kernel_rfl)
              refine ⟨rfl, Wi.goes_value (v := .pointer (some ⟨B, 0, none⟩)) ?_ rfl⟩
              simp [go_sem, e9]
            refine ⟨?_, ?_⟩
            · intro hp A w1 hb ho hd
              clear hp
              have e40 : A.tmps[40]?.getD undef = .pointer (some ⟨B, 0, none⟩) := Wi.getq (hd _ (Array.mem_of_getElem? (i := 0) rfl) rfl _ _ rfl rfl)
              obtain ⟨z, _, _⟩ := HBK.out w1 hb
              refine ⟨rfl, Wi.goes_value (v := .int .i64 xs1) ?_ rfl⟩
              simp [go_sem, e40, z]
            refine ⟨?_, ?_⟩
            · intro hp A w1 hb ho hd
              clear hp
              have e39 : A.tmps[39]?.getD undef = .map (some mb) := Wi.getq (hd _ (Array.mem_of_getElem? (i := 0) rfl) rfl _ _ rfl rfl)
              have e41 : A.tmps[41]?.getD undef = .int .i64 xs1 := Wi.getq (hd _ (Array.mem_of_getElem? (i := 1) rfl) rfl _ _ rfl rfl)
              have z := HLK.out w1 hb
              refine ⟨rfl, Wi.goes_value (v := .tuple #[.agg #[.int .i64 l0, .int .i64 l1, .int .i64 l2], .bool bb]) ?_ rfl⟩
              simp [go_sem, e39, e41, z]
            refine ⟨?_, ?_⟩
            · intro hp A w1 hb ho hd
              clear hp
              have e42 : A.tmps[42]?.getD undef = .tuple #[.agg #[.int .i64 l0, .int .i64 l1, .int .i64 l2], .bool bb] := Wi.getq (hd _ (Array.mem_of_getElem? (i := 0) rfl) rfl _ _ rfl rfl)
              refine ⟨rfl, Wi.goes_value (v := .tuple #[.agg #[.int .i64 l0, .int .i64 l1, .int .i64 l2], .bool bb]) ?_ rfl⟩
              simp [go_sem, e42]
            refine ⟨?_, ?_⟩
            · intro hp A w1 hb ho hd
              clear hp
              have e35 : A.tmps[35]?.getD undef = .tuple #[.agg #[.int .i64 l0, .int .i64 l1, .int .i64 l2], .bool bb] := Wi.getq (hd _ (Array.mem_of_getElem? (i := 0) rfl) rfl _ _ rfl rfl)
              refine ⟨rfl, Wi.goes_value (v := .agg #[.int .i64 l0, .int .i64 l1, .int .i64 l2]) ?_ rfl⟩
              simp [go_sem, e35]
            refine ⟨?_, ?_⟩
            · intro hp A w1 hb ho hd
              clear hp
              have e35 : A.tmps[35]?.getD undef = .tuple #[.agg #[.int .i64 l0, .int .i64 l1, .int .i64 l2], .bool bb] := Wi.getq (hd _ (Array.mem_of_getElem? (i := 0) rfl) rfl _ _ rfl rfl)
              refine ⟨rfl, Wi.goes_value (v := .bool bb) ?_ rfl⟩
              simp [go_sem, e35]
            refine ⟨?_, ?_⟩
            · intro hp A w1 hb ho hd
              clear hp
              refine ⟨rfl, Wi.goes_alloc (v := .pointer (some ⟨w1.heap.size, 0, none⟩)) (o := .cells #[.int .i64 0, .int .i64 0, .int .i64 0] 58) ?_ ⟨_, rfl, hb.size, heap_alloc_new _ _⟩⟩
              simp [go_sem]
            refine ⟨?_, ?_⟩
            · exact fun hp => absurd hp (by decide)
            refine ⟨?_, ?_⟩
            · intro hp A w1 hb ho hd
              clear hp
              have e44 : A.tmps[44]?.getD undef = .bool bb := Wi.getq (hd _ (Array.mem_of_getElem? (i := 0) rfl) rfl _ _ rfl rfl)
              refine ⟨rfl, Wi.goes_value (v := .bool bb) ?_ rfl⟩
              simp [go_sem, e44]
            trivial
          · refine ⟨?_, ?_⟩
            · exact not_needed (by kernel_rfl)
            refine ⟨?_, ?_⟩
            · exact not_needed (by kernel_rfl)
            refine ⟨?_, ?_⟩
            · exact not_needed (by kernel_rfl)
            refine ⟨?_, ?_⟩
            · exact not_needed (by kernel_rfl)
            refine ⟨?_, ?_⟩
            · exact not_needed (by kernel_rfl)
            refine ⟨?_, ?_⟩
            · exact not_needed (by kernel_rfl)
            refine ⟨?_, ?_⟩
            · exact not_needed (by kernel_rfl)
            refine ⟨?_, ?_⟩
            · exact not_needed (by kernel_rfl)
            refine ⟨?_, ?_⟩
            · exact not_needed (by kernel_rfl)
            refine ⟨?_, ?_⟩
            · intro hp A w1 hb ho hd
              clear hp
              have e35 : A.tmps[35]?.getD undef = .tuple #[.agg #[.int .i64 l0, .int .i64 l1, .int .i64 l2], .bool bb] := Wi.getq (hd _ (Array.mem_of_getElem? (i := 0) rfl) rfl _ _ rfl rfl)
              refine ⟨rfl, Wi.goes_value (v := .bool bb) ?_ rfl⟩
              simp [go_sem, e35]
            refine ⟨?_, ?_⟩
            · exact not_needed (by kernel_rfl)
            refine ⟨?_, ?_⟩
            · exact not_needed (by kernel_rfl)
            refine ⟨?_, ?_⟩
            · intro hp A w1 hb ho hd
              clear hp
              have e44 : A.tmps[44]?.getD undef = .bool bb := Wi.getq (hd _ (Array.mem_of_getElem? (i := 0) rfl) rfl _ _ rfl rfl)
              refine ⟨rfl, Wi.goes_value (v := .bool bb) ?_ rfl⟩
              simp [go_sem, e44]
            trivial
          · intro A w1 hb ho hd
            obtain ⟨b, hbv, hbB, hblk⟩ := hd _ (Array.mem_of_getElem? (i := 0) rfl) rfl _ _ rfl rfl
            obtain ⟨w2, hr2, hb2⟩ := row_store hbB hb hblk l0 l1 l2 (A := A) (x := .tmp 10) (y := .tmp 43) hbv (hd _ (Array.mem_of_getElem? (i := 1) rfl) rfl _ _ rfl rfl)
            refine ⟨w2, hr2 _ rfl, hb2, fun j o d hj hdj hs => ?_⟩
            rcases j with _ | _ | _ | _ | _ | _ | _ | _ | _ | _ | _ | _ | _ | j
            all_goals (first | exact hs | exact trivial)
          · intro A w9 hb9 hdf hsz hol hft
            have m36 : A.tmps.getD 36 undef = .pointer (some ⟨tb, 0, none⟩) := hft 0 _ 36 rfl rfl
            have m37 : A.tmps.getD 37 undef = .pointer (some ⟨tb, 0, none⟩) := hft 1 _ 37 rfl rfl
            have m38 : A.tmps.getD 38 undef = .pointer (some ⟨tb, 0, none⟩) := hft 2 _ 38 rfl rfl
            have m39 : A.tmps.getD 39 undef = .map (some mb) := hft 3 _ 39 rfl rfl
            have m40 : A.tmps.getD 40 undef = .pointer (some ⟨B, 0, none⟩) := hft 4 _ 40 rfl rfl
            have m41 : A.tmps.getD 41 undef = .int .i64 xs1 := hft 5 _ 41 rfl rfl
            have m42 : A.tmps.getD 42 undef = .tuple #[.agg #[.int .i64 l0, .int .i64 l1, .int .i64 l2], .bool bb] := hft 6 _ 42 rfl rfl
            have m35 : A.tmps.getD 35 undef = .tuple #[.agg #[.int .i64 l0, .int .i64 l1, .int .i64 l2], .bool bb] := hft 7 _ 35 rfl rfl
            have m43 : A.tmps.getD 43 undef = .agg #[.int .i64 l0, .int .i64 l1, .int .i64 l2] := hft 8 _ 43 rfl rfl
            have m44 : A.tmps.getD 44 undef = .bool bb := hft 9 _ 44 rfl rfl
            have m11 : A.tmps.getD 11 undef = .bool bb := hft 12 _ 11 rfl rfl
            rename_i KK hKK
            refine hKK _ _ ?_
            show Code.wp _ _ _ A w9
            rw [Wi.frame_puts hdf hsz hol]
            simp only [List.foldl_cons, List.foldl_nil, Act.put, Option.getD_some, m36, m37, m38, m39, m40, m41, m42, m35, m43, m44, m11, List.setIfInBounds_toArray, List.set_cons_succ, List.set_cons_zero]
            generalize A.tmps.getD 10 undef = z10
            generalize A.tmps.getD 0 undef = z00 at *
            clear m36 m37 m38 m39 m40 m41 m42 m35 m43 m44 m11 hft hol hsz hdf hKK
            obtain ⟨y0, y1, y2⟩ := HBK.out w9 hb9
            have hl2 := HLK2.out w9 hb9
            have HW9 := hide (HB.out.trans (hb9.mono HB.out.size))
            have HB9 := hide (HW9.out.alloc HW9.out.size (.cells #[.int .i64 q0, .int .i64 q1, .int .i64 q2] 58))
            have hba := below_alloc w9 (.cells #[.int .i64 q0, .int .i64 q1, .int .i64 q2] 58)
            have hB9 : B < w9.heap.size := Nat.lt_of_lt_of_le HBLT.out hb9.size
            have z0 := (hba.cell (p := ⟨B, 0, none⟩) hB9).trans y0
            have z1 := (hba.cell (p := ⟨B, 1, none⟩) hB9).trans y1
            have z2 := (hba.cell (p := ⟨B, 2, none⟩) hB9).trans y2
            have HT9 := hide ((HT2.out.later hb9).later hba)
            have HR9 := hide ((HR.out.later hb9).later hba)
            have hnext := addF_take HF.out HX.out
            have hget : (getA (putAll rs (xs.take j)) xs1) = (getA (xs.take j) xs1).or (getA rs xs1) := getA_putAll _ _ _ HP.out
            have hget0 : (getA (putAll ([] : Rows) (xs.take j)) xs1) = getA (xs.take j) xs1 := by
              rw [getA_putAll _ _ _ HP.out, getA_nil]; cases getA (xs.take j) xs1 <;> rfl
            have HBC : Hid ((getA (putAll rs (xs.take j)) xs1).isSome = (bb || cc)) := by
              show _ = _
              rw [hget, HBB.out, HCC.out, hget0]
              cases getA (xs.take j) xs1 <;> cases getA rs xs1 <;> rfl
            have HNX := hide hnext
            clear hnext hget hget0
            have K3 := int_keyed3
            have hown := HR9.out.2
            have hris := HR9.out.1
            have hplen := putAll_length (xs.take j) ([] : Rows)
            have hplen2 : (putAll ([] : Rows) (xs.take j)).length < maxLen := by
              simp only [List.length_nil, List.length_take] at hplen
              simp only [maxLen]
              omega
            have hkey := hne3 xs1 HI.out.1.wf
            have hno16 : Hid ((bb || cc) = true → addE rs xs = 16 ∧ addR rs xs = rs) := fun h => by
              have h1 := HNX.out
              rw [HBC.out, h] at h1
              simp only [if_true] at h1
              have h2 := addF_none h1
              refine ⟨?_, ?_⟩
              · unfold addE; rw [if_pos HALL.out, h2]; rfl
              · unfold addR; rw [if_pos HALL.out, h2]; rfl
            clear hplen hba y1 y2 hb9
            cases hbb : bb with
            | true =>
              subst hbb
              have G := hide (hno16.out rfl)
              clear HBC HNX hkey hown hris hplen2 hno16
              go_wp2
              go_ret
              exact ⟨by rw [G.out.1]; rfl, by rw [G.out.2]; exact HT9.out, grown_of_below HB9.out _⟩
            | false =>
              cases hcc : cc with
              | true =>
                subst hbb hcc
                have G := hide (hno16.out rfl)
                clear HBC HNX hkey hown hris hplen2 hno16
                go_wp2
                go_ret
                exact ⟨by rw [G.out.1]; rfl, by rw [G.out.2]; exact HT9.out, grown_of_below HB9.out _⟩
              | false =>
                subst hbb hcc
                clear hno16
                have HRIS := hide hris
                clear hris
                go_wp2_with (first
                  | (at_mapUpdate; refine wpList_mapUpdate_own _ rfl _ _ _ 69 rfl 3 58 K3 Try.underlying69 rowR ab _ _ rfl hown hplen2 _ _ _ rfl rfl hkey (roD (xs1, xs2, xs3)) [] rfl ?_; intro w2 hown2 hg2; go_frame)
                  | go_in)
                have hput := RMap.put (p := (xs2, xs3)) HRIS.out hown2
                have hnx : addF rs (xs.take (j + 1)) = some (putA (putAll rs (xs.take j)) xs1 (xs2, xs3)) := by
                  have h := HNX.out
                  rw [HBC.out] at h
                  exact h
                have hpn : getA (xs.take j) xs1 = none := by
                  have h := HCC.out
                  rw [getA_putAll _ _ _ HP.out, getA_nil] at h
                  cases hg3 : getA (xs.take j) xs1 with
                  | none => rfl
                  | some v => rw [hg3] at h; cases h
                have hpw : (xs.take (j + 1)).Pairwise (fun p q => p.1 ≠ q.1) := by
                  rw [snoc_take _ _ _ HX.out]
                  refine List.pairwise_append.2 ⟨HP.out, List.pairwise_singleton _ _, fun p hp q hq => ?_⟩
                  simp only [List.mem_singleton] at hq
                  rw [hq]
                  exact getA_none.1 hpn p hp
                refine ⟨⟨j + 1, by omega, by go_num, ?_, ?_, hpw, ?_⟩, by simp [intOf]; omega⟩
                · rw [snoc_take _ _ _ HX.out, putAll_snoc]; exact hput
                · rw [hnx, snoc_take _ _ _ HX.out, putAll_snoc]
                · exact HB9.out.grown hg2 HB9.out.size (fun i hi => by cases hi; exact HAB.out)
        · obtain rfl : j = k := by omega
          have hxs : xs.take j = xs := List.take_of_length_le (by have := HL.out; omega)
          rw [hxs] at hR hF hP
          have HT2 := hide (HT.out.later hb)
          have hne : mb ≠ ab := by have := HT.out.map.lt; have := HAB.out; omega
          have hplen := putAll_length xs ([] : Rows)
          have hcp := copy_rows HT2.out.map hR hne (by have := HLEN.out; have := HL.out; simp only [List.length_nil] at hplen; omega)
          have hc := HT2.out.cell
          have HB := hide hb
          have HF := hide hF
          have HP := hide hP
          have HMR := hide (putAll_mid rs xs HT.out.map.1 hP)
          clear hR hF hP hxs hb hne hplen
          go_wp2_with fail
          refine hcp.mono ?_
          rintro e w2 ⟨rfl, hm2, hg2⟩
          have HM2 := hide hm2
          have HG2 := hide hg2
          clear hcp hm2 hg2 hc
          go_wp2
          go_ret
          have hE : addE rs xs = 0 := by unfold addE; rw [if_pos HALL.out, HF.out]; rfl
          have hR : addR rs xs = putAll rs xs := by unfold addR; rw [if_pos HALL.out, HF.out]; rfl
          refine ⟨by rw [hE]; rfl, ?_, (grown_of_below HB.out (some mb)).andThen HG2.out (fun i hi => .inr hi)⟩
          rw [hR, ← HMR.out]
          exact HT2.out.turn HM2.out HG2.out
end Li
end Go.Proofs.Ytgdfmoehbgmfkaa
