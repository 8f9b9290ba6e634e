/- A call with a table and with the document's rows. -/
import Derived.Test.YtgdfmoehbgmfkaaNk
import Derived.Test.YtgdfmoehbgmfkaaLm
import Derived.Test.YtgdfmoehbgmfkaaLs
namespace Go.Proofs.Ytgdfmoehbgmfkaa
open Go.RowKit
namespace Li
open Wi
/-- What a call makes of rows. -/
def opT (rs : Rows) (o : OpV) : Rows := if o.ask = 0 then addR rs o.rs else if o.ask = 1 then delA rs o.seq else if o.ask = 2 then chT rs o.ms o.ls else rs
theorem addR_facts {rs : Rows} {xs : List Ro} (hr : Ris rs) (hm : ∀ x ∈ rs, mayRo x = true) : Ris (addR rs xs) ∧ (∀ x ∈ addR rs xs, mayRo x = true) ∧ (addR rs xs).length ≤ rs.length + xs.length := by
  unfold addR
  cases hall : xs.all mayRo with
  | false => exact ⟨hr, hm, by simp⟩
  | true =>
    rw [if_pos rfl]
    cases hf : addF rs xs with
    | none => exact ⟨hr, hm, by simp⟩
    | some m =>
      have h1 := addF_some xs rs m hf
      refine ⟨by rw [h1]; exact hr.putAll xs, ?_, by rw [h1]; have := putAll_length xs rs; simpa using this⟩
      show ∀ x ∈ m, mayRo x = true
      rw [h1]
      have : ∀ (ys : List Ro) (l : Rows), (∀ x ∈ l, mayRo x = true) → (∀ x ∈ ys, mayRo x = true) → ∀ x ∈ putAll l ys, mayRo x = true := by
        intro ys
        induction ys with
        | nil => intro l h _; exact h
        | cons y ys ih =>
          intro l h h2
          rw [putAll_cons]
          refine ih _ (fun x hx => ?_) (fun x hx => h2 x (by simp [hx]))
          rcases putA_val l y.1 y.2 x hx with ⟨e1, e2⟩ | e
          · have : x = y := Prod.ext e1 e2
            rw [this]; exact h2 y (by simp)
          · exact h x e
      exact this xs rs hm (fun x hx => List.all_eq_true.1 hall x hx)
theorem chT_facts {rs : Rows} {ms ls : List Ix} (hr : Ris rs) (hm : ∀ x ∈ rs, mayRo x = true) : Ris (chT rs ms ls) ∧ (∀ x ∈ chT rs ms ls, mayRo x = true) ∧ (chT rs ms ls).length = rs.length := by
  unfold chT
  cases hall : (ms.all Ix.may && ls.all Ix.may) with
  | false => exact ⟨hr, hm, rfl⟩
  | true =>
    rw [if_pos rfl]
    have hG : Ris (subA (cntM ms) (cntM ls)) := Ris.subA _ _ (cntM_ris ms)
    refine ⟨?_, chgT_may hm hr hG, ?_⟩
    · unfold chgT
      split
      · exact hr.putAll _
      · exact hr
    · by_cases h0 : chgE rs (subA (cntM ms) (cntM ls)) = 0
      · have hall2 : ∀ p ∈ subA (cntM ms) (cntM ls), (getA rs p.1).isSome = true := fun p hp => by
          unfold chgE at h0
          split at h0
          · cases h0
          · next hn =>
            rw [List.any_eq_true] at hn
            cases hg : getA rs p.1 with
            | some v => rfl
            | none => exact absurd ⟨p, hp, by rw [hg]; rfl⟩ hn
        unfold chgT
        rw [if_pos h0, ← doc_put hr (cntM_ris ms) (cntM_ris ls) hall2, List.length_map]
      · unfold chgT; rw [if_neg h0]
theorem opT_facts {rs : Rows} (o : OpV) (hr : Ris rs) (hm : ∀ x ∈ rs, mayRo x = true) : Ris (opT rs o) ∧ (∀ x ∈ opT rs o, mayRo x = true) ∧ (opT rs o).length ≤ rs.length + o.rs.length := by
  unfold opT
  split
  · exact addR_facts hr hm
  · split
    · refine ⟨hr.del _, fun x hx => hm x (delA_sub hx), ?_⟩
      have := delA_len rs o.seq; omega
    · split
      · have := chT_facts (ms := o.ms) (ls := o.ls) hr hm
        exact ⟨this.1, this.2.1, by rw [this.2.2]; omega⟩
      · exact ⟨hr, hm, by omega⟩
/-- A table, rows of the document's answer, a call: what is ahead of a step. -/
structure Pre (wI w : World) (tb mb b0 : Nat) (rs qs : Rows) (a : Option Addr) (n cap : Nat) (o : OpV) : Prop where
  tab : Tab w tb mb rs
  may : ∀ x ∈ rs, mayRo x = true
  qris : Ris qs
  qmay : ∀ x ∈ qs, mayRo x = true
  row : w.ownsRow b0 35 3 (.slice a n cap) n (rcs qs)
  len : n = qs.length
  op : OpOk wI o
  rn : o.rn ≤ 20
  mn : o.mn ≤ 20
  ln : o.ln ≤ 20
  below : Below wI.heap.size wI w
  hmb : wI.heap.size ≤ mb
  hb0 : mb < b0
  hb0w : b0 ≤ w.heap.size
  l1 : rs.length ≤ 2000
  l2 : n ≤ 2000
def Post (wI w : World) (tb mb b0 : Nat) (rs qs : Rows) (o : OpV) (e : Ending) (w' : World) : Prop :=
  ∃ v bb, e = .returned (.tuple #[v, .bool bb]) ∧ w'.ownsRow b0 35 3 v (opT qs o).length (rcs (opT qs o)) ∧ Tab w' tb mb (opT rs o) ∧ (rs = qs → bb = true) ∧ Below wI.heap.size wI w' ∧ w.grownBy w' (some mb)
def opBox (w : World) (k : Int) (o : OpV) : World := w.alloc (.cells #[.int .i64 k, .int .i64 o.seq, .slice o.ra o.rn o.rcap, .slice o.ma o.mn o.mcap, .slice o.la o.ln o.lcap] 33)
/-- The box of a call stands, whatever is turned in a map ahead of it. -/
theorem box_cells {w w' : World} {k : Int} {o : OpV} {mb : Nat} (hmb : mb < w.heap.size) (hg : (opBox w k o).grownBy w' (some mb)) : w'.cell? ⟨w.heap.size, 0, none⟩ = some (.int .i64 k) ∧ w'.cell? ⟨w.heap.size, 1, none⟩ = some (.int .i64 o.seq) ∧ w'.cell? ⟨w.heap.size, 2, none⟩ = some (.slice o.ra o.rn o.rcap) ∧ w'.cell? ⟨w.heap.size, 3, none⟩ = some (.slice o.ma o.mn o.mcap) ∧ w'.cell? ⟨w.heap.size, 4, none⟩ = some (.slice o.la o.ln o.lcap) := by
  have h : w'.heap[w.heap.size]? = some (.cells #[.int .i64 k, .int .i64 o.seq, .slice o.ra o.rn o.rcap, .slice o.ma o.mn o.mcap, .slice o.la o.ln o.lcap] 33 (0, 0)) := (hg.block w.heap.size (by simp [opBox]) (fun e => by have := Option.some.inj e; omega)).trans (heap_alloc_new w _)
  refine ⟨?_, ?_, ?_, ?_, ?_⟩ <;> (rw [cell_of_row _ _ _ _ _ _ h]; rfl)
theorem box_grown (w : World) (k : Int) (o : OpV) (row : Option Nat) : w.grownBy (opBox w k o) row := World.grownBy_alloc w _ row
theorem beq_int (x : Int) (P : Prop) (_h : P) : P → decide (x = x) = true := fun _ => decide_eq_true rfl
set_option maxHeartbeats 8000000 in
set_option maxRecDepth 100000 in
theorem does_add {wI w : World} {tb mb b0 : Nat} {rs qs : Rows} {a : Option Addr} {n cap : Nat} {o : OpV} (h : Pre wI w tb mb b0 rs qs a n cap o) (h0 : o.ask = 0) :
    Calls Try.prog 14 #[.pointer (some ⟨tb, 0, none⟩), .slice a n cap, .agg #[.int .i64 0, .int .i64 o.seq, .slice o.ra o.rn o.rcap, .slice o.ma o.mn o.mcap, .slice o.la o.ln o.lcap]] w fun e w' => Post wI w tb mb b0 rs qs o e w' := by
  have HP := hide h
  have hmw : mb < w.heap.size := h.tab.map.lt
  have HTQ := hide (show opT qs o = addR qs o.rs by unfold opT; rw [if_pos h0])
  have HTR := hide (show opT rs o = addR rs o.rs by unfold opT; rw [if_pos h0])
  have hbox := below_alloc w (.cells #[.int .i64 0, .int .i64 o.seq, .slice o.ra o.rn o.rcap, .slice o.ma o.mn o.mcap, .slice o.la o.ln o.lcap] 33)
  have HBX := hide (box_cells (k := 0) (o := o) hmw (show (opBox w 0 o).grownBy (opBox w 0 o) (some mb) from ⟨rfl, rfl, rfl, Nat.le_refl _, fun _ _ _ => rfl⟩))
  have hbi := h.below.trans (hbox.mono h.below.size)
  have h1 := add_any (cap := o.rcap) (h.tab.later hbox) (h.op.rs.later hbi) (by have := h.l1; have := h.rn; omega) h.op.rc
  have hsz := h.op.rs.len
  obtain ⟨c0, c1, c2, c3, c4⟩ := HBX.out
  unfold opBox at c0 c1 c2 c3 c4
  have hrn20 := h.rn
  have HLEN := hide hsz
  have hgx := box_grown w 0 o (some mb)
  unfold opBox at hgx
  clear h0
  have HGX := hide hgx
  clear h hbox hbi hsz hgx
  go_enter Try.func14, Try.ntmps14
  go_wp2_with fail
  refine h1.mono ?_
  rintro e w1 ⟨rfl, hT1, hg1⟩
  have HG1 := hide (HGX.out.trans hg1)
  have HBC := hide (box_cells (k := 0) (o := o) hmw (w' := w1) (by unfold opBox; exact hg1))
  obtain ⟨d0, d1, d2, d3, d4⟩ := HBC.out
  have HBI := hide (HP.out.below.grown HG1.out HP.out.below.size (fun i hi => by cases hi; exact HP.out.hmb))
  have hrow1 := HP.out.row.kept HG1.out (Or.inr (fun e => by have := (HP.out.row.lt _ e).1; have := HP.out.hb0; omega))
  have HROW1 := hide hrow1
  have HT1 := hide hT1
  have hp := plain_any (cap := o.rcap) (HP.out.op.rs.later HBI.out) (by omega)
  have hszG := HG1.out.size
  clear h1 c0 c1 c2 c3 c4 hT1 hg1 hrow1
  go_wp2_with fail
  refine hp.mono ?_
  rintro e w2 ⟨v2, rfl, hrow2, hb2⟩
  obtain ⟨a2, cap2, rfl⟩ := row_slice (own_base hrow2 (Nat.zero_le _))
  have hE2 := er_own35 hrow2 HLEN.out HP.out.op.rs.rng
  have hr := refAdd_any (cap := cap) (cap2 := cap2) (row_later HROW1.out hb2) HP.out.len (Nat.le_trans HP.out.hb0w (Nat.le_trans hszG hb2.size)) HP.out.qris HP.out.qmay hE2 (by have := HP.out.l2; omega)
  have HB2 := hide hb2
  clear hp hrow2 hE2 hb2 d0 d1 d2 d3 d4
  go_wp2_with fail
  refine hr.mono ?_
  rintro e w3 ⟨hb3, v3, rfl, hrow3⟩
  have HB3 := hide hb3
  have HROW3 := hide hrow3
  clear hr hb3 hrow3
  go_wp2
  go_ret2
  have hb13 := HB2.out.trans (HB3.out.mono HB2.out.size)
  refine ⟨v3, _, rfl, by rw [HTQ.out]; exact HROW3.out, by rw [HTR.out]; exact HT1.out.later hb13, fun e => by rw [e]; simp, HBI.out.trans (hb13.mono HBI.out.size), HG1.out.trans (grown_of_below hb13 _)⟩
end Li
end Go.Proofs.Ytgdfmoehbgmfkaa

namespace Go.Proofs.Ytgdfmoehbgmfkaa
open Go.RowKit
namespace Li
open Wi
theorem drop_any {w : World} {tb mb : Nat} {rs : Rows} {k : Int} (hT : Tab w tb mb rs) (hk : I64 k) : Calls Try.prog 29 #[.pointer (some ⟨tb, 0, none⟩), .int .i64 k] w fun e w' => e = .returned (.int .i64 (drpE rs k)) ∧ Tab w' tb mb (delA rs k) ∧ w.grownBy w' (some mb) := by
  unfold drpE
  cases hg : getA rs k with
  | none =>
    rw [delA_none hg]
    exact (drop_none hT hk hg).mono fun e w' ⟨h1, h2⟩ => ⟨h1, hT.later h2, grown_of_below h2 _⟩
  | some p => exact (drop_some hT hk hg).mono fun e w' ⟨h1, h2, h3⟩ => ⟨h1, h2, h3⟩

set_option maxHeartbeats 8000000 in
set_option maxRecDepth 100000 in
theorem does_drop {wI w : World} {tb mb b0 : Nat} {rs qs : Rows} {a : Option Addr} {n cap : Nat} {o : OpV} (h : Pre wI w tb mb b0 rs qs a n cap o) (h0 : o.ask = 1) :
    Calls Try.prog 14 #[.pointer (some ⟨tb, 0, none⟩), .slice a n cap, .agg #[.int .i64 1, .int .i64 o.seq, .slice o.ra o.rn o.rcap, .slice o.ma o.mn o.mcap, .slice o.la o.ln o.lcap]] w fun e w' => Post wI w tb mb b0 rs qs o e w' := by
  have HP := hide h
  have hmw : mb < w.heap.size := h.tab.map.lt
  have hbox := below_alloc w (.cells #[.int .i64 1, .int .i64 o.seq, .slice o.ra o.rn o.rcap, .slice o.ma o.mn o.mcap, .slice o.la o.ln o.lcap] 33)
  have HBX := hide (box_cells (k := 1) (o := o) hmw (show (opBox w 1 o).grownBy (opBox w 1 o) (some mb) from ⟨rfl, rfl, rfl, Nat.le_refl _, fun _ _ _ => rfl⟩))
  have hbi := h.below.trans (hbox.mono h.below.size)
  have HBI0 := hide hbi
  have HBOX := hide hbox
  obtain ⟨c0, c1, c2, c3, c4⟩ := HBX.out
  unfold opBox at c0 c1 c2 c3 c4
  have hgx := box_grown w 1 o (some mb)
  unfold opBox at hgx
  have HGX := hide hgx
  have HTQ := hide (show opT qs o = delA qs o.seq by unfold opT; rw [if_neg (by omega), if_pos h0])
  have HTR := hide (show opT rs o = delA rs o.seq by unfold opT; rw [if_neg (by omega), if_pos h0])
  have h1 := drop_any (k := o.seq) (h.tab.later hbox) h.op.seq
  clear h hbox hbi hgx h0
  go_enter Try.func14, Try.ntmps14
  go_wp2_with fail
  refine h1.mono ?_
  rintro e w1 ⟨rfl, hT1, hg1⟩
  have HG1 := hide (HGX.out.trans hg1)
  have HBC := hide (box_cells (k := 1) (o := o) hmw (w' := w1) (by unfold opBox; exact hg1))
  obtain ⟨d0, d1, d2, d3, d4⟩ := HBC.out
  have HBI := hide (HP.out.below.grown HG1.out HP.out.below.size (fun i hi => by cases hi; exact HP.out.hmb))
  have hrow1 := HP.out.row.kept HG1.out (Or.inr (fun e => by have := (HP.out.row.lt _ e).1; have := HP.out.hb0; omega))
  have HROW1 := hide hrow1
  have HT1 := hide hT1
  have hszG := HG1.out.size
  have hr := refDrop_any (cap := cap) (k := o.seq) HROW1.out HP.out.len (Nat.le_trans HP.out.hb0w hszG) HP.out.qris HP.out.qmay (by have := HP.out.l2; omega)
  clear h1 c0 c1 c2 c3 c4 hT1 hg1 hrow1
  go_wp2_with fail
  refine hr.mono ?_
  rintro e w3 ⟨hb3, v3, rfl, hrow3⟩
  have HB3 := hide hb3
  have HROW3 := hide hrow3
  clear hr hb3 hrow3
  go_wp2
  go_ret2
  exact ⟨v3, _, rfl, by rw [HTQ.out]; exact HROW3.out, by rw [HTR.out]; exact HT1.out.later HB3.out, fun e => by rw [e]; simp, HBI.out.trans (HB3.out.mono HBI.out.size), HG1.out.trans (grown_of_below HB3.out _)⟩

set_option maxHeartbeats 8000000 in
set_option maxRecDepth 100000 in
theorem does_change {wI w : World} {tb mb b0 : Nat} {rs qs : Rows} {a : Option Addr} {n cap : Nat} {o : OpV} (h : Pre wI w tb mb b0 rs qs a n cap o) (h0 : o.ask = 2) :
    Calls Try.prog 14 #[.pointer (some ⟨tb, 0, none⟩), .slice a n cap, .agg #[.int .i64 2, .int .i64 o.seq, .slice o.ra o.rn o.rcap, .slice o.ma o.mn o.mcap, .slice o.la o.ln o.lcap]] w fun e w' => Post wI w tb mb b0 rs qs o e w' := by
  have HP := hide h
  have hmw : mb < w.heap.size := h.tab.map.lt
  have hbox := below_alloc w (.cells #[.int .i64 2, .int .i64 o.seq, .slice o.ra o.rn o.rcap, .slice o.ma o.mn o.mcap, .slice o.la o.ln o.lcap] 33)
  have HBX := hide (box_cells (k := 2) (o := o) hmw (show (opBox w 2 o).grownBy (opBox w 2 o) (some mb) from ⟨rfl, rfl, rfl, Nat.le_refl _, fun _ _ _ => rfl⟩))
  have hbi := h.below.trans (hbox.mono h.below.size)
  have HBI0 := hide hbi
  have HBOX := hide hbox
  obtain ⟨c0, c1, c2, c3, c4⟩ := HBX.out
  unfold opBox at c0 c1 c2 c3 c4
  have hgx := box_grown w 2 o (some mb)
  unfold opBox at hgx
  have HGX := hide hgx
  have HTQ := hide (show opT qs o = chT qs o.ms o.ls by unfold opT; rw [if_neg (by omega), if_neg (by omega), if_pos h0])
  have HTR := hide (show opT rs o = chT rs o.ms o.ls by unfold opT; rw [if_neg (by omega), if_neg (by omega), if_pos h0])
  have h1 := change_any (cap := o.mcap) (cap2 := o.lcap) (h.tab.later hbox) h.may (h.op.ms.later hbi) (h.op.ls.later hbi) (by have := h.mn; omega) (by have := h.ln; omega) (by have := h.l1; omega)
  clear h hbox hbi hgx h0
  go_enter Try.func14, Try.ntmps14
  go_wp2_with fail
  refine h1.mono ?_
  rintro e w1 ⟨rfl, hT1, hg1⟩
  have HG1 := hide (HGX.out.trans hg1)
  have HBC := hide (box_cells (k := 2) (o := o) hmw (w' := w1) (by unfold opBox; exact hg1))
  obtain ⟨d0, d1, d2, d3, d4⟩ := HBC.out
  have HBI := hide (HP.out.below.grown HG1.out HP.out.below.size (fun i hi => by cases hi; exact HP.out.hmb))
  have hrow1 := HP.out.row.kept HG1.out (Or.inr (fun e => by have := (HP.out.row.lt _ e).1; have := HP.out.hb0; omega))
  have HROW1 := hide hrow1
  have HT1 := hide hT1
  have hszG := HG1.out.size
  have hr := refChange_any (cap := cap) (cap1 := o.mcap) (cap2 := o.lcap) HROW1.out HP.out.len (Nat.le_trans HP.out.hb0w hszG) HP.out.qris HP.out.qmay (by have := HP.out.l2; omega) (HP.out.op.ms.later HBI.out) (HP.out.op.ls.later HBI.out) (by have := HP.out.mn; omega) (by have := HP.out.ln; omega)
  clear h1 c0 c1 c2 c3 c4 hT1 hg1 hrow1
  go_wp2_with fail
  refine hr.mono ?_
  rintro e w3 ⟨hb3, v3, rfl, hrow3⟩
  have HB3 := hide hb3
  have HROW3 := hide hrow3
  clear hr hb3 hrow3
  go_wp2
  go_ret2
  exact ⟨v3, _, rfl, by rw [HTQ.out]; exact HROW3.out, by rw [HTR.out]; exact HT1.out.later HB3.out, fun e => by rw [e]; simp, HBI.out.trans (HB3.out.mono HBI.out.size), HG1.out.trans (grown_of_below HB3.out _)⟩

set_option maxHeartbeats 8000000 in
set_option maxRecDepth 100000 in
theorem does_vic {wI w : World} {tb mb b0 : Nat} {rs qs : Rows} {a : Option Addr} {n cap : Nat} {o : OpV} (h : Pre wI w tb mb b0 rs qs a n cap o) (h0 : o.ask ≠ 0) (h1 : o.ask ≠ 1) (h2 : o.ask ≠ 2) (h3 : o.ask ≠ 3) :
    Calls Try.prog 14 #[.pointer (some ⟨tb, 0, none⟩), .slice a n cap, .agg #[.int .i64 o.ask, .int .i64 o.seq, .slice o.ra o.rn o.rcap, .slice o.ma o.mn o.mcap, .slice o.la o.ln o.lcap]] w fun e w' => Post wI w tb mb b0 rs qs o e w' := by
  have HP := hide h
  have hmw : mb < w.heap.size := h.tab.map.lt
  have hbox := below_alloc w (.cells #[.int .i64 o.ask, .int .i64 o.seq, .slice o.ra o.rn o.rcap, .slice o.ma o.mn o.mcap, .slice o.la o.ln o.lcap] 33)
  have HBX := hide (box_cells (k := o.ask) (o := o) hmw (show (opBox w o.ask o).grownBy (opBox w o.ask o) (some mb) from ⟨rfl, rfl, rfl, Nat.le_refl _, fun _ _ _ => rfl⟩))
  have hbi := h.below.trans (hbox.mono h.below.size)
  have HBI0 := hide hbi
  have HBOX := hide hbox
  obtain ⟨c0, c1, c2, c3, c4⟩ := HBX.out
  unfold opBox at c0 c1 c2 c3 c4
  have hgx := box_grown w o.ask o (some mb)
  unfold opBox at hgx
  have HGX := hide hgx
  have HTQ := hide (show opT qs o = qs by unfold opT; rw [if_neg h0, if_neg h1, if_neg h2])
  have HTR := hide (show opT rs o = rs by unfold opT; rw [if_neg h0, if_neg h1, if_neg h2])
  have hr := h.tab.later hbox
  obtain ⟨q, hq⟩ : ∃ q, q = max 0 (min o.seq 101) := ⟨_, rfl⟩
  have hv := victims_any o.seq q hq hr h.may (by have := h.l1; omega)
  have HQ := hide hq
  have HT1 := hide hr
  have hrow1 := row_later h.row hbox
  have HROW1 := hide hrow1
  have HG1 := hide (grown_of_below hbox (some mb))
  have hsq := h.op.seq
  have hlen : n = qs.length := h.len
  have HLEN := hide hlen
  have hs1 := hsq.1
  have hs2 := hsq.2
  clear h hbi hgx hr hq hrow1 hlen hsq
  by_cases p1 : o.seq < -1000000
  · have hdp : decide (o.seq < -1000000) = true := decide_eq_true p1
    clear hv
    go_enter Try.func14, Try.ntmps14
    go_wp2
    go_ret2
    exact ⟨_, _, rfl, by rw [HTQ.out, ← HLEN.out]; exact HROW1.out, by rw [HTR.out]; exact HT1.out, fun _ => rfl, HBI0.out, HG1.out⟩
  · by_cases p2 : 1000000 < o.seq
    · have hdp : decide (o.seq < -1000000) = false := decide_eq_false p1
      clear hv
      go_enter Try.func14, Try.ntmps14
      go_wp2
      go_ret2
      exact ⟨_, _, rfl, by rw [HTQ.out, ← HLEN.out]; exact HROW1.out, by rw [HTR.out]; exact HT1.out, fun _ => rfl, HBI0.out, HG1.out⟩
    · have hdp : decide (o.seq < -1000000) = false := decide_eq_false p1
      go_enter Try.func14, Try.ntmps14
      go_wp2_with fail
      refine hv.mono ?_
      rintro e w1 ⟨v1, d, rfl, hd, hrow, hb1⟩
      have hB1 := HBOX.out.trans (hb1.mono HBOX.out.size)
      have h4 := refVictims_any (cap := cap) (p := o.seq) (row_later HROW1.out hb1) HLEN.out HP.out.qmay (by have := HP.out.l2; omega) (by omega) (by omega)
      have hrowI : w1.ownsRow (opBox w o.ask o).heap.size 3 1 v1 (rs.filter (pick q)).length (isV (((srtS d).toList.map (fun x => x.1)).map (fun x => x.1))) := by
        have e : isV (((srtS d).toList.map (fun x => x.1)).map (fun x : Ro => x.1)) = (srtS d).toList.map fun x => .int .i64 x.1.1 := by
          unfold isV; rw [List.map_map, List.map_map]; rfl
        rw [e]; exact hrow
      have HD := hide hd
      have HROWI := hide hrowI
      have HB1 := hide hB1
      have HB1' := hide hb1
      clear hv hd hrow hb1 hB1 hrowI
      go_wp2_with fail
      refine h4.mono ?_
      rintro e w2 ⟨hb2, v2, rfl, hrow2⟩
      have hlf := List.length_filter_le (pick q) rs
      have hld : (docV o.seq qs).length ≤ qs.length := by
        have h5 := hrow2.1
        have h6 : ∀ (l out : List Ro), (l.foldl insD out).length = out.length + l.length := by
          intro l
          induction l with
          | nil => intro out; rfl
          | cons x l ih => intro out; rw [List.foldl_cons, ih, insD_len, List.length_cons]; omega
        unfold docV
        rw [h6]
        have := List.length_filter_le (pickD o.seq) qs
        simp only [List.length_nil]; omega
      have h7 := ints_any (row_later HROWI.out hb2) hrow2 (by have := HP.out.l1; omega) (by have := HP.out.l2; have := HLEN.out; omega)
      have HB2 := hide hb2
      have HEQ : Hid (rs = qs → ((srtS d).toList.map (fun x => x.1)).map (fun x : Ro => x.1) = (docV o.seq qs).map (·.1)) := fun e => by
        subst e
        rw [docV_is HQ.out HP.out.qris HP.out.qmay HD.out]
      clear h4 hb2 hrow2 hlf hld
      go_wp2_with (go_at_call 24; refine h7.mono ?_; rintro e w3 ⟨⟨bb, rfl, hbb⟩, hb3⟩)
      go_ret2
      have hb13 := HB1'.out.trans (HB2.out.mono HB1'.out.size)
      have hb23 := hb13.trans (hb3.mono hb13.size)
      exact ⟨_, bb, rfl, by rw [HTQ.out, ← HLEN.out]; exact row_later HROW1.out hb23, by rw [HTR.out]; exact HT1.out.later hb23, fun e => hbb (HEQ.out e), HBI0.out.trans (hb23.mono HBI0.out.size), HG1.out.trans (grown_of_below hb23 _)⟩
end Li
end Go.Proofs.Ytgdfmoehbgmfkaa

namespace Go.Proofs.Ytgdfmoehbgmfkaa
open Go.RowKit
namespace Li
open Wi
theorem slice_one {w0 : World} {g n cap i : Nat} {xs : List Ro} {x : Ro} (hE : Er w0 (some ⟨g, 0, none⟩) n xs) (hx : xs[i]? = some x) (h2 : n ≤ cap) :
    ∃ ad : Addr, (∀ w, (Instr.slice 27 (.slice (some ⟨g, 0, none⟩) n cap) (some (.int .i64 (i : Int))) (some (.int .i64 ((i : Int) + 1))) none).run Try.prog w = .ok (.slice (some ad) 1 (cap - i)) w) ∧ ∀ w', Below w0.heap.size w0 w' → Er w' (some ad) 1 [x] := by
  have hl := hE.len
  have hi := (List.getElem?_eq_some_iff.1 hx).1
  refine ⟨⟨g, i * 3, none⟩, fun w => ?_, fun w' hb => ?_⟩
  · have e1 : (i : Int) + 1 = ((i + 1 : Nat) : Int) := by omega
    have b1 : i + 1 ≤ cap := by omega
    have b2 : ¬ cap < i + 1 := by omega
    have b3 : ¬ cap - i = 0 := by omega
    have b4 : ¬ cap = i := by omega
    obtain ⟨t, ht⟩ : ∃ t, t = i + 1 := ⟨_, rfl⟩
    have b5 : i ≤ t := by omega
    have b6 : t ≤ cap := by omega
    have b7 : t - i = 1 := by omega
    rw [e1, ← ht]
    clear e1 ht b1 b2
    simp [Instr.slice, Instr.sliceBounds, Instr.sliceBound, run_underlying Try.underlying27, asIntOf, b4, b5, b6, b7, Addr.add_lit]
  · refine ⟨rfl, fun y hy => by rw [List.mem_singleton.1 hy]; exact hE.rng x (List.mem_of_getElem? hx), fun j y hj => ?_⟩
    match j, hj with
    | 0, hj =>
      cases hj
      obtain ⟨g', off', e, hg, c0, c1, c2⟩ := (hE.later hb).cells i x hx
      injection e with e
      injection e with e1 e2
      subst e1 e2
      refine ⟨g, i * 3, rfl, hg, ?_, ?_, ?_⟩
      · simpa using c0
      · simpa using c1
      · simpa using c2
theorem er_one {s t l : Int} (w : World) (h : I64 s ∧ I64 t ∧ I64 l) : Er (w.alloc (.cells #[.int .i64 s, .int .i64 t, .int .i64 l] 58)) (some ⟨w.heap.size, 0, none⟩) 1 [(s, (t, l))] := by
  refine ⟨rfl, fun y hy => by rw [List.mem_singleton.1 hy]; exact h, fun j y hj => ?_⟩
  match j, hj with
  | 0, hj =>
    cases hj
    refine ⟨w.heap.size, 0, rfl, by simp, ?_, ?_, ?_⟩ <;> (rw [cell_of_row _ _ _ _ _ _ (heap_alloc_new w _)]; rfl)
/-- A slice of one row. -/
def oneS (x : Ro) : Wi.Spec := ⟨fun v w => ∃ g, v = .slice (some ⟨g, 0, none⟩) 1 1 ∧ Er w (some ⟨g, 0, none⟩) 1 [x], fun _ _ _ ⟨g, h1, h2⟩ hb => ⟨g, h1, h2.later hb⟩⟩

set_option maxHeartbeats 8000000 in
set_option maxRecDepth 100000 in
theorem does_get {wI w : World} {tb mb b0 : Nat} {rs qs : Rows} {a : Option Addr} {n cap : Nat} {o : OpV} (h : Pre wI w tb mb b0 rs qs a n cap o) (h0 : o.ask = 3) (hq : qs = rs ∨ qs = []) :
    Calls Try.prog 14 #[.pointer (some ⟨tb, 0, none⟩), .slice a n cap, .agg #[.int .i64 3, .int .i64 o.seq, .slice o.ra o.rn o.rcap, .slice o.ma o.mn o.mcap, .slice o.la o.ln o.lcap]] w fun e w' => Post wI w tb mb b0 rs qs o e w' := by
  have HP := hide h
  have hmw : mb < w.heap.size := h.tab.map.lt
  have hbox := below_alloc w (.cells #[.int .i64 3, .int .i64 o.seq, .slice o.ra o.rn o.rcap, .slice o.ma o.mn o.mcap, .slice o.la o.ln o.lcap] 33)
  have HBX := hide (box_cells (k := 3) (o := o) hmw (show (opBox w 3 o).grownBy (opBox w 3 o) (some mb) from ⟨rfl, rfl, rfl, Nat.le_refl _, fun _ _ _ => rfl⟩))
  have hbi := h.below.trans (hbox.mono h.below.size)
  have HBI0 := hide hbi
  have HBOX := hide hbox
  obtain ⟨c0, c1, c2, c3, c4⟩ := HBX.out
  unfold opBox at c0 c1 c2 c3 c4
  have hgx := box_grown w 3 o (some mb)
  unfold opBox at hgx
  have HGX := hide hgx
  have HTQ := hide (show opT qs o = qs by unfold opT; rw [if_neg (by omega), if_neg (by omega), if_neg (by omega)])
  have HTR := hide (show opT rs o = rs by unfold opT; rw [if_neg (by omega), if_neg (by omega), if_neg (by omega)])
  have hrow1 := row_later h.row hbox
  have HROW1 := hide hrow1
  have hT1 := h.tab.later hbox
  have HT1 := hide hT1
  have HG1 := hide (grown_of_below hbox (some mb))
  have hlen : n = qs.length := h.len
  have HLEN := hide hlen
  have HQ := hide hq
  have hER := er_own35 hrow1 hlen (fun x hx => may_rng (h.qmay x hx))
  have HER0 := hide hER
  have hseq := h.op.seq
  cases hg : getA rs o.seq with
  | none =>
    have h1 := get_none hT1 hseq hg
    have HGN := hide hg
    clear h hbi hgx h0 hq hrow1 hT1 hlen hER hg hseq
    go_enter Try.func14, Try.ntmps14
    go_wp2_with fail
    refine h1.mono ?_
    rintro e w1 ⟨rfl, hb1⟩
    have HB1 := hide (HBOX.out.trans (hb1.mono HBOX.out.size))
    have hBA := below_alloc w1 (.cells #[.int .i64 0, .int .i64 0, .int .i64 0] 58)
    have hf := find_any (q := o.seq) (cap := cap) (HER0.out.later (hb1.trans (hBA.mono hb1.size))) (by have := HP.out.l2; omega)
    have hblk := heap_alloc_new w1 (.cells #[.int .i64 0, .int .i64 0, .int .i64 0] 58)
    have HBLK := hide hblk
    have HB2 := hide (HB1.out.trans (hBA.mono HB1.out.size))
    have hc1 := (hb1.trans (hBA.mono hb1.size)).cell (p := ⟨w.heap.size, 1, none⟩) (by simp)
    rw [c1] at hc1
    have HB12 := hide (hb1.trans (hBA.mono hb1.size))
    clear h1 hb1 hBA hblk hbox c0 c1 c2 c3 c4
    go_wp2_with fail
    refine hf.mono ?_
    rintro e w2 ⟨hb2, ⟨rfl, hno⟩ | ⟨i, y, hy, hyk, rfl⟩⟩
    · have HB3 := hide (HB12.out.trans (hb2.mono HB12.out.size))
      have hbk : ∀ P : Later w2, P.val.cell? ⟨w1.heap.size, 0, none⟩ = some (.int .i64 0) ∧ P.val.cell? ⟨w1.heap.size, 1, none⟩ = some (.int .i64 0) ∧ P.val.cell? ⟨w1.heap.size, 2, none⟩ = some (.int .i64 0) := fun P => row_cells ((P.below.block w1.heap.size (Nat.lt_of_lt_of_le (by simp) hb2.size)).trans ((hb2.block w1.heap.size (by simp)).trans HBLK.out))
      have X0 := fun P => (hbk P).1
      have X1 := fun P => (hbk P).2.1
      have X2 := fun P => (hbk P).2.2
      have hne := later_ne w2
      clear hf hno hb2 hbk
      go_wp2
      refine wp_region_later (by kernel_rfl) (by kernel_rfl) ?_
      (repeat (first | go_big_quiet_skip | (go_big_quiet_want; go_big_quiet_op; go_big_quiet_on)))
      refine wpQuiet_nil ?_
      rintro _ ⟨P, rfl⟩
      go_wp2
      go_ret2
      have hb9 := HB3.out.trans (P.below.mono HB3.out.size)
      exact ⟨_, _, rfl, by rw [HTQ.out, ← HLEN.out]; exact row_later HROW1.out hb9, by rw [HTR.out]; exact HT1.out.later hb9, fun _ => rfl, HBI0.out.trans (hb9.mono HBI0.out.size), HG1.out.trans (grown_of_below hb9 _)⟩
    · exfalso
      rcases HQ.out with e | e
      · have := find_got HP.out.qris hy hyk
        rw [e, HGN.out] at this; cases this
      · rw [e] at hy; simp at hy
  | some p =>
    have h1 := get_some hT1 hseq hg
    have HGS := hide hg
    have hpm := may_rng (h.may _ (getA_mem hg))
    have HI := hide hpm
    obtain ⟨p1, p2⟩ := p
    simp only at h1
    clear h hbi hgx h0 hq hrow1 hT1 hlen hER hg hseq hpm
    go_enter Try.func14, Try.ntmps14
    go_wp2_with fail
    refine h1.mono ?_
    rintro e w1 ⟨rfl, hb1⟩
    have HB1 := hide (HBOX.out.trans (hb1.mono HBOX.out.size))
    have hBA := below_alloc w1 (.cells #[.int .i64 o.seq, .int .i64 p1, .int .i64 p2] 58)
    have hf := find_any (q := o.seq) (cap := cap) (HER0.out.later (hb1.trans (hBA.mono hb1.size))) (by have := HP.out.l2; omega)
    have hblk := heap_alloc_new w1 (.cells #[.int .i64 o.seq, .int .i64 p1, .int .i64 p2] 58)
    have HBLK := hide hblk
    have HB2 := hide (HB1.out.trans (hBA.mono HB1.out.size))
    have hc1 := (hb1.trans (hBA.mono hb1.size)).cell (p := ⟨w.heap.size, 1, none⟩) (by simp)
    rw [c1] at hc1
    have HB12 := hide (hb1.trans (hBA.mono hb1.size))
    clear h1 hb1 hBA hblk hbox c0 c1 c2 c3 c4
    go_wp2_with fail
    refine hf.mono ?_
    rintro e w2 ⟨hb2, ⟨rfl, hno⟩ | ⟨i, y, hy, hyk, rfl⟩⟩
    · have HB3 := hide (HB12.out.trans (hb2.mono HB12.out.size))
      have hne := later_ne w2
      have HNE : Hid (rs ≠ qs) := fun e => by
        have := find_get hno
        rw [← e, HGS.out] at this; cases this
      clear hf hno hb2
      go_wp2
      refine wp_region_later (by kernel_rfl) (by kernel_rfl) ?_
      (repeat (first | go_big_quiet_skip | (go_big_quiet_want; go_big_quiet_op; go_big_quiet_on)))
      refine wpQuiet_nil ?_
      rintro _ ⟨P, rfl⟩
      go_wp2
      go_ret2
      have hb9 := HB3.out.trans (P.below.mono HB3.out.size)
      exact ⟨_, _, rfl, by rw [HTQ.out, ← HLEN.out]; exact row_later HROW1.out hb9, by rw [HTR.out]; exact HT1.out.later hb9, fun e => absurd e HNE.out, HBI0.out.trans (hb9.mono HBI0.out.size), HG1.out.trans (grown_of_below hb9 _)⟩
    · have HB3 := hide (HB12.out.trans (hb2.mono HB12.out.size))
      have hqr : qs = rs := by
        rcases HQ.out with e | e
        · exact e
        · rw [e] at hy; simp at hy
      have hyv : y = (o.seq, p1, p2) := by
        have h5 := find_got HP.out.qris hy hyk
        rw [hqr, HGS.out] at h5
        injection h5 with h5
        exact Prod.ext hyk h5.symm
      subst hyv
      obtain ⟨g, gcap, hgv, hgb⟩ := row_form (own_base HROW1.out (Nat.zero_le _)) (by have := (List.getElem?_eq_some_iff.1 hy).1; have := HLEN.out; omega)
      injection hgv with e1 _ e3
      subst e1 e3
      have hcapn : n ≤ cap := by
        rcases HROW1.out.2 with ⟨hv, _⟩ | ⟨g', cap', cur, hv, hb', hgg', h3, rest⟩
        · cases hv
        · injection hv with _ _ e3; omega
      obtain ⟨ad, hsl, hcl⟩ := slice_one (HER0.out.later HB3.out) hy hcapn
      have HER : Hid (∀ w', Below w2.heap.size w2 w' → Er w' (some ad) 1 [(o.seq, p1, p2)]) := hcl
      have HBK : Hid (∀ w', Below w2.heap.size w2 w' → w'.cell? ⟨w1.heap.size, 0, none⟩ = some (.int .i64 o.seq) ∧ w'.cell? ⟨w1.heap.size, 1, none⟩ = some (.int .i64 p1) ∧ w'.cell? ⟨w1.heap.size, 2, none⟩ = some (.int .i64 p2)) := fun w' hb => row_cells ((hb.block w1.heap.size (Nat.lt_of_lt_of_le (by simp) hb2.size)).trans ((hb2.block w1.heap.size (by simp)).trans HBLK.out))
      obtain ⟨B, hB⟩ : ∃ B, B = w1.heap.size := ⟨_, rfl⟩
      rw [← hB] at HBK
      have hge : (0 : Int) ≤ (i : Int) := by omega
      have hib : (i : Int) + 1 ≤ 9223372036854775807 := by have := (List.getElem?_eq_some_iff.1 hy).1; have := HLEN.out; have := HP.out.l2; omega
      have hdl : decide ((i : Int) < 0) = false := decide_eq_false (by omega)
      have hwr : IntKind.i64.wrap ((i : Int) + 1) = (i : Int) + 1 := by rw [IntKind.wrap_i64]; omega
      clear hf hb2 hcl hy hyk
      go_wp2_with fail
      rw [← hB]
      clear hB
      refine Wi.wp_region_specs [.val (.slice (some ⟨g, 0, none⟩) n cap), .val (.int .i64 0), .val (.bool true), .val (.bool true), .val (.agg #[.int .i64 o.seq, .int .i64 p1, .int .i64 p2]), oneS (o.seq, p1, p2), .val (.slice (some ⟨g, 0, none⟩) n cap), .val (.int .i64 i), .val (.int .i64 i), .val (.int .i64 (i + 1)), .val (.slice (some ad) 1 (cap - i)), .val (.bool true), .val (.bool true), .val (.slice (some ⟨g, 0, none⟩) n cap), .val (.bool true)] (by kernel_rfl) (by kernel_rfl) ?_ ?_
      · refine ⟨?_, ?_⟩
        · intro A w1 hb ho hd
          have e1 : A.tmps[1]?.getD undef = .slice (some ⟨g, 0, none⟩) n cap := Wi.olds_get ho 1 (by kernel_rfl)
          refine ⟨rfl, Wi.goes_value (v := .slice (some ⟨g, 0, none⟩) n cap) ?_ rfl⟩
          simp [go_sem, e1]
        refine ⟨?_, ?_⟩
        · intro A w1 hb ho hd
          have e18 : A.tmps[18]?.getD undef = .int .i64 0 := Wi.olds_get ho 18 (by kernel_rfl)
          refine ⟨rfl, Wi.goes_value (v := .int .i64 0) ?_ rfl⟩
          simp [go_sem, e18]
        refine ⟨?_, ?_⟩
        · intro A w1 hb ho hd
          have e103 : A.tmps[103]?.getD undef = .int .i64 0 := Wi.getq (hd _ (Array.mem_of_getElem? (i := 0) rfl) rfl _ _ rfl rfl)
          refine ⟨rfl, Wi.goes_value (v := .bool true) ?_ rfl⟩
          simp [go_sem, e103]
        refine ⟨?_, ?_⟩
        · intro A w1 hb ho hd
          have e104 : A.tmps[104]?.getD undef = .bool true := Wi.getq (hd _ (Array.mem_of_getElem? (i := 0) rfl) rfl _ _ rfl rfl)
          refine ⟨rfl, Wi.goes_value (v := .bool true) ?_ rfl⟩
          simp [go_sem, e104]
        refine ⟨?_, ?_⟩
        · intro A w1 hb ho hd
          have e17 : A.tmps[17]?.getD undef = .pointer (some ⟨B, 0, none⟩) := Wi.olds_get ho 17 (by kernel_rfl)
          obtain ⟨z0, z1, z2⟩ := HBK.out w1 hb
          refine ⟨Wi.want_true rfl rfl rfl (hd _ (Array.mem_of_getElem? (i := 0) rfl) rfl _ _ rfl rfl), Wi.goes_value (v := .agg #[.int .i64 o.seq, .int .i64 p1, .int .i64 p2]) ?_ rfl⟩
          simp [go_sem, e17, z0, z1, z2]
        refine ⟨?_, ?_⟩
        · intro A w1 hb ho hd
          have e106 : A.tmps[106]?.getD undef = .agg #[.int .i64 o.seq, .int .i64 p1, .int .i64 p2] := Wi.getq (hd _ (Array.mem_of_getElem? (i := 0) rfl) rfl _ _ rfl rfl)
          refine ⟨Wi.want_true rfl rfl rfl (hd _ (Array.mem_of_getElem? (i := 1) rfl) rfl _ _ rfl rfl), Wi.goes_alloc (v := .slice (some ⟨w1.heap.size, 0, none⟩) 1 1) (o := .cells #[.int .i64 o.seq, .int .i64 p1, .int .i64 p2] 58) ?_ ⟨_, rfl, er_one w1 HI.out⟩⟩
          simp [go_sem, e106]
        refine ⟨?_, ?_⟩
        · intro A w1 hb ho hd
          have e1 : A.tmps[1]?.getD undef = .slice (some ⟨g, 0, none⟩) n cap := Wi.olds_get ho 1 (by kernel_rfl)
          refine ⟨Wi.want_true rfl rfl rfl (hd _ (Array.mem_of_getElem? (i := 0) rfl) rfl _ _ rfl rfl), Wi.goes_value (v := .slice (some ⟨g, 0, none⟩) n cap) ?_ rfl⟩
          simp [go_sem, e1]
        refine ⟨?_, ?_⟩
        · intro A w1 hb ho hd
          have e19 : A.tmps[19]?.getD undef = .int .i64 i := Wi.olds_get ho 19 (by kernel_rfl)
          refine ⟨Wi.want_true rfl rfl rfl (hd _ (Array.mem_of_getElem? (i := 0) rfl) rfl _ _ rfl rfl), Wi.goes_value (v := .int .i64 i) ?_ rfl⟩
          simp [go_sem, e19]
        refine ⟨?_, ?_⟩
        · intro A w1 hb ho hd
          have e19 : A.tmps[19]?.getD undef = .int .i64 i := Wi.olds_get ho 19 (by kernel_rfl)
          refine ⟨Wi.want_true rfl rfl rfl (hd _ (Array.mem_of_getElem? (i := 0) rfl) rfl _ _ rfl rfl), Wi.goes_value (v := .int .i64 i) ?_ rfl⟩
          simp [go_sem, e19]
        refine ⟨?_, ?_⟩
        · intro A w1 hb ho hd
          have e110 : A.tmps[110]?.getD undef = .int .i64 i := Wi.getq (hd _ (Array.mem_of_getElem? (i := 0) rfl) rfl _ _ rfl rfl)
          refine ⟨Wi.want_true rfl rfl rfl (hd _ (Array.mem_of_getElem? (i := 1) rfl) rfl _ _ rfl rfl), Wi.goes_value (v := .int .i64 (i + 1)) ?_ rfl⟩
          simp [go_sem, e110, hwr]
        refine ⟨?_, ?_⟩
        · intro A w1 hb ho hd
          have e108 : A.tmps[108]?.getD undef = .slice (some ⟨g, 0, none⟩) n cap := Wi.getq (hd _ (Array.mem_of_getElem? (i := 0) rfl) rfl _ _ rfl rfl)
          have e109 : A.tmps[109]?.getD undef = .int .i64 i := Wi.getq (hd _ (Array.mem_of_getElem? (i := 1) rfl) rfl _ _ rfl rfl)
          have e111 : A.tmps[111]?.getD undef = .int .i64 (i + 1) := Wi.getq (hd _ (Array.mem_of_getElem? (i := 2) rfl) rfl _ _ rfl rfl)
          have z := hsl w1
          refine ⟨Wi.want_true rfl rfl rfl (hd _ (Array.mem_of_getElem? (i := 3) rfl) rfl _ _ rfl rfl), Wi.goes_value (v := .slice (some ad) 1 (cap - i)) ?_ rfl⟩
          simp [go_sem, e108, e109, e111, z]
        refine ⟨?_, ?_⟩
        · intro A w1 hb ho hd
          obtain ⟨g5, ev5, hE5⟩ := hd _ (Array.mem_of_getElem? (i := 0) rfl) rfl _ _ rfl rfl
          have e107 := Wi.getq ev5
          have e112 : A.tmps[112]?.getD undef = .slice (some ad) 1 (cap - i) := Wi.getq (hd _ (Array.mem_of_getElem? (i := 1) rfl) rfl _ _ rfl rfl)
          refine ⟨Wi.want_true rfl rfl rfl (hd _ (Array.mem_of_getElem? (i := 2) rfl) rfl _ _ rfl rfl), Wi.goes_call (f := 16) (args := #[.slice (some ⟨g5, 0, none⟩) 1 1, .slice (some ad) 1 (cap - i)]) ?_ (same_any hE5 (HER.out w1 hb) (by omega))⟩
          simp [go_sem, e107, e112]
        refine ⟨?_, ?_⟩
        · intro A w1 hb ho hd
          have e105 : A.tmps[105]?.getD undef = .bool true := Wi.getq (hd _ (Array.mem_of_getElem? (i := 0) rfl) rfl _ _ rfl rfl)
          have e113 : A.tmps[113]?.getD undef = .bool true := Wi.getq (hd _ (Array.mem_of_getElem? (i := 1) rfl) rfl _ _ rfl rfl)
          refine ⟨rfl, Wi.goes_value (v := .bool true) ?_ rfl⟩
          simp [go_sem, e105, e113]
        refine ⟨?_, ?_⟩
        · intro A w1 hb ho hd
          have e102 : A.tmps[102]?.getD undef = .slice (some ⟨g, 0, none⟩) n cap := Wi.getq (hd _ (Array.mem_of_getElem? (i := 0) rfl) rfl _ _ rfl rfl)
          refine ⟨rfl, Wi.goes_value (v := .slice (some ⟨g, 0, none⟩) n cap) ?_ rfl⟩
          simp [go_sem, e102]
        refine ⟨?_, ?_⟩
        · intro A w1 hb ho hd
          have e114 : A.tmps[114]?.getD undef = .bool true := Wi.getq (hd _ (Array.mem_of_getElem? (i := 0) rfl) rfl _ _ rfl rfl)
          refine ⟨rfl, Wi.goes_value (v := .bool true) ?_ rfl⟩
          simp [go_sem, e114]
        trivial
      · intro A w9 hb9 hdf hsz hol hft
        have m102 : A.tmps.getD 102 undef = .slice (some ⟨g, 0, none⟩) n cap := hft 0 _ 102 rfl rfl
        have m103 : A.tmps.getD 103 undef = .int .i64 0 := hft 1 _ 103 rfl rfl
        have m104 : A.tmps.getD 104 undef = .bool true := hft 2 _ 104 rfl rfl
        have m105 : A.tmps.getD 105 undef = .bool true := hft 3 _ 105 rfl rfl
        have m106 : A.tmps.getD 106 undef = .agg #[.int .i64 o.seq, .int .i64 p1, .int .i64 p2] := hft 4 _ 106 rfl rfl
        have m108 : A.tmps.getD 108 undef = .slice (some ⟨g, 0, none⟩) n cap := hft 6 _ 108 rfl rfl
        have m109 : A.tmps.getD 109 undef = .int .i64 i := hft 7 _ 109 rfl rfl
        have m110 : A.tmps.getD 110 undef = .int .i64 i := hft 8 _ 110 rfl rfl
        have m111 : A.tmps.getD 111 undef = .int .i64 (i + 1) := hft 9 _ 111 rfl rfl
        have m112 : A.tmps.getD 112 undef = .slice (some ad) 1 (cap - i) := hft 10 _ 112 rfl rfl
        have m113 : A.tmps.getD 113 undef = .bool true := hft 11 _ 113 rfl rfl
        have m114 : A.tmps.getD 114 undef = .bool true := hft 12 _ 114 rfl rfl
        have m6 : A.tmps.getD 6 undef = .slice (some ⟨g, 0, none⟩) n cap := hft 13 _ 6 rfl rfl
        have m7 : A.tmps.getD 7 undef = .bool true := hft 14 _ 7 rfl rfl
        rename_i KK hKK
        refine hKK _ _ ?_
        show Code.wp _ _ _ A w9
        rw [Wi.frame_puts hdf hsz hol]
        simp only [List.foldl_cons, List.foldl_nil, Act.put, Option.getD_some, m102, m103, m104, m105, m106, m108, m109, m110, m111, m112, m113, m114, m6, m7, List.setIfInBounds_toArray, List.set_cons_succ, List.set_cons_zero]
        generalize A.tmps.getD 107 undef = z107
        clear m102 m103 m104 m105 m106 m108 m109 m110 m111 m112 m113 m114 m6 m7 hft hol hsz hdf hKK
        go_wp2
        go_ret2
        have hb99 := HB3.out.trans (hb9.mono HB3.out.size)
        exact ⟨_, _, rfl, by rw [HTQ.out, ← HLEN.out]; exact row_later HROW1.out hb99, by rw [HTR.out]; exact HT1.out.later hb99, fun _ => rfl, HBI0.out.trans (hb99.mono HBI0.out.size), HG1.out.trans (grown_of_below hb99 _)⟩
end Li
end Go.Proofs.Ytgdfmoehbgmfkaa

namespace Go.Proofs.Ytgdfmoehbgmfkaa
open Go.RowKit
namespace Li
open Wi
theorem does_any {wI w : World} {tb mb b0 : Nat} {rs qs : Rows} {a : Option Addr} {n cap : Nat} {o : OpV} (h : Pre wI w tb mb b0 rs qs a n cap o) (hq : qs = rs ∨ qs = []) :
    Calls Try.prog 14 #[.pointer (some ⟨tb, 0, none⟩), .slice a n cap, .agg #[.int .i64 o.ask, .int .i64 o.seq, .slice o.ra o.rn o.rcap, .slice o.ma o.mn o.mcap, .slice o.la o.ln o.lcap]] w fun e w' => Post wI w tb mb b0 rs qs o e w' := by
  by_cases h0 : o.ask = 0
  · rw [h0]; exact does_add h h0
  · by_cases h1 : o.ask = 1
    · rw [h1]; exact does_drop h h1
    · by_cases h2 : o.ask = 2
      · rw [h2]; exact does_change h h2
      · by_cases h3 : o.ask = 3
        · rw [h3]; exact does_get h h3 hq
        · exact does_vic h h0 h1 h2 h3
theorem few_get {o : OpV} (h : o.few = true) : o.rn ≤ 20 ∧ o.mn ≤ 20 ∧ o.ln ≤ 20 := by
  unfold OpV.few at h
  simp only [Bool.and_eq_true, decide_eq_true_eq] at h
  exact ⟨h.1.1, h.1.2, h.2⟩
theorem does_nil {wI w : World} {tb mb : Nat} {rs : Rows} {o : OpV} (hT : Tab w tb mb rs) (hmay : ∀ x ∈ rs, mayRo x = true) (hop : OpOk wI o) (hf : o.few = true) (hB : Below wI.heap.size wI w) (hmb : wI.heap.size ≤ mb) (hl : rs.length ≤ 2000) :
    Calls Try.prog 14 #[.pointer (some ⟨tb, 0, none⟩), .slice none 0 0, .agg #[.int .i64 o.ask, .int .i64 o.seq, .slice o.ra o.rn o.rcap, .slice o.ma o.mn o.mcap, .slice o.la o.ln o.lcap]] w fun e w' => ∃ v bb, e = .returned (.tuple #[v, .bool bb]) ∧ Tab w' tb mb (opT rs o) ∧ Below wI.heap.size wI w' ∧ w.grownBy w' (some mb) := by
  obtain ⟨f1, f2, f3⟩ := few_get hf
  have h : Pre wI w tb mb (mb + 1) rs [] none 0 0 o := ⟨hT, hmay, ris_nil, (fun x hx => by cases hx), World.ownsRow_nil _ _ _ _, rfl, hop, f1, f2, f3, hB, hmb, Nat.lt_succ_self _, hT.map.lt, hl, by omega⟩
  refine (does_any h (.inr rfl)).mono fun e w' ⟨v, bb, he, _, hT', _, hb', hg'⟩ => ⟨v, bb, he, hT', hb', hg'⟩
/-- What calls make of an empty table. -/
def runT (os : List OpV) : Rows := os.foldl opT []
theorem runT_snoc (os : List OpV) (o : OpV) : runT (os ++ [o]) = opT (runT os) o := by simp [runT, List.foldl_append]
theorem fold_facts : ∀ (os : List OpV) (rs : Rows), Ris rs → (∀ x ∈ rs, mayRo x = true) → (∀ o ∈ os, o.rs.length ≤ 20) → Ris (os.foldl opT rs) ∧ (∀ x ∈ os.foldl opT rs, mayRo x = true) ∧ (os.foldl opT rs).length ≤ rs.length + 20 * os.length
  | [], rs, h1, h2, _ => ⟨h1, h2, by simp⟩
  | o :: os, rs, h1, h2, h3 => by
    have f := opT_facts o h1 h2
    obtain ⟨g1, g2, g3⟩ := fold_facts os (opT rs o) f.1 f.2.1 (fun x hx => h3 x (by simp [hx]))
    refine ⟨g1, g2, ?_⟩
    have := h3 o (by simp)
    have := f.2.2
    simp only [List.foldl_cons, List.length_cons] at *
    omega
theorem runT_facts {os : List OpV} (h : ∀ o ∈ os, o.rs.length ≤ 20) : Ris (runT os) ∧ (∀ x ∈ runT os, mayRo x = true) ∧ (runT os).length ≤ 20 * os.length := by
  have := fold_facts os [] ris_nil (fun x hx => by cases hx) h
  simpa [runT] using this
theorem few_all {os : List OpV} (h : fewL os = true) : (∀ o ∈ os, o.few = true) ∧ os.length ≤ 40 := by
  unfold fewL at h
  rw [Bool.and_eq_true, decide_eq_true_eq, List.all_eq_true] at h
  exact h
theorem run_facts {w : World} {os : List OpV} (hf : fewL os = true) (hok : ∀ o ∈ os, OpOk w o) (k : Nat) : Ris (runT (os.take k)) ∧ (∀ x ∈ runT (os.take k), mayRo x = true) ∧ (runT (os.take k)).length ≤ 800 := by
  have h1 := few_all hf
  have h2 : ∀ o ∈ os.take k, o.rs.length ≤ 20 := fun o ho => by
    have hm := List.mem_of_mem_take ho
    have := (few_get (h1.1 o hm)).1
    have := (hok o hm).rs.len
    omega
  have h3 := runT_facts h2
  have : (os.take k).length ≤ os.length := by rw [List.length_take]; omega
  exact ⟨h3.1, h3.2.1, by omega⟩
theorem grown_low {wI w w' : World} {mb : Nat} (hb : Below wI.heap.size wI w) (hg : w.grownBy w' (some mb)) (hm : wI.heap.size ≤ mb) : Below wI.heap.size wI w' := hb.grown hg hb.size (fun i hi => by cases hi; exact hm)
end Li
end Go.Proofs.Ytgdfmoehbgmfkaa
