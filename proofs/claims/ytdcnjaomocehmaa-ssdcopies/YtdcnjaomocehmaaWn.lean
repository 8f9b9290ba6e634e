/- A part of the proofs about package ssd: what its functions answer, call by call. -/
import Derived.Test.YtdcnjaomocehmaaWm
namespace Go.Proofs.Ytdcnjaomocehmaa
open Go.RowKit
namespace Wi

theorem splice_more {β : Type} (L A B : List β) (o : Nat) (h : (L.drop (o + A.length)).take B.length = B) : splice L o A = splice L o (A ++ B) := by
  unfold splice
  have e : L.drop (o + A.length) = B ++ L.drop (o + (A ++ B).length) := by
    have h1 := List.take_append_drop B.length (L.drop (o + A.length))
    rw [h, List.drop_drop] at h1
    rw [List.length_append, ← Nat.add_assoc]
    exact h1.symm
  rw [List.append_assoc, ← e]
/-- A part of a sector is written, from its first byte on. -/
theorem Raw.setPart {w : World} {b : Nat} {sv pv : Value} {z : Int} {g : Bool} {cur : List (List Nat)} {log : List (Nat × List Nat)} {gs cap : Nat} (h : Raw w b sv pv z g cur log) (hv : sv = .slice (some ⟨gs, 0, none⟩) cur.length cap) {i : Nat} {s A : List Nat} (hi : cur[i]? = some s) (hA : A.length ≤ 64) :
    Raw (w.setCells gs (i * 64) (encB A)) b sv pv z g (cur.set i (A ++ s.drop A.length)) log := by
  have hil : i < cur.length := (List.getElem?_eq_some_iff.1 hi).1
  have hs : s.length = 64 := h.whole s (List.mem_of_getElem? hi)
  have hb : sv.ownBlock = some gs := by rw [hv]; rfl
  have k := Keep.setCells (X := fun j => j = gs) gs rfl (encB A) (i * 64) w
  have hse := h.sec
  rw [hv] at hse
  have h2 := row_store hse (o := i * 64) (vs := encB A) (by rw [encB_length]; omega) (encB_oneCell A)
  have hl2 : (A ++ s.drop A.length).length = 64 := by rw [List.length_append, List.length_drop]; omega
  have e : splice (encS cur) (i * 64) (encB A) = encS (cur.set i (A ++ s.drop A.length)) := by
    rw [encS, encS, flat_set cur i _ (encS_whole h) (by rw [encB_length, hl2]) hil, encB_append]
    refine splice_more _ _ _ _ ?_
    have hp := flat_part cur i s (encS_whole h) hi
    rw [encB_length, encB_length, ← List.drop_drop]
    have h3 : ((cur.flatMap encB).drop (i * 64)).drop A.length = (((cur.flatMap encB).drop (i * 64)).take 64 ++ ((cur.flatMap encB).drop (i * 64)).drop 64).drop A.length := by rw [List.take_append_drop]
    rw [h3, hp, List.drop_append_of_le_length (by rw [encB_length]; omega)]
    have h4 : (encB s).drop A.length = encB (s.drop A.length) := by unfold encB; rw [List.map_drop]
    rw [h4]
    have h5 := List.take_left (l₁ := encB (s.drop A.length)) (l₂ := ((cur.flatMap encB).drop (i * 64)).drop 64)
    rwa [encB_length] at h5
  rw [e] at h2
  refine ⟨(k.block b h.lt fun e => h.ns (by rw [hb, e])).trans h.blk, by rw [hv, List.length_set]; exact h2, row_keep h.chg k fun j hj e => h.nn gs hb (by rw [← e]; exact hj), set_whole h.whole hl2, by rw [List.length_set]; exact h.lwhole, h.ns, h.np, h.nn, by rw [List.length_set]; exact h.most⟩
/-- A slice's memory, apart from X, holds these numbers. -/
structure Ks (w : World) (X : Nat → Prop) (a : Option Addr) (n : Nat) (keep : List Int) : Prop where
  len : n = keep.length
  most : n ≤ 9223372036854775807
  num : ∀ x ∈ keep, -9223372036854775808 ≤ x ∧ x ≤ 9223372036854775807
  cells : ∀ i x, keep[i]? = some x → ∃ g off, a = some ⟨g, off, none⟩ ∧ g < w.heap.size ∧ ¬ X g ∧ w.cell? ⟨g, off + i, none⟩ = some (.int .i64 x)
theorem keep_cell {X : Nat → Prop} {w w' : World} (k : Keep X w w') {g i : Nat} (hg : g < w.heap.size) (hx : ¬ X g) : w'.cell? ⟨g, i, none⟩ = w.cell? ⟨g, i, none⟩ := World.cell?_of_block (k.block g hg hx)
theorem alloc69 : ∃ z : Array Value, z.size = 65 ∧ ∀ w, (Instr.alloc 69 true (.tuple #[])).run Try.prog w = .ok (.pointer (some ⟨w.heap.size, 0, none⟩)) (w.alloc (.cells z 69)) := by
  obtain ⟨i, z, hi, hz, hc, h1, h2⟩ := info_big info69
  exact ⟨z.cells, hc, fun w => by simp [Instr.alloc, newVar, newRow, zeroValue, typeInfo, hi, hz]⟩
/-- A new variable of a change. -/
theorem var_change (w : World) (z : Array Value) (hz : z.size = 65) (p : Nat × List Nat) (hp : p.2.length = 64) : (w.alloc (.cells z 69)).there w.heap.size 0 (encC p).toArray.size ∧ Below w.heap.size w ((w.alloc (.cells z 69)).setCells w.heap.size 0 (encC p)) ∧
    ((w.alloc (.cells z 69)).setCells w.heap.size 0 (encC p)).heap[w.heap.size]? = some (.cells (encC p).toArray 69 (0, 0)) := by
  have hn := heap_alloc_new w (.cells z 69)
  have hl := encC_length hp
  refine ⟨fun j hj => ?_, ?_, ?_⟩
  · rw [List.size_toArray, hl] at hj
    exact ⟨by rw [cell_of_row _ _ _ _ _ _ hn, Array.getElem?_eq_getElem (by omega)]; rfl, frozen_of_row _ _ _ _ _ hn⟩
  · have k := Keep.setCells (X := fun j => j = w.heap.size) w.heap.size rfl (encC p) 0 (w.alloc (.cells z 69))
    have b0 := below_alloc w (.cells z 69)
    have b1 := k.below (B := w.heap.size) b0.size (fun i hi e => by omega)
    exact b0.trans b1
  · rw [setCells_eq_setRow hn (by omega) (encC_oneCell p), setRow_heap _ _ _ _ _ _ hn]
    congr 3
    unfold splice
    rw [hl]
    simp
    omega
theorem wpList_load_midX {P : Program} {ops : Array Oper} {rest : List Oper} {op : Oper} {a : Act} {w : World} {Q : Exit → Act → World → Prop} (dst : Option Nat) (hd : op.dst = dst) (hgd : op.guard = none) (ty : TypeId) (x : Operand) (ho : op.op = .load ty x)
    (b o : Nat) (hx : a.eval x = .pointer (some ⟨b, o, none⟩)) (cs : List Value) (d : TypeDesc) (hc : w.rangeAt b o cs)
    (hu : P.underlying ty = some d) (hr : d.isRow = true) (hi : (P.info? ty).map (·.size) = some cs.length)
    (h : wpList P ops Q rest (a.put dst (.agg cs.toArray)) w) : wpList P ops Q (op :: rest) a w :=
  wpList_load_mid hgd ty x ho b o hx cs d hc hu hr hi (by rw [hd]; exact h)
theorem exec_alloc69 {a : Act} {w : World} {o : Oper} (ho : o.op = .alloc 69) (z : Array Value) (hz : ∀ w, (Instr.alloc 69 true (.tuple #[])).run Try.prog w = .ok (.pointer (some ⟨w.heap.size, 0, none⟩)) (w.alloc (.cells z 69))) :
    (execOp a.eval o).run Try.prog w = .ok (.value (.pointer (some ⟨w.heap.size, 0, none⟩))) (w.alloc (.cells z 69)) := by
  unfold execOp
  simp only [ho, Sem.run_bind, hz, Result.andThen_ok, Sem.run_pure]
theorem wpList_copy_cells {P : Program} {ops : Array Oper} {rest : List Oper} {op : Oper} {a : Act} {w : World} {Q : Exit → Act → World → Prop} (dst : Option Nat) (hdst : op.dst = dst) (hgd : op.guard = none) (x y : Operand) (dT sT elem : TypeId) (ho : op.op = .call { callee := .builtin .copy, args := #[x, y], argTypes := #[dT, sT] })
    (b o dLen dCap : Nat) (ad : Addr) (sLen sCap : Nat) (cs : List Value) (hd : a.eval x = .slice (some ⟨b, o, none⟩) dLen dCap) (hs : a.eval y = .slice (some ad) sLen sCap)
    (hu : P.underlying dT = some (.slice elem)) (hsz : (P.info? elem).map (·.size) = some 1) (hn : cs.length = Nat.min sLen dLen)
    (hsrc : ∀ j v, cs[j]? = some v → w.cell? (ad.add j) = some v) (hth : w.there b o cs.length) (h1 : ∀ v ∈ cs, v.oneCell' = true)
    (h : wpList P ops Q rest (a.put dst (goInt cs.length)) (w.setCells b o cs)) : wpList P ops Q (op :: rest) a w := by
  subst hdst
  refine wpList_plain hgd fun K hK => ?_
  have hrun := run_copy_cells (P := P) w dT sT op.type elem b o dLen dCap ad sLen sCap cs hu hsz hn hsrc (fun j hj => (hth j hj).1) (fun j hj => (hth j hj).2) h1
  unfold Oper.wp
  simp [execOp, ho, resolve, invoke, builtin, hd, hs, hrun, Result.andThen]
  exact hK _ _ h
/-- The device in a crash: of k writes it is known what is left. -/
structure Cr (w : World) (b : Nat) (sv pv : Value) (z : Int) (d : Dv) (keep : List Int) (k : Nat) (wr : World) : Prop where
  raw : Raw wr b sv pv z d.gone (crashes d.last (d.pend.take k) keep) d.pend
  keep : Keep (xDev b sv pv) w wr
theorem Cr.later {w wr w2 : World} {b : Nat} {sv pv : Value} {z : Int} {d : Dv} {keep : List Int} {k : Nat} (h : Cr w b sv pv z d keep k wr) (hb : Below wr.heap.size wr w2) : Cr w b sv pv z d keep k w2 :=
  ⟨h.raw.later hb, h.keep.trans (Keep.of_below (X := xDev b sv pv) hb) fun _ _ e => e⟩
theorem Cr.next {w wr : World} {b : Nat} {sv pv : Value} {z : Int} {d : Dv} {keep : List Int} {k : Nat} (h : Cr w b sv pv z d keep k wr) {p : Nat × List Nat} (hp : d.pend[k]? = some p) {gs cap : Nat} (hv : sv = .slice (some ⟨gs, 0, none⟩) d.last.length cap) (hok : d.Ok) {F : Int} (hF : keep.getD k 0 = F) :
    Cr w b sv pv z d keep (k + 1) (wr.setCells gs (p.1 * 64) (encB (p.2.take (kept (how F))))) := by
  have hpk := hok.pend p (List.mem_of_getElem? hp)
  have hcl : (crashes d.last (d.pend.take k) keep).length = d.last.length := crashes_length _ _ _
  have hk : k < d.pend.length := (List.getElem?_eq_some_iff.1 hp).1
  have hS : (crashes d.last (d.pend.take k) keep)[p.1]? = some ((crashes d.last (d.pend.take k) keep).getD p.1 []) := by
    rw [List.getD, List.getElem?_eq_getElem (by omega)]; rfl
  have hSl := h.raw.whole _ (List.mem_of_getElem? hS)
  have hle := kept_le (how F)
  refine ⟨?_, h.keep.trans (Keep.setCells (X := xDev b sv pv) gs (.inr (.inl (by rw [hv]; rfl))) _ _ _) fun _ _ e => e⟩
  have R := h.raw.setPart (gs := gs) (cap := cap) (by rw [hv, hcl]) hS (A := p.2.take (kept (how F))) (by rw [List.length_take]; omega)
  rw [snoc_take _ _ _ hp, crashes_snoc, List.length_take, Nat.min_eq_left (by omega), hF, left1_kept hpk.2 hSl]
  rw [List.length_take, hpk.2, Nat.min_eq_left hle] at R
  exact R
theorem same_b {P : Program} {f : FuncId} {args : Array Value} {w : World} {v : Value} (h : Calls P f args w fun e w' => e = .returned v ∧ w' = w) : Calls P f args w fun e w' => e = .returned v ∧ Below w.heap.size w w' :=
  h.mono fun _ _ ⟨he, hw⟩ => ⟨he, by rw [hw]; exact Below.refl _ _⟩
set_option maxHeartbeats 4000000 in
theorem crash_any {w : World} {b : Nat} {X : Nat → Prop} {d : Dv} (h : Dev w b X d) {a : Option Addr} {n cap : Nat} {keep : List Int} (hk : Ks w X a n keep) :
    Calls Try.prog 22 #[.pointer (some ⟨b, 0, none⟩), .slice a n cap] w fun e w' => e = .returned (.tuple #[]) ∧ Left w b X (d.crash keep) w' := by
  obtain ⟨sv, pv, z, h, rfl⟩ := h
  have hm := h.ok.most
  have hkm := hk.most
  have hkl := hide hk.len
  have hbk := back_any h
  obtain ⟨zz, hzz, hal⟩ := alloc69
  have hdl : d.pend.length ≤ 9223372036854775807 := by
    rcases h.raw.chg.2 with ⟨hv, h0⟩ | ⟨g, cap, cur, hv, _, hgg, h1, h2, _⟩
    · rw [logOf_length] at h0; omega
    · rw [logOf_length] at h1; unfold maxLen at h2; omega
  go_enter Try.func22, Try.ntmps22
  go_wp2_with fail
  refine hbk.mono ?_
  rintro e w1 ⟨rfl, hB⟩
  have hC0 : Cr w b sv pv z d keep 0 w1 := by
    refine ⟨?_, hB.keep⟩
    have := hB.raw
    rw [List.take_zero, logAt_zero] at this
    exact this
  clear hbk hB
  obtain ⟨ap, cp, hpv0⟩ := row_slice hC0.raw.chg
  have c1 := hC0.raw.c.2.1
  rw [hpv0] at c1
  have HPV0 := hide hpv0
  clear hpv0
  go_wp2
  go_loopw [16] (fun i wr => ∃ k : Nat, k ≤ d.pend.length ∧ i = .int .i64 k ∧ Cr w b sv pv z d keep k wr) (fun i _ => d.pend.length - (intOf i).toNat)
  case atStart => exact ⟨0, Nat.zero_le _, rfl, hC0⟩
  case round =>
    clear c1
    obtain ⟨k, hkk, rfl, hw⟩ := hrel
    by_cases hlt : k < d.pend.length
    · obtain ⟨⟨P1, P2⟩, hP⟩ : ∃ p, d.pend[k]? = some p := ⟨_, List.getElem?_eq_getElem hlt⟩
      have hok := h.ok.pend (P1, P2) (List.mem_of_getElem? hP)
      simp only at hok
      have hcl : (crashes d.last (d.pend.take k) keep).length = d.last.length := crashes_length _ _ _
      obtain ⟨gs, cs, hsv, hgs⟩ := row_form hw.raw.sec (by omega)
      obtain ⟨gp, cp', hpv, hgp⟩ := row_form hw.raw.chg (by omega)
      obtain ⟨hr2, ht2⟩ := hw.raw.change hpv hP
      obtain ⟨rfl, rfl⟩ : ap = some ⟨gp, 0, none⟩ ∧ cp = cp' := by
        have := HPV0.out.symm.trans hpv
        simp at this
        exact this
      rw [hcl] at hsv
      have HSV := hide hsv
      have HPV := hide hpv
      have HR2 := hide hr2
      have lC : (Try.prog.info? 69).map (·.size) = some (encC (P1, P2)).length := by rw [encC_length hok.2]; exact size69
      have lC' : (Try.prog.info? 69).map (·.size) = some (encC (P1, P2)).toArray.size := by simpa using lC
      obtain ⟨v1, v2, v3⟩ := var_change wr zz hzz (P1, P2) hok.2
      have V2 := hide v2
      have V3 := hide v3
      clear hr2 ht2 v3 hsv hpv
      have HW4 := hide (hw.later v2)
      clear v2
      by_cases hkn : k < n
      · obtain ⟨F, hF⟩ : ∃ F, keep[k]? = some F := ⟨_, List.getElem?_eq_getElem (by have := hkl.out; omega)⟩
        have hFn := hk.num F (List.mem_of_getElem? hF)
        have hFd : Hid (keep.getD k 0 = F) := by show _ = _; rw [List.getD, hF]; rfl
        obtain ⟨gk, off, rfl, hgk, hgx, hck⟩ := hk.cells k F hF
        have hck1 : wr.cell? ⟨gk, off + k, none⟩ = some (.int .i64 F) := (keep_cell hw.keep hgk hgx).trans hck
        have hgk1 : gk < wr.heap.size := Nat.lt_of_lt_of_le hgk hw.keep.size
        clear hF hck
        go_wp2_with (first | (refine wpList_load_midX (some 20) rfl rfl 69 (.tmp 19) rfl gp (k * 65) rfl (encC (P1, P2)) _ HR2.out Try.underlying69 rfl lC ?_) | (refine wpList_opX (some 5) (.pointer (some ⟨wr.heap.size, 0, none⟩)) rfl rfl (exec_alloc69 rfl zz hal) ?_) | (refine wpList_store_midN rfl rfl 69 (.tmp 5) (.tmp 20) rfl wr.heap.size 0 (encC (P1, P2)).toArray rfl rfl v1 lC' (all_oneCell_toArray (encC_oneCell _)) ?_; simp only; generalize World.setCells (World.alloc wr _) wr.heap.size 0 (encC (P1, P2)) = w4 at *; have hkc := (V2.out.cell hgk1).trans hck1))
        have R4 := HW4.out
        have c0' : ∀ p : Later w4, p.val.cell? ⟨b, 0, none⟩ = some (.slice (some ⟨gs, 0, none⟩) d.last.length cs) := fun p => (p.below.cell R4.raw.lt).trans (R4.raw.c.1.trans (by rw [HSV.out]))
        have hc5 : ∀ p : Later w4, p.val.cell? ⟨wr.heap.size, 0, none⟩ = some (.int .i64 (P1 : Nat)) := fun p => (p.below.cell (lt_of_block V3.out)).trans (by rw [cell_of_row _ _ _ _ _ _ V3.out]; rfl)
        have hkp : ∀ w, _ := fun w => same_b (kept_any F hFn w)
        have hM := kept_le (how F)
        have hP1 := hok.1
        have HX : Hid (∀ p : Later w4, Cr w b sv pv z d keep (k + 1) (p.val.setCells gs (P1 * 64) (encB (P2.take (kept (how F)))))) := fun p => (R4.later p.below).next hP HSV.out h.ok hFd.out
        have HT : Hid (∀ p : Later w4, p.val.there gs (P1 * 64) 64) := fun p => ((R4.later p.below).raw.sector (by rw [HSV.out, crashes_length]) (List.getElem?_eq_getElem (by rw [crashes_length]; exact hok.1))).2
        have HL : Hid (∀ p : Later w4, ∀ j v, (encB (P2.take (kept (how F))))[j]? = some v → p.val.cell? ((⟨wr.heap.size, 1, none⟩ : Addr).add j) = some v) := fun p j v hv => by
          rw [Addr.add_mid, p.below.cell (lt_of_block V3.out), cell_of_row _ _ _ _ _ _ V3.out]
          have hj : (encB P2)[j]? = some v := by
            unfold encB at hv ⊢
            rw [List.map_take, List.getElem?_take] at hv
            split at hv
            · exact hv
            · cases hv
          rw [List.getElem?_toArray, encC, Nat.add_comm, List.getElem?_cons_succ]
          exact hj
        have hlM : (encB (P2.take (kept (how F)))).length = kept (how F) := by rw [encB_length, List.length_take, hok.2]; omega
        have hne := later_ne w4
        clear R4 hFd HW4 V2 V3 HR2
        generalize kept (how F) = M at *
        have hM1 : (M : Int) ≤ 64 := by omega
        refine wp_region_later_tail 12 (by kernel_rfl) (by kernel_rfl) ?_
        simp only [List.take, List.drop]
        (repeat (first | go_big_quiet_skip | (go_big_quiet_want; go_big_quiet_op; go_big_quiet_on)))
        (go_big_quiet_want; go_big_quiet_op; apply Exists.intro; refine ⟨fun p => ?_, ?_⟩; (· exact later_of (hkp _)); go_big_quiet_on)
        (repeat (first | go_big_quiet_skip | (go_big_quiet_want; go_big_quiet_op; go_big_quiet_on)))
        refine wpQuiet_nil ?_
        rintro _ ⟨p, rfl⟩
        have hX := HX.out p
        have hT := HT.out p
        have hL := HL.out p
        clear HX HT HL
        refine wpList_copy_cells (some 41) rfl rfl (.tmp 36) (.tmp 40) 41 41 5 rfl gs (P1 * 64) 64 _ ⟨wr.heap.size, 1, none⟩ M _ (encB (P2.take M)) rfl rfl Try.underlying41 info5s ?n1 hL ?n3 (encB_oneCell _) ?n4
        case n1 => rw [hlM]; exact (Nat.min_eq_left hM).symm
        case n3 => rw [hlM]; exact fun j hj => hT j (by omega)
        case n4 =>
          have HX := hide hX
          clear hX hT hL
          generalize p.val.setCells gs (P1 * 64) (encB (P2.take M)) = w5 at *
          rw [hlM]
          clear hlM
          simp only [Act.put, List.setIfInBounds_toArray, List.set_cons_zero, List.set_cons_succ]
          go_wp2
          go_roundw
          case rel => exact ⟨k + 1, by omega, by go_num, HX.out⟩
          case measure => simp [intOf]; omega
      · have hFn : -9223372036854775808 ≤ (0 : Int) ∧ (0 : Int) ≤ 9223372036854775807 := by omega
        have hFd : Hid (keep.getD k 0 = 0) := by show _ = _; rw [List.getD, List.getElem?_eq_none (by have := hkl.out; omega)]; rfl
        go_wp2_with (first | (refine wpList_load_midX (some 20) rfl rfl 69 (.tmp 19) rfl gp (k * 65) rfl (encC (P1, P2)) _ HR2.out Try.underlying69 rfl lC ?_) | (refine wpList_opX (some 5) (.pointer (some ⟨wr.heap.size, 0, none⟩)) rfl rfl (exec_alloc69 rfl zz hal) ?_) | (refine wpList_store_midN rfl rfl 69 (.tmp 5) (.tmp 20) rfl wr.heap.size 0 (encC (P1, P2)).toArray rfl rfl v1 lC' (all_oneCell_toArray (encC_oneCell _)) ?_; simp only; generalize World.setCells (World.alloc wr _) wr.heap.size 0 (encC (P1, P2)) = w4 at *))
        have R4 := HW4.out
        have c0' : ∀ p : Later w4, p.val.cell? ⟨b, 0, none⟩ = some (.slice (some ⟨gs, 0, none⟩) d.last.length cs) := fun p => (p.below.cell R4.raw.lt).trans (R4.raw.c.1.trans (by rw [HSV.out]))
        have hc5 : ∀ p : Later w4, p.val.cell? ⟨wr.heap.size, 0, none⟩ = some (.int .i64 (P1 : Nat)) := fun p => (p.below.cell (lt_of_block V3.out)).trans (by rw [cell_of_row _ _ _ _ _ _ V3.out]; rfl)
        have hkp : ∀ w, _ := fun w => same_b (kept_any 0 hFn w)
        have hM := kept_le (how 0)
        have hP1 := hok.1
        have HX : Hid (∀ p : Later w4, Cr w b sv pv z d keep (k + 1) (p.val.setCells gs (P1 * 64) (encB (P2.take (kept (how 0)))))) := fun p => (R4.later p.below).next hP HSV.out h.ok hFd.out
        have HT : Hid (∀ p : Later w4, p.val.there gs (P1 * 64) 64) := fun p => ((R4.later p.below).raw.sector (by rw [HSV.out, crashes_length]) (List.getElem?_eq_getElem (by rw [crashes_length]; exact hok.1))).2
        have HL : Hid (∀ p : Later w4, ∀ j v, (encB (P2.take (kept (how 0))))[j]? = some v → p.val.cell? ((⟨wr.heap.size, 1, none⟩ : Addr).add j) = some v) := fun p j v hv => by
          rw [Addr.add_mid, p.below.cell (lt_of_block V3.out), cell_of_row _ _ _ _ _ _ V3.out]
          have hj : (encB P2)[j]? = some v := by
            unfold encB at hv ⊢
            rw [List.map_take, List.getElem?_take] at hv
            split at hv
            · exact hv
            · cases hv
          rw [List.getElem?_toArray, encC, Nat.add_comm, List.getElem?_cons_succ]
          exact hj
        have hlM : (encB (P2.take (kept (how 0)))).length = kept (how 0) := by rw [encB_length, List.length_take, hok.2]; omega
        have hne := later_ne w4
        clear R4 hFd HW4 V2 V3 HR2
        generalize kept (how 0) = M at *
        have hM1 : (M : Int) ≤ 64 := by omega
        refine wp_region_later_tail 12 (by kernel_rfl) (by kernel_rfl) ?_
        simp only [List.take, List.drop]
        (repeat (first | go_big_quiet_skip | (go_big_quiet_want; go_big_quiet_op; go_big_quiet_on)))
        (go_big_quiet_want; go_big_quiet_op; apply Exists.intro; refine ⟨fun p => ?_, ?_⟩; (· exact later_of (hkp _)); go_big_quiet_on)
        (repeat (first | go_big_quiet_skip | (go_big_quiet_want; go_big_quiet_op; go_big_quiet_on)))
        refine wpQuiet_nil ?_
        rintro _ ⟨p, rfl⟩
        have hX := HX.out p
        have hT := HT.out p
        have hL := HL.out p
        clear HX HT HL
        refine wpList_copy_cells (some 41) rfl rfl (.tmp 36) (.tmp 40) 41 41 5 rfl gs (P1 * 64) 64 _ ⟨wr.heap.size, 1, none⟩ M _ (encB (P2.take M)) rfl rfl Try.underlying41 info5s ?n1 hL ?n3 (encB_oneCell _) ?n4
        case n1 => rw [hlM]; exact (Nat.min_eq_left hM).symm
        case n3 => rw [hlM]; exact fun j hj => hT j (by omega)
        case n4 =>
          have HX := hide hX
          clear hX hT hL
          generalize p.val.setCells gs (P1 * 64) (encB (P2.take M)) = w5 at *
          rw [hlM]
          clear hlM
          simp only [Act.put, List.setIfInBounds_toArray, List.set_cons_zero, List.set_cons_succ]
          go_wp2
          go_roundw
          case rel => exact ⟨k + 1, by omega, by go_num, HX.out⟩
          case measure => simp [intOf]; omega
    · obtain rfl : k = d.pend.length := by omega
      have R := hw.raw
      rw [List.take_length] at R
      have f1 := R.fr 1
      have f2 := R.fr 2
      obtain ⟨c0, c1, c2, c3⟩ := R.c
      have R2 := R.setNone.setLeft (-1)
      have K2 := (hw.keep.trans (Keep.setCell (X := xDev b sv pv) wr ⟨b, 1, none⟩ (.slice none 0 0) (.inl rfl)) fun _ _ e => e).trans (Keep.setCell (X := xDev b sv pv) (wr.setCell ⟨b, 1, none⟩ (.slice none 0 0)) ⟨b, 2, none⟩ (.int .i64 (-1)) (.inl rfl)) fun _ _ e => e
      have HR := hide R2
      have HK := hide K2
      clear R2 K2 R
      go_wp2
      go_end0
      refine ⟨rfl, xDev b sv (.slice none 0 0), ⟨⟨sv, .slice none 0 0, -1, ⟨HR.out, h.ok.crash keep, by omega, by omega, .inl ⟨by omega, rfl⟩⟩, rfl⟩, HK.out, fun k hx => .inl ?_⟩⟩
      rcases hx with hx | hx | hx
      · exact .inl hx
      · exact .inr (.inl hx)
      · simp [Value.ownBlock] at hx

end Wi
end Go.Proofs.Ytdcnjaomocehmaa
