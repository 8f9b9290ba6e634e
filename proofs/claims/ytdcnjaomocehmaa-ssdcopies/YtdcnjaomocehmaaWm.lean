/- A part of the proofs about package ssd: what its functions answer, call by call. -/
import Derived.Test.YtdcnjaomocehmaaWj
namespace Go.Proofs.Ytdcnjaomocehmaa
open Go.RowKit
namespace Wi

theorem wpList_store_midN {P : Program} {ops : Array Oper} {rest : List Oper} {op : Oper} {a : Act} {w : World} {Q : Exit → Act → World → Prop} (hd : op.dst = none) (hgd : op.guard = none) (ty : TypeId) (x y : Operand) (ho : op.op = .store ty x y)
    (b o : Nat) (cells : Array Value) (hx : a.eval x = .pointer (some ⟨b, o, none⟩)) (hy : a.eval y = .agg cells)
    (ht : w.there b o cells.size) (hi : (P.info? ty).map (·.size) = some cells.size) (h1 : cells.all (·.oneCell') = true)
    (h : wpList P ops Q rest a (w.setCells b o cells.toList)) : wpList P ops Q (op :: rest) a w :=
  wpList_store_mid hgd ty x y ho b o cells hx hy ht hi h1 (by rw [hd]; exact h)
theorem wpList_opX {P : Program} {ops : Array Oper} {rest : List Oper} {o : Oper} {a : Act} {w w' : World} {Q : Exit → Act → World → Prop} (dst : Option Nat) (v : Value) (hd : o.dst = dst) (hg : o.guard = none)
    (hy : (execOp a.eval o).run P w = .ok (.value v) w') (h : wpList P ops Q rest (a.put dst v) w') : wpList P ops Q (o :: rest) a w := by
  subst hd
  refine wpList_plain hg fun K hK => ?_
  unfold Oper.wp
  rw [hy]
  exact hK _ _ h
/-- The device as its changes are taken back: k of them are left. -/
structure Bk (w : World) (b : Nat) (sv pv : Value) (z : Int) (d : Dv) (k : Nat) (wr : World) : Prop where
  raw : Raw wr b sv pv z d.gone (settle d.last (d.pend.take k)) (logAt d.last d.pend k)
  keep : Keep (xDev b sv pv) w wr
set_option maxHeartbeats 4000000 in
theorem back_any {w : World} {b : Nat} {sv pv : Value} {z : Int} {d : Dv} (h : DevAt w b sv pv z d) :
    Calls Try.prog 37 #[.pointer (some ⟨b, 0, none⟩)] w fun e w' => e = .returned (.tuple #[]) ∧ Bk w b sv pv z d 0 w' := by
  have hm := h.ok.most
  obtain ⟨ap, cp, hpv0⟩ := row_slice h.raw.chg
  rw [logOf_length] at hpv0
  have c1 := h.raw.c.2.1
  rw [hpv0] at c1
  clear hpv0
  have hlen : d.pend.length ≤ 9223372036854775807 := by
    rcases h.raw.chg.2 with ⟨hv, h0⟩ | ⟨g, cap, cur, hv, _, hgg, h1, h2, _⟩
    · rw [logOf_length] at h0; omega
    · rw [logOf_length] at h1; unfold maxLen at h2; omega
  go_enter Try.func37, Try.ntmps37
  go_wp2
  go_loopw [2] (fun i wr => ∃ (k : Nat) (zi : Int), k ≤ d.pend.length ∧ i = .int .i64 zi ∧ zi = (k : Int) - 1 ∧ Bk w b sv pv z d k wr) (fun i _ => (intOf i + 1).toNat)
  case atStart => exact ⟨d.pend.length, _, Nat.le_refl _, rfl, by go_num, by rw [List.take_length, logAt_all]; exact h.raw, Keep.refl _ _⟩
  case round =>
    obtain ⟨k, zi, hk, rfl, hz, hw⟩ := hrel
    by_cases hz0 : 0 ≤ zi
    · obtain ⟨j, rfl⟩ := Int.eq_ofNat_of_zero_le hz0
      obtain rfl : k = j + 1 := by omega
      obtain ⟨⟨P1, P2⟩, hP⟩ : ∃ p, d.pend[j]? = some p := ⟨_, List.getElem?_eq_getElem (by omega)⟩
      have hok := h.ok.pend (P1, P2) (List.mem_of_getElem? hP)
      have hcl : (settle d.last (d.pend.take (j + 1))).length = d.last.length := settle_length _ _
      have hll : (logAt d.last d.pend (j + 1)).length = d.pend.length := logAt_length _ _ hk
      have hL := logAt_get (last := d.last) hP
      obtain ⟨hC, hCb⟩ := settle_back (last := d.last) hP hok.1
      have hLb := logAt_back (last := d.last) hP
      simp only at hL hC hCb hLb hok
      have hVl := (hw.raw.lwhole _ (List.mem_of_getElem? hL)).2
      simp only at hVl
      obtain ⟨gs, cs, hsv, hgs⟩ := row_form hw.raw.sec (by omega)
      obtain ⟨gp, cp', hpv, hgp⟩ := row_form hw.raw.chg (by omega)
      obtain ⟨hr1, ht1⟩ := hw.raw.sector hsv hC
      obtain ⟨hr2, ht2⟩ := hw.raw.change hpv hL
      obtain ⟨c0, c1, c2, c3⟩ := hw.raw.c
      have lB := hw.raw.lt
      generalize (settle d.last (d.pend.take j)).getD P1 [] = V at *
      have hat : wr.cell? ⟨gp, j * 65, none⟩ = some (.int .i64 (P1 : Nat)) := hr2 0 _ rfl
      have hr3 : wr.rangeAt gp (j * 65 + 1) (encB V) := fun i v hv => by
        have := hr2 (i + 1) v (by simpa [encC] using hv)
        rw [show j * 65 + 1 + i = j * 65 + (i + 1) by omega]
        exact this
      have ht3 : wr.there gp (j * 65 + 1) 64 := fun i hi => by
        have := ht2 (i + 1) (by omega)
        rw [show j * 65 + 1 + i = j * 65 + (i + 1) by omega]
        exact this
      have hsv2 : sv = .slice (some ⟨gs, 0, none⟩) d.last.length cs := by rw [hsv, hcl]
      have hpv2 : pv = .slice (some ⟨gp, 0, none⟩) d.pend.length cp' := by rw [hpv, hll]
      rw [hsv2] at c0
      rw [hpv2] at c1
      have c0' : ∀ p : Later wr, p.val.cell? ⟨b, 0, none⟩ = some (.slice (some ⟨gs, 0, none⟩) d.last.length cs) := fun p => (p.below.cell lB).trans c0
      have hat' : ∀ p : Later wr, p.val.cell? ⟨gp, j * 65, none⟩ = some (.int .i64 (P1 : Nat)) := fun p => (p.below.cell hgp).trans hat
      have hP1 := hok.1
      have HSV := hide hsv
      have HPV := hide hpv
      clear hsv hpv hsv2 hpv2
      have HR1 := hide hr1
      have HR3 := hide hr3
      have HT1 := hide ht1
      have HT3 := hide ht3
      have HC := hide hCb
      have HL := hide hLb
      have HL2 := hide hL
      have lV : (Try.prog.info? 66).map (·.size) = some (encB V).length := by rw [encB_length, hVl]; exact size66
      have lP : (Try.prog.info? 66).map (·.size) = some (encB P2).length := by rw [encB_length, hok.2]; exact size66
      have hne := later_ne wr
      clear hr1 hr2 hr3 ht1 ht2 ht3 hCb hLb hL hC hP c2 c3 hat hz
      go_wp2
      refine wp_region_any (by kernel_rfl) ?_
      change wpAny _ _ _ _ _ _ _ (World.drew _)
      refine takeX (i := 8) (some 28) (.pointer (some ⟨gp, j * 65, none⟩)) rfl (by kernel_rfl) (by kernel_rfl) (by kernel_rfl) rfl rfl (by intro w; first | rfl | go_simp) (fun _ _ _ h => h) ?_
      simp only [Act.put, List.setIfInBounds_toArray, List.set_cons_zero, List.set_cons_succ]
      refine wpAny_skipF (C := fun w' => ∃ p : Later wr, w' = p.val) 23 [8] [0, 1, 2, 3, 4, 5, 6, 7, 9, 10, 11, 12, 13, 14, 15, 16, 17, 18, 19, 20, 21, 22] [23, 24, 25, 26, 27] (by kernel_rfl) rfl (by kernel_rfl) (by kernel_rfl) ⟨⟨World.drew wr, (Below.refl _ _).drew⟩, rfl⟩ ?_
      simp only [List.filterMap_cons, List.filterMap_nil, List.getElem?_toArray, List.getElem?_cons_succ, List.getElem?_cons_zero]
      change wpQuiet _ _ _ _ [_, _, _, _, _, _, _, _, _, _, _, _, _, _, _, _, _, _, _, _, _, _] _
      iterate 11 (first | go_big_quiet_skip | (go_big_quiet_want; go_big_quiet_op; go_big_quiet_on))
      refine wpQuiet_load rfl 66 (.tmp 31) rfl gp (j * 65 + 1) rfl (encB V) _ ?q1 Try.underlying66 rfl lV ?q2
      case q1 => rintro _ ⟨p, rfl⟩; intro i v hv; exact (p.below.cell hgp).trans (HR3.out i v hv)
      simp only [Act.put, List.setIfInBounds_toArray, List.set_cons_zero, List.set_cons_succ]
      iterate 9 (first | go_big_quiet_skip | (go_big_quiet_want; go_big_quiet_op; go_big_quiet_on))
      refine wpQuiet_load rfl 66 (.tmp 41) rfl gs (P1 * 64) rfl (encB P2) _ ?q3 Try.underlying66 rfl lP ?q4
      case q3 => rintro _ ⟨p, rfl⟩; intro i v hv; exact (p.below.cell hgs).trans (HR1.out i v hv)
      simp only [Act.put, List.setIfInBounds_toArray, List.set_cons_zero, List.set_cons_succ]
      refine wpQuiet_nil ?_
      rintro _ ⟨p, rfl⟩
      have hn1 : gp ≠ gs ∨ gs ≠ gs := .inl fun e => hw.raw.nn gs (by rw [HSV.out]; rfl) (by rw [HPV.out, e]; rfl)
      have R2 := ((hw.raw.later p.below).setSector HSV.out (i := P1) (by omega) hVl)
      rw [HC.out] at R2
      have R3 := R2.setChange HPV.out HL2.out hok.2
      simp only at R3
      rw [HL.out] at R3
      have K3 : Keep (xDev b sv pv) w ((p.val.setCells gs (P1 * 64) (encB V)).setCells gp (j * 65 + 1) (encB P2)) :=
        ((hw.keep.trans (Keep.of_below (X := xDev b sv pv) p.below) fun _ _ e => e).trans (Keep.setCells (X := xDev b sv pv) gs (.inr (.inl (by rw [HSV.out]; rfl))) _ _ _) fun _ _ e => e).trans (Keep.setCells (X := xDev b sv pv) gp (.inr (.inr (by rw [HPV.out]; rfl))) _ _ _) fun _ _ e => e
      have HB := hide (Bk.mk R3 K3)
      have T1 : p.val.there gs (P1 * 64) (encB V).toArray.size := by
        rw [List.size_toArray, encB_length, hVl]
        exact ((hw.raw.later p.below).sector HSV.out (List.getElem?_eq_getElem (by omega))).2
      have T3 : (p.val.setCells gs (P1 * 64) (encB V)).there gp (j * 65 + 1) (encB P2).toArray.size := by
        rw [List.size_toArray, encB_length, hok.2]
        apply World.there_setCells
        intro i hi
        have h1 := HT3.out i hi
        obtain ⟨u, hu⟩ := Option.isSome_iff_exists.1 h1.1
        exact ⟨by rw [p.below.cell hgp]; exact h1.1, by rw [p.below.frozen hgp]; exact h1.2⟩
      have lV' : (Try.prog.info? 66).map (·.size) = some (encB V).toArray.size := by simpa using lV
      have lP' : (Try.prog.info? 66).map (·.size) = some (encB P2).toArray.size := by simpa using lP
      clear R2 R3 K3 hn1 HT1 HT3 HR1 HR3 HC HL HL2
      refine wpList_opX (some 43) (.pointer (some ⟨gs, P1 * 64, none⟩)) rfl rfl (by first | rfl | (go_simp; done) | (go_simp; rfl)) ?_
      simp only [Act.put, List.setIfInBounds_toArray, List.set_cons_zero, List.set_cons_succ]
      refine wpList_store_midN rfl rfl 66 (.tmp 43) (.tmp 32) rfl gs (P1 * 64) (encB V).toArray rfl rfl T1 lV' (all_oneCell_toArray (encB_oneCell _)) ?_
      refine wpList_opX (some 44) (.pointer (some ⟨gp, j * 65, none⟩)) rfl rfl (by first | rfl | (go_simp; done) | (go_simp; rfl)) ?_
      refine wpList_opX (some 45) (.pointer (some ⟨gp, j * 65 + 1, none⟩)) rfl rfl (by first | rfl | (go_simp; done) | (go_simp; rfl)) ?_
      simp only [Act.put, List.setIfInBounds_toArray, List.set_cons_zero, List.set_cons_succ]
      refine wpList_store_midN rfl rfl 66 (.tmp 45) (.tmp 42) rfl gp (j * 65 + 1) (encB P2).toArray rfl rfl T3 lP' (all_oneCell_toArray (encB_oneCell _)) ?_
      simp only
      go_wp2
      go_roundw
      case rel => exact ⟨j, _, by omega, rfl, by go_num, HB.out⟩
      case measure => simp [intOf]
    · obtain rfl : k = 0 := by omega
      go_wp2
      go_end0
      exact ⟨rfl, hw⟩

end Wi
end Go.Proofs.Ytdcnjaomocehmaa
