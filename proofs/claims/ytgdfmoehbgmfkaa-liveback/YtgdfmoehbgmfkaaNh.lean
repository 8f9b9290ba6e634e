/- Change, as the document has it. -/
import Derived.Test.YtgdfmoehbgmfkaaNg
namespace Go.Proofs.Ytgdfmoehbgmfkaa
open Go.RowKit
namespace Li
open Wi
/-- A row in a box of the document's. -/
def BoxA (w : World) (B : Nat) (x y z : Int) : Prop := w.heap[B]? = some (.cells #[.int .i64 x, .int .i64 y, .int .i64 z] 35 (0, 0))
theorem BoxA.later {w w' : World} {B : Nat} {x y z : Int} (h : BoxA w B x y z) (hb : Below w.heap.size w w') : BoxA w' B x y z := (hb.block B (lt_of_block h)).trans h
theorem BoxA.cells {w : World} {B : Nat} {x y z : Int} (h : BoxA w B x y z) : w.cell? ⟨B, 0, none⟩ = some (.int .i64 x) ∧ w.cell? ⟨B, 1, none⟩ = some (.int .i64 y) ∧ w.cell? ⟨B, 2, none⟩ = some (.int .i64 z) := by
  refine ⟨?_, ?_, ?_⟩ <;> (rw [cell_of_row _ _ _ _ _ _ h]; rfl)
theorem BoxA.free {w : World} {B : Nat} {x y z : Int} (h : BoxA w B x y z) : w.frozen? ⟨B, 2, none⟩ = false := frozen_of_row w B 2 _ 35 h
theorem BoxA.set {w : World} {B : Nat} {x y z : Int} (h : BoxA w B x y z) (u : Int) : BoxA (w.setCell ⟨B, 2, none⟩ (.int .i64 u)) B x y u := heap_setCell_same w B 2 _ 35 (.int .i64 u) h
theorem BoxA.drew {w : World} {B : Nat} {x y z : Int} (h : BoxA w B x y z) : BoxA w.drew B x y z := h
theorem grown_set (w : World) (B o : Nat) (u : Value) : w.grownBy (w.setCell ⟨B, o, none⟩ u) (some B) := ⟨rfl, rfl, rfl, by simp [World.setCell], fun k _ hne => heap_setCell_other w _ k u (fun e => hne (congrArg some e))⟩
theorem row_set {w : World} {base size n B o : Nat} {e : TypeId} {v u : Value} {xs : List Value} (h : w.ownsRow base e size v n xs) (hne : v.ownBlock ≠ some B) : (w.setCell ⟨B, o, none⟩ u).drew.ownsRow base e size v n xs := by
  have h2 := h.kept (grown_set w B o u) (.inr hne)
  exact h2
set_option maxHeartbeats 32000000 in
set_option maxRecDepth 100000 in
/-- Change, as the document has it. -/
theorem refChange_any {w : World} {b0 : Nat} {a : Option Addr} {n cap : Nat} {qs : Rows} {a1 : Option Addr} {n1 cap1 : Nat} {ms : List Ix} {a2 : Option Addr} {n2 cap2 : Nat} {ls : List Ix} (hO : w.ownsRow b0 35 3 (.slice a n cap) n (rcs qs)) (hL : n = qs.length) (hb0 : b0 ≤ w.heap.size) (hris : Ris qs) (hmay : ∀ x ∈ qs, mayRo x = true) (hn : n ≤ 100000)
    (hE1 : Ex w a1 n1 ms) (hE2 : Ex w a2 n2 ls) (hn1 : n1 ≤ 1000) (hn2 : n2 ≤ 1000) :
    Calls Try.prog 32 #[.slice a n cap, .slice a1 n1 cap1, .slice a2 n2 cap2] w fun e w' => Below w.heap.size w w' ∧ ∃ v, e = .returned (.tuple #[v, .int .i64 (chE qs ms ls)]) ∧ w'.ownsRow b0 35 3 v (chT qs ms ls).length (rcs (chT qs ms ls)) := by
  have hrng : ∀ x ∈ qs, I64 x.1 ∧ I64 x.2.1 ∧ I64 x.2.2 := fun x hx => may_rng (hmay x hx)
  have hE := er_own35 hO hL hrng
  have h1 := all_any (cap := cap1) hE1
  have HO := hide hO
  have HE := hide hE
  have HL := hide hL
  have HB0 := hide hb0
  have HRIS := hide hris
  have HMAY := hide hmay
  have HE1 := hide hE1
  have HE2 := hide hE2
  obtain ⟨i0, hi, hz0, hz1, hz2⟩ := info_parts info35
  have hsame : ∀ w', Below w.heap.size w w' → chT qs ms ls = qs → w'.ownsRow b0 35 3 (.slice a n cap) (chT qs ms ls).length (rcs (chT qs ms ls)) := fun w' hb h => by
    rw [h, ← HL.out]; exact row_later HO.out hb
  have HSAME := hide hsame
  clear hO hL hb0 hris hmay hrng hE hE1 hE2 hsame
  cases hm1 : ms.all Ix.may with
  | false =>
    rw [hm1] at h1
    have HEE := hide (show chE qs ms ls = 1 by unfold chE; rw [hm1]; rfl)
    have HTT := hide (show chT qs ms ls = qs by unfold chT; rw [hm1]; rfl)
    clear hm1
    go_enter Try.func32, Try.ntmps32
    go_wp2_with (go_at_call 18; refine h1.mono ?_; rintro e w1 ⟨rfl, hb1⟩)
    go_ret2
    exact ⟨hb1, _, by rw [HEE.out]; rfl, HSAME.out _ hb1 HTT.out⟩
  | true =>
    rw [hm1] at h1
    go_enter Try.func32, Try.ntmps32
    go_wp2_with fail
    refine h1.mono ?_
    rintro e w1 ⟨rfl, hb1⟩
    have h2 := all_any (cap := cap2) (HE2.out.later hb1)
    have HB1 := hide hb1
    clear h1 hb1
    cases hm2 : ls.all Ix.may with
    | false =>
      rw [hm2] at h2
      have HEE := hide (show chE qs ms ls = 1 by unfold chE; rw [hm1, hm2]; rfl)
      have HTT := hide (show chT qs ms ls = qs by unfold chT; rw [hm1, hm2]; rfl)
      clear hm1 hm2
      go_wp2_with (go_at_call 18; refine h2.mono ?_; rintro e w2 ⟨rfl, hb2⟩)
      go_ret2
      have hb := HB1.out.trans (hb2.mono HB1.out.size)
      exact ⟨hb, _, by rw [HEE.out]; rfl, HSAME.out _ hb HTT.out⟩
    | true =>
      rw [hm2] at h2
      have HEE := hide (show chE qs ms ls = chgE qs (subA (cntM ms) (cntM ls)) by unfold chE; rw [hm1, hm2]; rfl)
      have HTT := hide (show chT qs ms ls = chgT qs (subA (cntM ms) (cntM ls)) by unfold chT; rw [hm1, hm2]; rfl)
      have BG : BndC (cntM ms) ms.length := by
        have := cntM_bnd ms.length ms (Nat.le_refl _) (fun j x _ hx => List.all_eq_true.1 hm1 x (List.mem_of_getElem? hx))
        rwa [List.take_length] at this
      have BF : BndC (cntM ls) ls.length := by
        have := cntM_bnd ls.length ls (Nat.le_refl _) (fun j x _ hx => List.all_eq_true.1 hm2 x (List.mem_of_getElem? hx))
        rwa [List.take_length] at this
      have HLM := hide HE1.out.len
      have HLS := hide HE2.out.len
      have BGH := hide BG
      have BFH := hide BF
      have HLG := hide (cntM_len ms)
      have HLF := hide (cntM_len ls)
      have HRG := hide (cntM_ris ms)
      have HRF := hide (cntM_ris ls)
      clear BG BF
      go_wp2_with fail
      refine h2.mono ?_
      rintro e w2 ⟨rfl, hb2⟩
      have h3 := refCount_any (cap := cap1) (HE1.out.later (HB1.out.trans (hb2.mono HB1.out.size))) (by omega) hm1
      have HB2 := hide (HB1.out.trans (hb2.mono HB1.out.size))
      clear h2 hb2
      go_wp2_with fail
      refine h3.mono ?_
      rintro e w3 ⟨hb3, v3, rfl, hrow3⟩
      have h4 := refCount_any (cap := cap2) (HE2.out.later (HB2.out.trans (hb3.mono HB2.out.size))) (by omega) hm2
      have HB3 := hide (HB2.out.trans (hb3.mono HB2.out.size))
      have HROW3 := hide hrow3
      clear h3 hb3 hrow3
      go_wp2_with fail
      refine h4.mono ?_
      rintro e w4 ⟨hb4, v4, rfl, hrow4⟩
      have HB4 := hide (HB3.out.trans (hb4.mono HB3.out.size))
      have hG := row_later HROW3.out hb4
      generalize cntM ms = G at *
      generalize cntM ls = F at *
      obtain ⟨ga, gcap, rfl⟩ := row_slice (own_base hG (Nat.zero_le _))
      obtain ⟨fa, fcap, rfl⟩ := row_slice (own_base hrow4 (Nat.zero_le _))
      have HGR := hide (cntR_rng BGH.out (by have := HLM.out; omega))
      have HFR := hide (cntR_rng BFH.out (by have := HLS.out; omega))
      have HEG := hide (er_own35 hG (cntR_len G).symm HGR.out)
      have HEF := hide (er_own35 hrow4 (cntR_len F).symm HFR.out)
      have HE4 := hide (HE.out.later HB4.out)
      clear h4 hb4 hG hrow4 hm1 hm2
      have hgl : G.length ≤ 1000 := by have := HLG.out; have := HLM.out; omega
      have hfl : F.length ≤ 1000 := by have := HLF.out; have := HLS.out; omega
      have HSZ4 := hide HB4.out.size
      go_wp2
      go_loopw [10] (fun i wr => ∃ k : Nat, k ≤ G.length ∧ i = .int .i64 k ∧ (∀ (j : Nat) (x : Int × Int), j < k → G[j]? = some x → (getA qs x.1).isSome = true) ∧ Below w4.heap.size w4 wr) (fun i _ => G.length - (intOf i).toNat)
      case atStart => exact ⟨0, Nat.zero_le _, rfl, fun j x h => by omega, Below.refl _ _⟩
      case round =>
        obtain ⟨k, hk, rfl, hall, hb⟩ := hrel
        by_cases hlt : k < G.length
        · obtain ⟨x, hx⟩ : ∃ x, G[k]? = some x := ⟨_, List.getElem?_eq_getElem hlt⟩
          have hxr : (cntR G)[k]? = some (x.1, x.2, x.2) := by unfold cntR; rw [List.getElem?_map, hx]; rfl
          obtain ⟨g, off, rfl, hg, c0, c1, c2⟩ := (HEG.out.later hb).cells k _ hxr
          have hf := find_any (q := x.1) (cap := cap) (HE4.out.later hb) (by omega)
          have HB := hide hb
          have HX := hide hx
          have HA := hide hall
          obtain ⟨x1, x2⟩ := x
          simp only at *
          clear hx hxr hall hb
          go_wp2_with fail
          refine hf.mono ?_
          rintro e w5 ⟨hb5, ⟨rfl, hno⟩ | ⟨i, y, hy, hyk, rfl⟩⟩
          · have hcE := chgE_miss (G := G) (k := x1) HRF.out (.inl (by rw [getA_of_mem HRG.out (List.mem_of_getElem? HX.out)]; simp)) (find_get hno)
            have HCE := hide hcE
            have HB5 := hide (HB.out.trans (hb5.mono HB.out.size))
            clear hf hno hcE hb5
            go_wp2
            go_ret2
            have hbw := HB4.out.trans (HB5.out.mono HB4.out.size)
            exact ⟨hbw, _, by rw [HEE.out, HCE.out]; rfl, HSAME.out _ hbw (by rw [HTT.out]; exact chgT_no (by rw [HCE.out]; omega))⟩
          · have HGS := hide (find_got HRIS.out hy hyk)
            have HB5 := hide (HB.out.trans (hb5.mono HB.out.size))
            have hge : (0 : Int) ≤ (i : Int) := by omega
            clear hf hy hyk hb5
            go_wp2
            go_roundw
            case rel => exact ⟨k + 1, by omega, by go_num, fun j y hj hy => by
              by_cases e : j = k
              · subst e
                have := HX.out
                rw [hy] at this
                injection this with this
                rw [this, HGS.out]; rfl
              · exact HA.out j y (by omega) hy, HB5.out⟩
            case measure => simp [intOf]; omega
        · have HALLG : Hid (∀ p ∈ G, (getA qs p.1).isSome = true) := fun p hp => by
            obtain ⟨t, ht, rfl⟩ := List.mem_iff_getElem.1 hp
            exact hall t _ (by omega) (List.getElem?_eq_getElem ht)
          have hkG : (k : Int) = (G.length : Int) := by omega
          have hnl : ¬ (k : Int) < (G.length : Int) := by omega
          have HB := hide hb
          clear hall hb hkG
          go_wp2
          go_loopw [11] (fun i wr2 => ∃ k2 : Nat, k2 ≤ F.length ∧ i = .int .i64 k2 ∧ (∀ (j : Nat) (x : Int × Int), j < k2 → F[j]? = some x → (getA qs x.1).isSome = true) ∧ Below w4.heap.size w4 wr2) (fun i _ => F.length - (intOf i).toNat)
          case atStart => exact ⟨0, Nat.zero_le _, rfl, fun j x h => by omega, HB.out⟩
          case round =>
            obtain ⟨k2, hk2, rfl, hall, hb⟩ := hrel
            by_cases hlt2 : k2 < F.length
            · obtain ⟨x, hx⟩ : ∃ x, F[k2]? = some x := ⟨_, List.getElem?_eq_getElem hlt2⟩
              have hxr : (cntR F)[k2]? = some (x.1, x.2, x.2) := by unfold cntR; rw [List.getElem?_map, hx]; rfl
              obtain ⟨g, off, rfl, hg, c0, c1, c2⟩ := (HEF.out.later hb).cells k2 _ hxr
              have hf := find_any (q := x.1) (cap := cap) (HE4.out.later hb) (by omega)
              have HB6 := hide hb
              have HX := hide hx
              have HA := hide hall
              obtain ⟨x1, x2⟩ := x
              simp only at *
              clear hx hxr hall hb
              go_wp2_with fail
              refine hf.mono ?_
              rintro e w5 ⟨hb5, ⟨rfl, hno⟩ | ⟨i, y, hy, hyk, rfl⟩⟩
              · have hcE := chgE_miss (G := G) (k := x1) HRF.out (.inr (by rw [getA_of_mem HRF.out (List.mem_of_getElem? HX.out)]; simp)) (find_get hno)
                have HCE := hide hcE
                have HB5 := hide (HB6.out.trans (hb5.mono HB6.out.size))
                clear hf hno hcE hb5
                go_wp2
                go_ret2
                have hbw := HB4.out.trans (HB5.out.mono HB4.out.size)
                exact ⟨hbw, _, by rw [HEE.out, HCE.out]; rfl, HSAME.out _ hbw (by rw [HTT.out]; exact chgT_no (by rw [HCE.out]; omega))⟩
              · have HGS := hide (find_got HRIS.out hy hyk)
                have HB5 := hide (HB6.out.trans (hb5.mono HB6.out.size))
                have hge : (0 : Int) ≤ (i : Int) := by omega
                clear hf hy hyk hb5
                go_wp2
                go_roundw
                case rel => exact ⟨k2 + 1, by omega, by go_num, fun j y hj hy => by
                  by_cases e : j = k2
                  · subst e
                    have := HX.out
                    rw [hy] at this
                    injection this with this
                    rw [this, HGS.out]; rfl
                  · exact HA.out j y (by omega) hy, HB5.out⟩
                case measure => simp [intOf]; omega
            · have HALLF : Hid (∀ p ∈ F, (getA qs p.1).isSome = true) := fun p hp => by
                obtain ⟨t, ht, rfl⟩ := List.mem_iff_getElem.1 hp
                exact hall t _ (by omega) (List.getElem?_eq_getElem ht)
              have HALL := hide (all_there HRG.out HRF.out HALLG.out HALLF.out)
              have hnl2 : ¬ (k2 : Int) < (F.length : Int) := by omega
              have HB6 := hide hb
              clear hall hb
              have HR0 : Hid (wr.ownsRow w4.heap.size 35 3 (.slice none 0 0) 0 (rcs ((qs.take 0).map (docR G F)))) := World.ownsRow_nil _ _ _ _
              go_wp2
              go_loopw [12, 13] (fun c i wr3 => ∃ k3 : Nat, k3 ≤ n ∧ i = .int .i64 k3 ∧ (∀ (j : Nat) (x : Ro), j < k3 → qs[j]? = some x → mayRo (docR G F x) = true) ∧ wr3.ownsRow w4.heap.size 35 3 c k3 (rcs ((qs.take k3).map (docR G F))) ∧ Below w4.heap.size w4 wr3) (fun _ i _ => n - (intOf i).toNat)
              case atStart => exact ⟨0, Nat.zero_le _, rfl, fun j x h => by omega, HR0.out, HB6.out⟩
              case round =>
                obtain ⟨k3, hk3, rfl, hall, hrow, hb⟩ := hrel
                by_cases hlt3 : k3 < n
                · obtain ⟨x, hx⟩ : ∃ x, qs[k3]? = some x := ⟨_, List.getElem?_eq_getElem (by have := HL.out; omega)⟩
                  obtain ⟨g, off, rfl, hg, c0, c1, c2⟩ := (HE4.out.later hb).cells k3 _ hx
                  have hmx := mayR_get (HMAY.out x (List.mem_of_getElem? hx))
                  have HX := hide hx
                  have HXT := hide (snoc_take _ _ _ hx)
                  have HA := hide hall
                  obtain ⟨x1, x2, x3⟩ := x
                  simp only at *
                  have HB7 := hide (hb.alloc hb.size (.cells #[.int .i64 x1, .int .i64 x2, .int .i64 x3] 35))
                  have HOB : Hid (u12.ownBlock ≠ some wr.heap.size) := fun e => by have := (hrow.lt _ e).2; omega
                  have HROW := hide (hrow.alloc (.cells #[.int .i64 x1, .int .i64 x2, .int .i64 x3] 35))
                  have hbox : BoxA (wr.alloc (.cells #[.int .i64 x1, .int .i64 x2, .int .i64 x3] 35)) wr.heap.size x1 x2 x3 := heap_alloc_new wr _
                  have HBOX := hide hbox
                  have hsz7 := hb.size
                  clear hx hall hb hbox hrow
                  have HBX1 := HBOX
                  have HBW1 := HB7
                  have HROW1 := HROW
                  have hg1 := find_any (q := x1) (cap := gcap) (HEG.out.later HBW1.out) (by omega)
                  have f01 := HBX1.out.cells.1
                  go_wp2_with fail
                  refine hg1.mono ?_
                  rintro e wa1 ⟨hbA, ⟨rfl, hno⟩ | ⟨i1, y, hy, hyk, rfl⟩⟩
                  · have hgn := cntR_find hno
                    have HBX1x := hide (HBX1.out.later hbA)
                    have HBW1x := hide (HBW1.out.trans (hbA.mono HBW1.out.size))
                    have HROW1x := hide (row_later HROW1.out hbA)
                    have HGA : Hid ((getA G x1).getD 0 = 0) := by show _ = _; rw [hgn]; rfl
                    have HFB1 : Hid (-100000000 ≤ x3 ∧ x3 ≤ 100000000) := by show _ ∧ _; omega
                    clear hg1 hno hbA f01 hgn
                    have HBX2 := HBX1x
                    have HBW2 := HBW1x
                    have HROW2 := HROW1x
                    have hg2 := find_any (q := x1) (cap := fcap) (HEF.out.later HBW2.out) (by omega)
                    have f02 := HBX2.out.cells.1
                    go_wp2_with fail
                    refine hg2.mono ?_
                    rintro e wa2 ⟨hbA, ⟨rfl, hno⟩ | ⟨i2, y, hy, hyk, rfl⟩⟩
                    · have hgn := cntR_find hno
                      have HBX2x := hide (HBX2.out.later hbA)
                      have HBW2x := hide (HBW2.out.trans (hbA.mono HBW2.out.size))
                      have HROW2x := hide (row_later HROW2.out hbA)
                      have HZ : Hid (docR G F (x1, x2, x3) = (x1, x2, x3)) := by
                        show (x1, x2, x3 + (getA G x1).getD 0 - (getA F x1).getD 0) = _
                        rw [HGA.out, hgn]; simp
                      clear hg2 hno hbA f02 hgn
                      have HBX := HBX2x
                      have HBW := HBW2x
                      have HROWX := HROW2x
                      obtain ⟨d0, d1, d2⟩ := HBX.out.cells
                      have hm := refMay_any x1 x2 (x3) wa2
                      cases hmm : mayR x1 x2 (x3) with
                      | false =>
                        rw [hmm] at hm
                        have HE31 := hide (chg_rng HRIS.out HMAY.out HRG.out HRF.out HALL.out (List.mem_of_getElem? HX.out) (show mayRo (docR G F (x1, x2, x3)) = false by rw [HZ.out]; exact hmm))
                        clear hmm
                        go_wp2_with (go_at_call 27; refine hm.mono ?_; rintro e w20 ⟨rfl, hb20⟩)
                        go_ret2
                        have hbw := HB4.out.trans ((HBW.out.trans (hb20.mono HBW.out.size)).mono HB4.out.size)
                        exact ⟨hbw, _, by rw [HEE.out, HE31.out]; rfl, HSAME.out _ hbw (by rw [HTT.out]; exact chgT_no (by rw [HE31.out]; omega))⟩
                      | true =>
                        rw [hmm] at hm
                        have HM : Hid (mayRo (docR G F (x1, x2, x3)) = true) := by show _ = _; rw [HZ.out]; exact hmm
                        clear hmm
                        go_wp2_with fail
                        refine hm.mono ?_
                        rintro e w20 ⟨rfl, hb20⟩
                        have HB20 := hide (HBW.out.trans (hb20.mono HBW.out.size))
                        obtain ⟨d0, d1, d2⟩ := (HBX.out.later hb20).cells
                        have hrow20 := row_later HROWX.out hb20
                        have hbs20 := HB20.out.size
                        have hcell20 := cells_three_new w20 (.int .i64 x1) (.int .i64 x2) (.int .i64 (x3)) 35
                        have hbs21 := Nat.le_trans hbs20 (below_alloc w20 (.cells #[.int .i64 x1, .int .i64 x2, .int .i64 (x3)] 35)).size
                        clear hm hb20
                        go_wp2_with (at_builtin; refine wpList_append_own _ rfl _ _ 27 rfl w4.heap.size 35 i0 (.agg #[.int .i64 0, .int .i64 0, .int .i64 0]) 3 24 Try.underlying27 hi hz0 hz1 hz2 rfl (by decide) _ _ _ rfl (hrow20.alloc _) ⟨w20.heap.size, 0, none⟩ 1 1 [.int .i64 x1, .int .i64 x2, .int .i64 (x3)] rfl rfl hcell20 (by simp [Value.oneCell']) (by simp only [maxLen]; omega) (by omega) hbs21 ?_; intro v21 w21 hown21 hgrow21 _)
                        have HB21 := hide ((HB20.out.alloc hbs20 (.cells #[.int .i64 x1, .int .i64 x2, .int .i64 (x3)] 35)).grown hgrow21 hbs21 (fun i hi => (hrow20.lt i hi).1))
                        refine ⟨⟨k3 + 1, by omega, by go_num, fun j y hj hy => ?_, ?_, HB21.out⟩, by simp [intOf]; omega⟩
                        · by_cases e : j = k3
                          · subst e
                            have := HX.out
                            rw [hy] at this
                            injection this with this
                            rw [this]
                            exact HM.out
                          · exact HA.out j y (by omega) hy
                        · rw [HXT.out, List.map_append, List.map_singleton, HZ.out, rcs_snoc]
                          exact hown21
                    · obtain ⟨hgf, hye⟩ := cntR_found HRF.out hy hyk
                      obtain ⟨u2, hu⟩ : ∃ u, u = y.2.2 := ⟨_, rfl⟩
                      rw [← hu] at hgf hye
                      subst hye
                      obtain ⟨g2, off2, rfl, hgl2, e0, e1, e2⟩ := (HEF.out.later (HBW2.out.trans (hbA.mono HBW2.out.size))).cells i2 _ hy
                      simp only at e0 e1 e2
                      have hub := BFH.out.all _ (getA_mem hgf)
                      simp only at hub
                      have hil := (List.getElem?_eq_some_iff.1 hy).1
                      rw [cntR_len] at hil
                      have HBXm := hide (HBX2.out.later hbA)
                      have HBWm := hide (HBW2.out.trans (hbA.mono HBW2.out.size))
                      have HROWm := hide (row_later HROW2.out hbA)
                      obtain ⟨b0c, b1c, b2c⟩ := HBXm.out.cells
                      have hfz := HBXm.out.free
                      have HFB : Hid (-200000000 ≤ x3 - u2 ∧ x3 - u2 ≤ 200000000) := by show _ ∧ _; have := HLS.out; have := HLM.out; have := HFB1.out; omega
                      have fb1 : -9223372036854775808 ≤ x3 - u2 ∧ x3 - u2 ≤ 9223372036854775807 := by have := HFB.out; omega
                      obtain ⟨fb1, fb2⟩ := fb1
                      have hge2 : (0 : Int) ≤ (i2 : Int) := by omega
                      have HZ : Hid (docR G F (x1, x2, x3) = (x1, x2, x3 - u2)) := by
                        show (x1, x2, x3 + (getA G x1).getD 0 - (getA F x1).getD 0) = _
                        rw [HGA.out, hgf]; simp
                      clear hg2 hbA f02 hgf hy hyk hu hub
                      go_wp2
                      go_region
                      have HD := hide (And.intro (HBXm.out.set (x3 - u2)).drew (And.intro (HBWm.out.setCell (p := ⟨wr.heap.size, 2, none⟩) hsz7 (.int .i64 (x3 - u2))).drew (row_set (o := 2) (u := .int .i64 (x3 - u2)) HROWm.out HOB.out)))
                      have HD2 := HD.out
                      generalize (wa2.setCell ⟨wr.heap.size, 2, none⟩ (.int .i64 (x3 - u2))).drew = wb2 at *
                      obtain ⟨q1, q2, q3⟩ := HD2
                      have HBX2y := hide q1
                      have HBW2y := hide q2
                      have HROW2y := hide q3
                      clear HD q1 q2 q3 e0 e1 e2 b0c b1c b2c hfz HBXm HBWm HROWm fb1 fb2
                      have HBX := HBX2y
                      have HBW := HBW2y
                      have HROWX := HROW2y
                      obtain ⟨d0, d1, d2⟩ := HBX.out.cells
                      have hm := refMay_any x1 x2 (x3 - u2) wb2
                      cases hmm : mayR x1 x2 (x3 - u2) with
                      | false =>
                        rw [hmm] at hm
                        have HE31 := hide (chg_rng HRIS.out HMAY.out HRG.out HRF.out HALL.out (List.mem_of_getElem? HX.out) (show mayRo (docR G F (x1, x2, x3)) = false by rw [HZ.out]; exact hmm))
                        clear hmm
                        go_wp2_with (go_at_call 27; refine hm.mono ?_; rintro e w20 ⟨rfl, hb20⟩)
                        go_ret2
                        have hbw := HB4.out.trans ((HBW.out.trans (hb20.mono HBW.out.size)).mono HB4.out.size)
                        exact ⟨hbw, _, by rw [HEE.out, HE31.out]; rfl, HSAME.out _ hbw (by rw [HTT.out]; exact chgT_no (by rw [HE31.out]; omega))⟩
                      | true =>
                        rw [hmm] at hm
                        have HM : Hid (mayRo (docR G F (x1, x2, x3)) = true) := by show _ = _; rw [HZ.out]; exact hmm
                        clear hmm
                        go_wp2_with fail
                        refine hm.mono ?_
                        rintro e w20 ⟨rfl, hb20⟩
                        have HB20 := hide (HBW.out.trans (hb20.mono HBW.out.size))
                        obtain ⟨d0, d1, d2⟩ := (HBX.out.later hb20).cells
                        have hrow20 := row_later HROWX.out hb20
                        have hbs20 := HB20.out.size
                        have hcell20 := cells_three_new w20 (.int .i64 x1) (.int .i64 x2) (.int .i64 (x3 - u2)) 35
                        have hbs21 := Nat.le_trans hbs20 (below_alloc w20 (.cells #[.int .i64 x1, .int .i64 x2, .int .i64 (x3 - u2)] 35)).size
                        clear hm hb20
                        go_wp2_with (at_builtin; refine wpList_append_own _ rfl _ _ 27 rfl w4.heap.size 35 i0 (.agg #[.int .i64 0, .int .i64 0, .int .i64 0]) 3 24 Try.underlying27 hi hz0 hz1 hz2 rfl (by decide) _ _ _ rfl (hrow20.alloc _) ⟨w20.heap.size, 0, none⟩ 1 1 [.int .i64 x1, .int .i64 x2, .int .i64 (x3 - u2)] rfl rfl hcell20 (by simp [Value.oneCell']) (by simp only [maxLen]; omega) (by omega) hbs21 ?_; intro v21 w21 hown21 hgrow21 _)
                        have HB21 := hide ((HB20.out.alloc hbs20 (.cells #[.int .i64 x1, .int .i64 x2, .int .i64 (x3 - u2)] 35)).grown hgrow21 hbs21 (fun i hi => (hrow20.lt i hi).1))
                        refine ⟨⟨k3 + 1, by omega, by go_num, fun j y hj hy => ?_, ?_, HB21.out⟩, by simp [intOf]; omega⟩
                        · by_cases e : j = k3
                          · subst e
                            have := HX.out
                            rw [hy] at this
                            injection this with this
                            rw [this]
                            exact HM.out
                          · exact HA.out j y (by omega) hy
                        · rw [HXT.out, List.map_append, List.map_singleton, HZ.out, rcs_snoc]
                          exact hown21
                  · obtain ⟨hgf, hye⟩ := cntR_found HRG.out hy hyk
                    obtain ⟨u1, hu⟩ : ∃ u, u = y.2.2 := ⟨_, rfl⟩
                    rw [← hu] at hgf hye
                    subst hye
                    obtain ⟨g1, off1, rfl, hgl1, e0, e1, e2⟩ := (HEG.out.later (HBW1.out.trans (hbA.mono HBW1.out.size))).cells i1 _ hy
                    simp only at e0 e1 e2
                    have hub := BGH.out.all _ (getA_mem hgf)
                    simp only at hub
                    have hil := (List.getElem?_eq_some_iff.1 hy).1
                    rw [cntR_len] at hil
                    have HBXm := hide (HBX1.out.later hbA)
                    have HBWm := hide (HBW1.out.trans (hbA.mono HBW1.out.size))
                    have HROWm := hide (row_later HROW1.out hbA)
                    obtain ⟨b0c, b1c, b2c⟩ := HBXm.out.cells
                    have hfz := HBXm.out.free
                    have HFB : Hid (-200000000 ≤ x3 + u1 ∧ x3 + u1 ≤ 200000000) := by show _ ∧ _; have := HLS.out; have := HLM.out; omega
                    have fb1 : -9223372036854775808 ≤ x3 + u1 ∧ x3 + u1 ≤ 9223372036854775807 := by have := HFB.out; omega
                    obtain ⟨fb1, fb2⟩ := fb1
                    have hge1 : (0 : Int) ≤ (i1 : Int) := by omega
                    have HGA : Hid ((getA G x1).getD 0 = u1) := by show _ = _; rw [hgf]; rfl
                    have HFB1 : Hid (-100000000 ≤ x3 + u1 ∧ x3 + u1 ≤ 100000000) := by show _ ∧ _; have := HLM.out; omega
                    clear hg1 hbA f01 hgf hy hyk hu hub
                    go_wp2
                    go_region
                    have HD := hide (And.intro (HBXm.out.set (x3 + u1)).drew (And.intro (HBWm.out.setCell (p := ⟨wr.heap.size, 2, none⟩) hsz7 (.int .i64 (x3 + u1))).drew (row_set (o := 2) (u := .int .i64 (x3 + u1)) HROWm.out HOB.out)))
                    have HD2 := HD.out
                    generalize (wa1.setCell ⟨wr.heap.size, 2, none⟩ (.int .i64 (x3 + u1))).drew = wb1 at *
                    obtain ⟨q1, q2, q3⟩ := HD2
                    have HBX1y := hide q1
                    have HBW1y := hide q2
                    have HROW1y := hide q3
                    clear HD q1 q2 q3 e0 e1 e2 b0c b1c b2c hfz HBXm HBWm HROWm fb1 fb2
                    have HBX2 := HBX1y
                    have HBW2 := HBW1y
                    have HROW2 := HROW1y
                    have hg2 := find_any (q := x1) (cap := fcap) (HEF.out.later HBW2.out) (by omega)
                    have f02 := HBX2.out.cells.1
                    go_wp2_with fail
                    refine hg2.mono ?_
                    rintro e wa2 ⟨hbA, ⟨rfl, hno⟩ | ⟨i2, y, hy, hyk, rfl⟩⟩
                    · have hgn := cntR_find hno
                      have HBX2x := hide (HBX2.out.later hbA)
                      have HBW2x := hide (HBW2.out.trans (hbA.mono HBW2.out.size))
                      have HROW2x := hide (row_later HROW2.out hbA)
                      have HZ : Hid (docR G F (x1, x2, x3) = (x1, x2, x3 + u1)) := by
                        show (x1, x2, x3 + (getA G x1).getD 0 - (getA F x1).getD 0) = _
                        rw [HGA.out, hgn]; simp
                      clear hg2 hno hbA f02 hgn
                      have HBX := HBX2x
                      have HBW := HBW2x
                      have HROWX := HROW2x
                      obtain ⟨d0, d1, d2⟩ := HBX.out.cells
                      have hm := refMay_any x1 x2 (x3 + u1) wa2
                      cases hmm : mayR x1 x2 (x3 + u1) with
                      | false =>
                        rw [hmm] at hm
                        have HE31 := hide (chg_rng HRIS.out HMAY.out HRG.out HRF.out HALL.out (List.mem_of_getElem? HX.out) (show mayRo (docR G F (x1, x2, x3)) = false by rw [HZ.out]; exact hmm))
                        clear hmm
                        go_wp2_with (go_at_call 27; refine hm.mono ?_; rintro e w20 ⟨rfl, hb20⟩)
                        go_ret2
                        have hbw := HB4.out.trans ((HBW.out.trans (hb20.mono HBW.out.size)).mono HB4.out.size)
                        exact ⟨hbw, _, by rw [HEE.out, HE31.out]; rfl, HSAME.out _ hbw (by rw [HTT.out]; exact chgT_no (by rw [HE31.out]; omega))⟩
                      | true =>
                        rw [hmm] at hm
                        have HM : Hid (mayRo (docR G F (x1, x2, x3)) = true) := by show _ = _; rw [HZ.out]; exact hmm
                        clear hmm
                        go_wp2_with fail
                        refine hm.mono ?_
                        rintro e w20 ⟨rfl, hb20⟩
                        have HB20 := hide (HBW.out.trans (hb20.mono HBW.out.size))
                        obtain ⟨d0, d1, d2⟩ := (HBX.out.later hb20).cells
                        have hrow20 := row_later HROWX.out hb20
                        have hbs20 := HB20.out.size
                        have hcell20 := cells_three_new w20 (.int .i64 x1) (.int .i64 x2) (.int .i64 (x3 + u1)) 35
                        have hbs21 := Nat.le_trans hbs20 (below_alloc w20 (.cells #[.int .i64 x1, .int .i64 x2, .int .i64 (x3 + u1)] 35)).size
                        clear hm hb20
                        go_wp2_with (at_builtin; refine wpList_append_own _ rfl _ _ 27 rfl w4.heap.size 35 i0 (.agg #[.int .i64 0, .int .i64 0, .int .i64 0]) 3 24 Try.underlying27 hi hz0 hz1 hz2 rfl (by decide) _ _ _ rfl (hrow20.alloc _) ⟨w20.heap.size, 0, none⟩ 1 1 [.int .i64 x1, .int .i64 x2, .int .i64 (x3 + u1)] rfl rfl hcell20 (by simp [Value.oneCell']) (by simp only [maxLen]; omega) (by omega) hbs21 ?_; intro v21 w21 hown21 hgrow21 _)
                        have HB21 := hide ((HB20.out.alloc hbs20 (.cells #[.int .i64 x1, .int .i64 x2, .int .i64 (x3 + u1)] 35)).grown hgrow21 hbs21 (fun i hi => (hrow20.lt i hi).1))
                        refine ⟨⟨k3 + 1, by omega, by go_num, fun j y hj hy => ?_, ?_, HB21.out⟩, by simp [intOf]; omega⟩
                        · by_cases e : j = k3
                          · subst e
                            have := HX.out
                            rw [hy] at this
                            injection this with this
                            rw [this]
                            exact HM.out
                          · exact HA.out j y (by omega) hy
                        · rw [HXT.out, List.map_append, List.map_singleton, HZ.out, rcs_snoc]
                          exact hown21
                    · obtain ⟨hgf, hye⟩ := cntR_found HRF.out hy hyk
                      obtain ⟨u2, hu⟩ : ∃ u, u = y.2.2 := ⟨_, rfl⟩
                      rw [← hu] at hgf hye
                      subst hye
                      obtain ⟨g2, off2, rfl, hgl2, e0, e1, e2⟩ := (HEF.out.later (HBW2.out.trans (hbA.mono HBW2.out.size))).cells i2 _ hy
                      simp only at e0 e1 e2
                      have hub := BFH.out.all _ (getA_mem hgf)
                      simp only at hub
                      have hil := (List.getElem?_eq_some_iff.1 hy).1
                      rw [cntR_len] at hil
                      have HBXm := hide (HBX2.out.later hbA)
                      have HBWm := hide (HBW2.out.trans (hbA.mono HBW2.out.size))
                      have HROWm := hide (row_later HROW2.out hbA)
                      obtain ⟨b0c, b1c, b2c⟩ := HBXm.out.cells
                      have hfz := HBXm.out.free
                      have HFB : Hid (-200000000 ≤ x3 + u1 - u2 ∧ x3 + u1 - u2 ≤ 200000000) := by show _ ∧ _; have := HLS.out; have := HLM.out; have := HFB1.out; omega
                      have fb1 : -9223372036854775808 ≤ x3 + u1 - u2 ∧ x3 + u1 - u2 ≤ 9223372036854775807 := by have := HFB.out; omega
                      obtain ⟨fb1, fb2⟩ := fb1
                      have hge2 : (0 : Int) ≤ (i2 : Int) := by omega
                      have HZ : Hid (docR G F (x1, x2, x3) = (x1, x2, x3 + u1 - u2)) := by
                        show (x1, x2, x3 + (getA G x1).getD 0 - (getA F x1).getD 0) = _
                        rw [HGA.out, hgf]; simp
                      clear hg2 hbA f02 hgf hy hyk hu hub
                      go_wp2
                      go_region
                      have HD := hide (And.intro (HBXm.out.set (x3 + u1 - u2)).drew (And.intro (HBWm.out.setCell (p := ⟨wr.heap.size, 2, none⟩) hsz7 (.int .i64 (x3 + u1 - u2))).drew (row_set (o := 2) (u := .int .i64 (x3 + u1 - u2)) HROWm.out HOB.out)))
                      have HD2 := HD.out
                      generalize (wa2.setCell ⟨wr.heap.size, 2, none⟩ (.int .i64 (x3 + u1 - u2))).drew = wb2 at *
                      obtain ⟨q1, q2, q3⟩ := HD2
                      have HBX2y := hide q1
                      have HBW2y := hide q2
                      have HROW2y := hide q3
                      clear HD q1 q2 q3 e0 e1 e2 b0c b1c b2c hfz HBXm HBWm HROWm fb1 fb2
                      have HBX := HBX2y
                      have HBW := HBW2y
                      have HROWX := HROW2y
                      obtain ⟨d0, d1, d2⟩ := HBX.out.cells
                      have hm := refMay_any x1 x2 (x3 + u1 - u2) wb2
                      cases hmm : mayR x1 x2 (x3 + u1 - u2) with
                      | false =>
                        rw [hmm] at hm
                        have HE31 := hide (chg_rng HRIS.out HMAY.out HRG.out HRF.out HALL.out (List.mem_of_getElem? HX.out) (show mayRo (docR G F (x1, x2, x3)) = false by rw [HZ.out]; exact hmm))
                        clear hmm
                        go_wp2_with (go_at_call 27; refine hm.mono ?_; rintro e w20 ⟨rfl, hb20⟩)
                        go_ret2
                        have hbw := HB4.out.trans ((HBW.out.trans (hb20.mono HBW.out.size)).mono HB4.out.size)
                        exact ⟨hbw, _, by rw [HEE.out, HE31.out]; rfl, HSAME.out _ hbw (by rw [HTT.out]; exact chgT_no (by rw [HE31.out]; omega))⟩
                      | true =>
                        rw [hmm] at hm
                        have HM : Hid (mayRo (docR G F (x1, x2, x3)) = true) := by show _ = _; rw [HZ.out]; exact hmm
                        clear hmm
                        go_wp2_with fail
                        refine hm.mono ?_
                        rintro e w20 ⟨rfl, hb20⟩
                        have HB20 := hide (HBW.out.trans (hb20.mono HBW.out.size))
                        obtain ⟨d0, d1, d2⟩ := (HBX.out.later hb20).cells
                        have hrow20 := row_later HROWX.out hb20
                        have hbs20 := HB20.out.size
                        have hcell20 := cells_three_new w20 (.int .i64 x1) (.int .i64 x2) (.int .i64 (x3 + u1 - u2)) 35
                        have hbs21 := Nat.le_trans hbs20 (below_alloc w20 (.cells #[.int .i64 x1, .int .i64 x2, .int .i64 (x3 + u1 - u2)] 35)).size
                        clear hm hb20
                        go_wp2_with (at_builtin; refine wpList_append_own _ rfl _ _ 27 rfl w4.heap.size 35 i0 (.agg #[.int .i64 0, .int .i64 0, .int .i64 0]) 3 24 Try.underlying27 hi hz0 hz1 hz2 rfl (by decide) _ _ _ rfl (hrow20.alloc _) ⟨w20.heap.size, 0, none⟩ 1 1 [.int .i64 x1, .int .i64 x2, .int .i64 (x3 + u1 - u2)] rfl rfl hcell20 (by simp [Value.oneCell']) (by simp only [maxLen]; omega) (by omega) hbs21 ?_; intro v21 w21 hown21 hgrow21 _)
                        have HB21 := hide ((HB20.out.alloc hbs20 (.cells #[.int .i64 x1, .int .i64 x2, .int .i64 (x3 + u1 - u2)] 35)).grown hgrow21 hbs21 (fun i hi => (hrow20.lt i hi).1))
                        refine ⟨⟨k3 + 1, by omega, by go_num, fun j y hj hy => ?_, ?_, HB21.out⟩, by simp [intOf]; omega⟩
                        · by_cases e : j = k3
                          · subst e
                            have := HX.out
                            rw [hy] at this
                            injection this with this
                            rw [this]
                            exact HM.out
                          · exact HA.out j y (by omega) hy
                        · rw [HXT.out, List.map_append, List.map_singleton, HZ.out, rcs_snoc]
                          exact hown21
                · obtain rfl : k3 = n := by omega
                  have htk : qs.take k3 = qs := List.take_of_length_le (by have := HL.out; omega)
                  rw [htk] at hrow
                  have hok := chg_ok HRIS.out HMAY.out HRG.out HRF.out HALL.out (fun x hx => by
                    obtain ⟨t, ht, rfl⟩ := List.mem_iff_getElem.1 hx
                    exact hall t _ (by have := HL.out; omega) (List.getElem?_eq_getElem ht))
                  have HOK := hide hok
                  have HROW := hide hrow
                  have HB7 := hide hb
                  clear hall hrow hb hok htk
                  go_wp2
                  go_ret2
                  refine ⟨HB4.out.trans (HB7.out.mono HB4.out.size), _, by rw [HEE.out, HOK.out.1]; rfl, ?_⟩
                  rw [HTT.out, HOK.out.2, List.length_map, ← HL.out]
                  exact own_base HROW.out (Nat.le_trans HB0.out HSZ4.out)
end Li
end Go.Proofs.Ytgdfmoehbgmfkaa
