/- The law LiveDrops, walked. -/
import Derived.Test.YtgdfmoehbgmfkaaDz
namespace Go.Proofs.Ytgdfmoehbgmfkaa
open Go.RowKit
namespace Li
open Wi
theorem del_put {β : Type} {rs : Al β} {k : Int} {v : β} (hr : Ris rs) (hn : getA rs k = none) : delA (putA rs k v) k = rs := by
  refine Ris.ext ((hr.put k v).del k) hr fun x => ?_
  rw [getA_del]
  by_cases e : x = k
  · subst e; rw [if_pos rfl, hn]
  · rw [if_neg e, getA_put_other _ _ e]
set_option maxHeartbeats 32000000 in
set_option maxRecDepth 100000 in
theorem liveDrops_walk (a : Option Addr) (n cap : Nat) (os : List OpV) (x : Ro) (w : World) (hO : Os w a n os) (hok : ∀ o ∈ os, OpOk w o) (_hc : n ≤ cap) (hx : I64 x.1 ∧ I64 x.2.1 ∧ I64 x.2.2) :
    Calls Try.prog 10 #[.slice a n cap, .agg #[.int .i64 x.1, .int .i64 x.2.1, .int .i64 x.2.2]] w fun e w' => e = .returned (.bool true) ∧ Below w.heap.size w w' := by
  obtain ⟨x1, x2, x3⟩ := x
  have ha := awake_any
  have hbx := below_alloc w (.cells #[.int .i64 x1, .int .i64 x2, .int .i64 x3] 58)
  have hblk := heap_alloc_new w (.cells #[.int .i64 x1, .int .i64 x2, .int .i64 x3] 58)
  have hnew := new_any (w.alloc (.cells #[.int .i64 x1, .int .i64 x2, .int .i64 x3] 58))
  rw [World.size_alloc] at hnew
  have HO := hide hO
  have HOK := hide hok
  have HLN := hide hO.len
  have HXI := hide hx
  have HX1 := hide hx.1
  have HBX0 := hide hbx
  have HBLK := hide hblk
  have hmost := hO.most
  clear hO hok hx hbx hblk
  go_enter Try.func10, Try.ntmps10
  go_wp2_with fail
  refine hnew.mono ?_
  rintro e w1 ⟨rfl, hT1, hb1⟩
  have HT1 := hide hT1
  have HB1 := hide (HBX0.out.trans (hb1.mono (by omega)))
  have HBLK1 := hide ((hb1.block w.heap.size (by simp)).trans HBLK.out)
  have hsz1 : w.heap.size + 1 ≤ w1.heap.size := by have := hb1.size; simpa using this
  have hf := few_any (cap := cap) (HO.out.later HB1.out)
  clear hnew hT1 hb1
  go_wp2_with fail
  refine hf.mono ?_
  rintro e W2 ⟨rfl, hb2⟩
  have HB2 := hide (HB1.out.trans (hb2.mono HB1.out.size))
  have HT2 := hide (HT1.out.later hb2)
  have HBOX2 := hide ((hb2.block w.heap.size (by omega)).trans HBLK1.out)
  have HSZ2 : Hid (w.heap.size + 1 ≤ W2.heap.size) := Nat.le_trans hsz1 hb2.size
  clear hf hb2 hsz1
  cases hfe : fewL os with
  | false =>
    clear hfe
    go_wp2_with (go_at_call 13; refine (ha _).mono ?_; rintro e w3 ⟨rfl, hb3⟩)
    go_ret
    exact ⟨rfl, HB2.out.trans (hb3.mono HB2.out.size)⟩
  | true =>
    have HF := hide hfe
    obtain ⟨tb, htb⟩ : ∃ tb, tb = w.heap.size + 1 + 1 := ⟨_, rfl⟩
    obtain ⟨mb, hmb⟩ : ∃ mb, mb = w.heap.size + 1 := ⟨_, rfl⟩
    have HMB : Hid (w.heap.size ≤ mb) := by show _ ≤ _; omega
    have HMB1 : Hid (w.heap.size < mb) := by show _ < _; omega
    rw [← htb, ← hmb] at HT2
    clear hfe
    go_wp2
    rw [← htb]
    clear htb hmb
    go_loopw [6] (fun i wr => ∃ k : Nat, k ≤ n ∧ i = .int .i64 k ∧ Tab wr tb mb (runT (os.take k)) ∧ Below w.heap.size w wr ∧ W2.grownBy wr (some mb)) (fun i _ => n - (intOf i).toNat)
    case atStart => exact ⟨0, Nat.zero_le _, rfl, HT2.out, HB2.out, ⟨rfl, rfl, rfl, Nat.le_refl _, fun _ _ _ => rfl⟩⟩
    case round =>
      obtain ⟨k, hk, rfl, hT, hb, hg⟩ := hrel
      by_cases hlt : k < n
      · obtain ⟨o, ho⟩ : ∃ o, os[k]? = some o := ⟨_, List.getElem?_eq_getElem (by have := HLN.out; omega)⟩
        obtain ⟨g, off, rfl, hgl, c0, c1, c2, c3, c4⟩ := (HO.out.later hb).cells k o ho
        have hm := List.mem_of_getElem? ho
        have hrf := run_facts HF.out HOK.out k
        have hd := does_nil hT hrf.2.1 (HOK.out o hm) ((few_all HF.out).1 o hm) hb HMB.out (by omega)
        have HSN := hide (show runT (os.take (k + 1)) = opT (runT (os.take k)) o by rw [snoc_take _ _ _ ho, runT_snoc])
        have HG := hide hg
        clear ho hT hb hg hm hrf
        go_wp2_with fail
        refine hd.mono ?_
        rintro e w9 ⟨v9, bb9, rfl, hT9, hb9, hg9⟩
        have HT9 := hide hT9
        have HB9 := hide hb9
        have HG9 := hide (HG.out.trans hg9)
        clear hd hT9 hb9 hg9 c0 c1 c2 c3 c4
        go_wp2
        go_roundw
        case rel => exact ⟨k + 1, by omega, by go_num, by rw [HSN.out]; exact HT9.out, HB9.out, HG9.out⟩
        case measure => simp [intOf]; omega
      · obtain rfl : k = n := by omega
        have htk : os.take k = os := List.take_of_length_le (by have := HLN.out; omega)
        rw [htk] at hT
        have HT := hide hT
        have HB := hide hb
        have HG := hide hg
        have hrf := run_facts HF.out HOK.out k
        rw [htk] at hrf
        have HRF := hide hrf
        generalize runT os = rs at *
        clear hT hb hg htk hrf
        have hr3 := rows_any HT.out.at (by have := HRF.out.2.2; omega)
        go_wp2_with fail
        refine hr3.mono ?_
        rintro e w3 ⟨v3, rfl, hrow3, hb3⟩
        obtain ⟨a3, cap3, rfl⟩ := row_slice (own_base hrow3 (Nat.zero_le _))
        have hp4 := plain_any (cap := cap3) (er_own hrow3 rfl (fun x hx => may_rng (HRF.out.2.1 x hx))) (by have := HRF.out.2.2; omega)
        have HB3 := hide hb3
        clear hr3 hrow3 hb3
        go_wp2_with fail
        refine hp4.mono ?_
        rintro e w4 ⟨v4, rfl, hrow4, hb4⟩
        obtain ⟨a4, cap4, rfl⟩ := row_slice (own_base hrow4 (Nat.zero_le _))
        have HB34 := hide (HB3.out.trans (hb4.mono HB3.out.size))
        have HT4 := hide (HT.out.later HB34.out)
        have HG4 := hide (HG.out.trans (grown_of_below HB34.out (some mb)))
        have hmb3 : mb < w3.heap.size := Nat.lt_of_lt_of_le HT.out.map.lt HB3.out.size
        have HWAS : Hid (∀ w', w4.grownBy w' (some mb) → Er w' a4 rs.length rs) := fun w' hg => er_own35 (hrow4.kept hg (.inr (fun e => by have := (hrow4.lt _ e).1; omega))) rfl (fun x hx => may_rng (HRF.out.2.1 x hx))
        have HBX : Hid (∀ w', w4.grownBy w' (some mb) → w'.cell? ⟨w.heap.size, 0, none⟩ = some (.int .i64 x1) ∧ w'.cell? ⟨w.heap.size, 1, none⟩ = some (.int .i64 x2) ∧ w'.cell? ⟨w.heap.size, 2, none⟩ = some (.int .i64 x3)) := fun w' hg => row_cells (((HG4.out.trans hg).block w.heap.size (Nat.lt_of_lt_of_le (Nat.lt_succ_self _) HSZ2.out) (fun e => by have := Option.some.inj e; have := HMB1.out; omega)).trans HBOX2.out)
        have hrefl : w4.grownBy w4 (some mb) := ⟨rfl, rfl, rfl, Nat.le_refl _, fun _ _ _ => rfl⟩
        obtain ⟨d0, d1, d2⟩ := HBX.out w4 hrefl
        clear hp4 hrow4 hb4 hrefl hmb3
        cases hg : getA rs x1 with
        | some p =>
          have hgt := get_some HT4.out HX1.out hg
          go_wp2_with fail
          refine hgt.mono ?_
          rintro e w5 ⟨rfl, hb5⟩
          have HB5a := hide hb5
          have hb5b := hb5.alloc hb5.size (.cells #[.int .i64 x1, .int .i64 p.1, .int .i64 p.2] 58)
          have HG5 := hide (grown_of_below hb5b (some mb))
          have HT5 := hide (HT4.out.later hb5b)
          have hb5c := hb5b.alloc hb5b.size (.cells #[.int .i64 x1, .int .i64 x2, .int .i64 x3] 58)
          have HG5c := hide (grown_of_below hb5c (some mb))
          have had := add_any (cap := 1) (HT4.out.later hb5c) (er_one (w5.alloc (.cells #[.int .i64 x1, .int .i64 p.1, .int .i64 p.2] 58)) HXI.out) (by have := HRF.out.2.2; omega) (Nat.le_refl _)
          rw [World.size_alloc] at had
          obtain ⟨d0, d1, d2⟩ := HBX.out (w5.alloc (.cells #[.int .i64 x1, .int .i64 p.1, .int .i64 p.2] 58)) HG5.out
          clear hgt hb5 hb5b hb5c
          cases hmm : mayR x1 x2 x3 with
          | false =>
            -- the row may not be
            have HE1 : Hid (addE rs [(x1, (x2, x3))] = 1) := by show _ = _; unfold addE; simp [hmm]
            have HR1 : Hid (addR rs [(x1, (x2, x3))] = rs) := by show _ = _; unfold addR; simp [hmm]
            rw [HE1.out, HR1.out] at had
            go_wp2_with fail
            refine had.mono ?_
            rintro e w6 ⟨rfl, hT6, hg6⟩
            have HT6 := hide hT6
            have HG6 := hide (HG5c.out.trans hg6)
            obtain ⟨e0, e1, e2⟩ := HBX.out w6 HG6.out
            have hpl := plain_any (cap := 1) (er_one w6 HXI.out) (by omega)
            have hba := below_alloc w6 (.cells #[.int .i64 x1, .int .i64 x2, .int .i64 x3] 58)
            have HBA := hide hba
            clear had hT6 hg6 hba d0 d1 d2
            go_wp2_with fail
            refine hpl.mono ?_
            rintro e w7 ⟨v7, rfl, hrow7, hb7⟩
            obtain ⟨g7, cap7, rfl, hg7⟩ := row_form (own_base hrow7 (Nat.zero_le _)) (by omega)
            have k0 := (World.ownsRow.cellAt hrow7 0 (by omega))
            have k1 := (World.ownsRow.cellAt hrow7 1 (by omega))
            have k2 := (World.ownsRow.cellAt hrow7 2 (by omega))
            simp only [rcs, rc, List.flatMap_cons, List.flatMap_nil, List.append_nil, List.getElem?_cons_zero, List.getElem?_cons_succ] at k0 k1 k2
            have HB7 := hide (HBA.out.trans (hb7.mono HBA.out.size))
            have hmay7 := fun w => refMay_any x1 x2 x3 w
            rw [hmm] at hmay7
            clear hpl hrow7 hb7 e0 e1 e2
            go_wp2_with (go_at_call 27; refine (hmay7 _).mono ?_; rintro e w8 ⟨rfl, hb8⟩; have HB8 := hide (HB7.out.trans (hb8.mono HB7.out.size)); have hr8 := rows_any (HT6.out.later HB8.out).at (by have := HRF.out.2.2; omega); clear k0 k1 k2 hb8)
            refine hr8.mono ?_
            rintro e w9 ⟨v9, rfl, hrow9, hb9⟩
            obtain ⟨a9, cap9, rfl⟩ := row_slice (own_base hrow9 (Nat.zero_le _))
            have HB9 := hide (HB8.out.trans (hb9.mono HB8.out.size))
            have hsm := same_any (cap := cap9) (cap2 := cap4) (er_own hrow9 rfl (fun x hx => may_rng (HRF.out.2.1 x hx))) (HWAS.out w9 (HG6.out.trans (grown_of_below HB9.out (some mb)))) (by have := HRF.out.2.2; omega)
            clear hr8 hrow9 hb9
            go_wp2_with (first
              | (go_at_call 16; refine hsm.mono ?_; rintro e w10 ⟨rfl, hb10⟩; have HB10 := hide (HB9.out.trans (hb10.mono HB9.out.size)); clear hb10)
              | (go_at_call 13; refine (ha _).mono ?_; rintro e w11 ⟨rfl, hb11⟩))
            go_ret
            have hgf := (HG4.out.trans (HG6.out.trans (grown_of_below (HB10.out.trans (hb11.mono HB10.out.size)) (some mb))))
            exact ⟨rfl, HB2.out.grown hgf HB2.out.size (fun i hi => by cases hi; exact HMB.out)⟩
          | true =>
            have HE1 : Hid (addE rs [(x1, (x2, x3))] = 16) := by show _ = _; unfold addE; simp [hmm, addF, hg]
            have HR1 : Hid (addR rs [(x1, (x2, x3))] = rs) := by show _ = _; unfold addR; simp [hmm, addF, hg]
            rw [HE1.out, HR1.out] at had
            go_wp2_with fail
            refine had.mono ?_
            rintro e w6 ⟨rfl, hT6, hg6⟩
            have HT6 := hide hT6
            have HG6 := hide (HG5c.out.trans hg6)
            have HB8 := hide (Below.refl w6.heap.size w6)
            have hr8 := rows_any HT6.out.at (by have := HRF.out.2.2; omega)
            clear had hT6 hg6 d0 d1 d2
            go_wp2_with fail
            refine hr8.mono ?_
            rintro e w9 ⟨v9, rfl, hrow9, hb9⟩
            obtain ⟨a9, cap9, rfl⟩ := row_slice (own_base hrow9 (Nat.zero_le _))
            have HB9 := hide (HB8.out.trans (hb9.mono HB8.out.size))
            have hsm := same_any (cap := cap9) (cap2 := cap4) (er_own hrow9 rfl (fun x hx => may_rng (HRF.out.2.1 x hx))) (HWAS.out w9 (HG6.out.trans (grown_of_below HB9.out (some mb)))) (by have := HRF.out.2.2; omega)
            clear hr8 hrow9 hb9
            go_wp2_with (first
              | (go_at_call 16; refine hsm.mono ?_; rintro e w10 ⟨rfl, hb10⟩; have HB10 := hide (HB9.out.trans (hb10.mono HB9.out.size)); clear hb10)
              | (go_at_call 13; refine (ha _).mono ?_; rintro e w11 ⟨rfl, hb11⟩))
            go_ret
            have hgf := (HG4.out.trans (HG6.out.trans (grown_of_below (HB10.out.trans (hb11.mono HB10.out.size)) (some mb))))
            exact ⟨rfl, HB2.out.grown hgf HB2.out.size (fun i hi => by cases hi; exact HMB.out)⟩
        | none =>
          have hgt := get_none HT4.out HX1.out hg
          go_wp2_with fail
          refine hgt.mono ?_
          rintro e w5 ⟨rfl, hb5⟩
          have HB5a := hide hb5
          have hb5b := hb5.alloc hb5.size (.cells #[.int .i64 0, .int .i64 0, .int .i64 0] 58)
          have HG5 := hide (grown_of_below hb5b (some mb))
          have HT5 := hide (HT4.out.later hb5b)
          have hb5c := hb5b.alloc hb5b.size (.cells #[.int .i64 x1, .int .i64 x2, .int .i64 x3] 58)
          have HG5c := hide (grown_of_below hb5c (some mb))
          have had := add_any (cap := 1) (HT4.out.later hb5c) (er_one (w5.alloc (.cells #[.int .i64 0, .int .i64 0, .int .i64 0] 58)) HXI.out) (by have := HRF.out.2.2; omega) (Nat.le_refl _)
          rw [World.size_alloc] at had
          obtain ⟨d0, d1, d2⟩ := HBX.out (w5.alloc (.cells #[.int .i64 0, .int .i64 0, .int .i64 0] 58)) HG5.out
          clear hgt hb5 hb5b hb5c
          cases hmm : mayR x1 x2 x3 with
          | false =>
            -- the row may not be
            have HE1 : Hid (addE rs [(x1, (x2, x3))] = 1) := by show _ = _; unfold addE; simp [hmm]
            have HR1 : Hid (addR rs [(x1, (x2, x3))] = rs) := by show _ = _; unfold addR; simp [hmm]
            rw [HE1.out, HR1.out] at had
            go_wp2_with fail
            refine had.mono ?_
            rintro e w6 ⟨rfl, hT6, hg6⟩
            have HT6 := hide hT6
            have HG6 := hide (HG5c.out.trans hg6)
            obtain ⟨e0, e1, e2⟩ := HBX.out w6 HG6.out
            have hpl := plain_any (cap := 1) (er_one w6 HXI.out) (by omega)
            have hba := below_alloc w6 (.cells #[.int .i64 x1, .int .i64 x2, .int .i64 x3] 58)
            have HBA := hide hba
            clear had hT6 hg6 hba d0 d1 d2
            go_wp2_with fail
            refine hpl.mono ?_
            rintro e w7 ⟨v7, rfl, hrow7, hb7⟩
            obtain ⟨g7, cap7, rfl, hg7⟩ := row_form (own_base hrow7 (Nat.zero_le _)) (by omega)
            have k0 := (World.ownsRow.cellAt hrow7 0 (by omega))
            have k1 := (World.ownsRow.cellAt hrow7 1 (by omega))
            have k2 := (World.ownsRow.cellAt hrow7 2 (by omega))
            simp only [rcs, rc, List.flatMap_cons, List.flatMap_nil, List.append_nil, List.getElem?_cons_zero, List.getElem?_cons_succ] at k0 k1 k2
            have HB7 := hide (HBA.out.trans (hb7.mono HBA.out.size))
            have hmay7 := fun w => refMay_any x1 x2 x3 w
            rw [hmm] at hmay7
            clear hpl hrow7 hb7 e0 e1 e2
            go_wp2_with (go_at_call 27; refine (hmay7 _).mono ?_; rintro e w8 ⟨rfl, hb8⟩; have HB8 := hide (HB7.out.trans (hb8.mono HB7.out.size)); have hr8 := rows_any (HT6.out.later HB8.out).at (by have := HRF.out.2.2; omega); clear k0 k1 k2 hb8)
            refine hr8.mono ?_
            rintro e w9 ⟨v9, rfl, hrow9, hb9⟩
            obtain ⟨a9, cap9, rfl⟩ := row_slice (own_base hrow9 (Nat.zero_le _))
            have HB9 := hide (HB8.out.trans (hb9.mono HB8.out.size))
            have hsm := same_any (cap := cap9) (cap2 := cap4) (er_own hrow9 rfl (fun x hx => may_rng (HRF.out.2.1 x hx))) (HWAS.out w9 (HG6.out.trans (grown_of_below HB9.out (some mb)))) (by have := HRF.out.2.2; omega)
            clear hr8 hrow9 hb9
            go_wp2_with (first
              | (go_at_call 16; refine hsm.mono ?_; rintro e w10 ⟨rfl, hb10⟩; have HB10 := hide (HB9.out.trans (hb10.mono HB9.out.size)); clear hb10)
              | (go_at_call 13; refine (ha _).mono ?_; rintro e w11 ⟨rfl, hb11⟩))
            go_ret
            have hgf := (HG4.out.trans (HG6.out.trans (grown_of_below (HB10.out.trans (hb11.mono HB10.out.size)) (some mb))))
            exact ⟨rfl, HB2.out.grown hgf HB2.out.size (fun i hi => by cases hi; exact HMB.out)⟩
          | true =>
            have HE1 : Hid (addE rs [(x1, (x2, x3))] = 0) := by show _ = _; unfold addE; simp [hmm, addF, hg]
            have HR1 : Hid (addR rs [(x1, (x2, x3))] = putA rs x1 (x2, x3)) := by show _ = _; unfold addR; simp [hmm, addF, hg]
            rw [HE1.out, HR1.out] at had
            have HGN := hide hg
            go_wp2_with fail
            refine had.mono ?_
            rintro e w6 ⟨rfl, hT6, hg6⟩
            have HT6 := hide hT6
            have HG6 := hide (HG5c.out.trans hg6)
            obtain ⟨e0, e1, e2⟩ := HBX.out w6 HG6.out
            have hg6b := get_some (p := (x2, x3)) hT6 HX1.out (getA_put_same ..)
            clear had hT6 hg6 d0 d1 d2 hg
            go_wp2_with fail
            refine hg6b.mono ?_
            rintro e w7 ⟨rfl, hb7⟩
            have HB7 := hide (hb7.alloc hb7.size (.cells #[.int .i64 x1, .int .i64 x2, .int .i64 x3] 58))
            have HG7 := hide (HG6.out.trans (grown_of_below HB7.out (some mb)))
            have HY7 : Hid (∀ w', (w7.alloc (.cells #[.int .i64 x1, .int .i64 x2, .int .i64 x3] 58)).grownBy w' (some mb) → w'.cell? ⟨w7.heap.size, 0, none⟩ = some (.int .i64 x1) ∧ w'.cell? ⟨w7.heap.size, 1, none⟩ = some (.int .i64 x2) ∧ w'.cell? ⟨w7.heap.size, 2, none⟩ = some (.int .i64 x3)) := by
              have hlt7 : mb < w7.heap.size := Nat.lt_of_lt_of_le HT6.out.map.lt hb7.size
              exact fun w' hg => row_cells ((hg.block w7.heap.size (by simp) (fun e => by have := Option.some.inj e; omega)).trans (heap_alloc_new w7 _))
            obtain ⟨e0, e1, e2⟩ := HBX.out _ HG7.out
            have hdr := drop_some (p := (x2, x3)) (HT6.out.later HB7.out) HX1.out (getA_put_same ..)
            clear hg6b hb7
            go_wp2_with fail
            refine hdr.mono ?_
            rintro e w8 ⟨rfl, hT8, hg8⟩
            have HDEL := hide (show delA (putA rs x1 (x2, x3)) x1 = rs from del_put HRF.out.1 HGN.out)
            rw [HDEL.out] at hT8
            have HT8 := hide hT8
            have HG8 := hide (HG7.out.trans hg8)
            have HY8 := hide hg8
            obtain ⟨e0, e1, e2⟩ := HBX.out _ HG8.out
            have hgn8 := get_none hT8 HX1.out HGN.out
            clear hdr hT8 hg8
            go_wp2_with fail
            refine hgn8.mono ?_
            rintro e w9 ⟨rfl, hb9⟩
            have HB9 := hide (hb9.alloc hb9.size (.cells #[.int .i64 0, .int .i64 0, .int .i64 0] 58))
            have HG9 := hide (HG8.out.trans (grown_of_below HB9.out (some mb)))
            obtain ⟨e0, e1, e2⟩ := HBX.out _ HG9.out
            obtain ⟨y0, y1, y2⟩ := HY7.out _ (HY8.out.trans (grown_of_below HB9.out (some mb)))
            have hdn := drop_none (HT8.out.later HB9.out) HX1.out HGN.out
            clear hgn8 hb9
            go_wp2_with fail
            refine hdn.mono ?_
            rintro e w20 ⟨rfl, hb20⟩
            have HB8 := hide (HB9.out.trans (hb20.mono HB9.out.size))
            have hr8 := rows_any (HT8.out.later HB8.out).at (by have := HRF.out.2.2; omega)
            clear hdn hb20 e0 e1 e2 y0 y1 y2
            go_wp2_with fail
            refine hr8.mono ?_
            rintro e w9 ⟨v9, rfl, hrow9, hb9⟩
            obtain ⟨a9, cap9, rfl⟩ := row_slice (own_base hrow9 (Nat.zero_le _))
            have HB9 := hide (HB8.out.trans (hb9.mono HB8.out.size))
            have hsm := same_any (cap := cap9) (cap2 := cap4) (er_own hrow9 rfl (fun x hx => may_rng (HRF.out.2.1 x hx))) (HWAS.out w9 (HG8.out.trans (grown_of_below HB9.out (some mb)))) (by have := HRF.out.2.2; omega)
            clear hr8 hrow9 hb9
            go_wp2_with (first
              | (go_at_call 16; refine hsm.mono ?_; rintro e w10 ⟨rfl, hb10⟩; have HB10 := hide (HB9.out.trans (hb10.mono HB9.out.size)); clear hb10)
              | (go_at_call 13; refine (ha _).mono ?_; rintro e w11 ⟨rfl, hb11⟩))
            go_ret
            have hgf := (HG4.out.trans (HG8.out.trans (grown_of_below (HB10.out.trans (hb11.mono HB10.out.size)) (some mb))))
            exact ⟨rfl, HB2.out.grown hgf HB2.out.size (fun i hi => by cases hi; exact HMB.out)⟩
end Li
end Go.Proofs.Ytgdfmoehbgmfkaa
