/- The law LiveBack, walked. -/
import Derived.Test.YtgdfmoehbgmfkaaDf
namespace Go.Proofs.Ytgdfmoehbgmfkaa
open Go.RowKit
namespace Li
open Wi
theorem chT_no {rs : Rows} {ms ls : List Ix} (h : chE rs ms ls ≠ 0) : chT rs ms ls = rs := by
  unfold chT
  cases h1 : (ms.all Ix.may && ls.all Ix.may) with
  | false => rfl
  | true =>
    rw [if_pos rfl]
    refine chgT_no ?_
    unfold chE at h
    rw [h1, if_pos rfl] at h
    exact h
set_option maxHeartbeats 32000000 in
set_option maxRecDepth 100000 in
theorem liveBack_walk (a : Option Addr) (n cap : Nat) (os : List OpV) (a1 : Option Addr) (n1 cap1 : Nat) (ms : List Ix) (a2 : Option Addr) (n2 cap2 : Nat) (ls : List Ix) (w : World) (hO : Os w a n os) (hok : ∀ o ∈ os, OpOk w o) (_hc : n ≤ cap) (hE1 : Ex w a1 n1 ms) (_hc1 : n1 ≤ cap1) (hE2 : Ex w a2 n2 ls) (_hc2 : n2 ≤ cap2) :
    Calls Try.prog 5 #[.slice a n cap, .slice a1 n1 cap1, .slice a2 n2 cap2] w fun e w' => e = .returned (.bool true) ∧ Below w.heap.size w w' := by
  have ha := awake_any
  have hnew := new_any w
  have HO := hide hO
  have HOK := hide hok
  have HLN := hide hO.len
  have HE1 := hide hE1
  have HE2 := hide hE2
  have hmost := hO.most
  have hmost1 := hE1.most
  have hmost2 := hE2.most
  clear hO hok hE1 hE2
  go_enter Try.func5, Try.ntmps5
  go_wp2_with fail
  refine hnew.mono ?_
  rintro e w1 ⟨rfl, hT1, hb1⟩
  have HT1 := hide hT1
  have HB1 := hide hb1
  have hf := few_any (cap := cap) (HO.out.later HB1.out)
  clear hnew hT1 hb1
  go_wp2_with fail
  refine hf.mono ?_
  rintro e W2 ⟨rfl, hb2⟩
  have HB2 := hide (HB1.out.trans (hb2.mono HB1.out.size))
  have HT2 := hide (HT1.out.later hb2)
  clear hf hb2
  cases hfe : fewL os with
  | false =>
    clear hfe
    go_wp2_with (go_at_call 13; refine (ha _).mono ?_; rintro e w3 ⟨rfl, hb3⟩)
    go_ret
    exact ⟨rfl, HB2.out.trans (hb3.mono HB2.out.size)⟩
  | true =>
    have HF := hide hfe
    clear hfe
    by_cases g1 : 20 < n1
    · have g1' : (20 : Int) < (n1 : Int) := by omega
      go_wp2_with (go_at_call 13; refine (ha _).mono ?_; rintro e w3 ⟨rfl, hb3⟩)
      go_ret
      exact ⟨rfl, HB2.out.trans (hb3.mono HB2.out.size)⟩
    · have g1' : ¬ (20 : Int) < (n1 : Int) := by omega
      by_cases g2 : 20 < n2
      · have g2' : (20 : Int) < (n2 : Int) := by omega
        go_wp2_with (go_at_call 13; refine (ha _).mono ?_; rintro e w3 ⟨rfl, hb3⟩)
        go_ret
        exact ⟨rfl, HB2.out.trans (hb3.mono HB2.out.size)⟩
      · have g2' : ¬ (20 : Int) < (n2 : Int) := by omega
        obtain ⟨tb, htb⟩ : ∃ tb, tb = w.heap.size + 1 := ⟨_, rfl⟩
        obtain ⟨mb, hmb⟩ : ∃ mb, mb = w.heap.size := ⟨_, rfl⟩
        have HMB : Hid (w.heap.size ≤ mb) := by show _ ≤ _; omega
        have HT2' : Hid (Tab W2 tb mb []) := by rw [htb, hmb]; exact HT2.out
        clear HT2
        have HT2 := HT2'
        clear HT2' HT1
        go_wp2
        rw [← htb]
        clear htb hmb
        go_loopw [8] (fun i wr => ∃ k : Nat, k ≤ n ∧ i = .int .i64 k ∧ Tab wr tb mb (runT (os.take k)) ∧ Below w.heap.size w wr ∧ W2.grownBy wr (some mb)) (fun i _ => n - (intOf i).toNat)
        case atStart => exact ⟨0, Nat.zero_le _, rfl, HT2.out, HB2.out, ⟨rfl, rfl, rfl, Nat.le_refl _, fun _ _ _ => rfl⟩⟩
        case round =>
          obtain ⟨k, hk, rfl, hT, hb, hg⟩ := hrel
          by_cases hlt : k < n
          · obtain ⟨o, ho⟩ : ∃ o, os[k]? = some o := ⟨_, List.getElem?_eq_getElem (by have := HLN.out; omega)⟩
            obtain ⟨g, off, rfl, hgl, c0, c1, c2, c3, c4⟩ := (HO.out.later hb).cells k o ho
            have hm := List.mem_of_getElem? ho
            have hrf := run_facts HF.out HOK.out k
            have hd := does_nil hT hrf.2.1 (HOK.out o hm) ((few_all HF.out).1 o hm) hb HMB.out (by omega)
            have HSN := hide (show runT (os.take (k + 1)) = opT (runT (os.take k)) o by rw [snoc_take _ _ _ ho, runT_snoc])
            have HG := hide hg
            clear ho hT hb hg hm hrf
            go_wp2_with fail
            refine hd.mono ?_
            rintro e w9 ⟨v9, bb9, rfl, hT9, hb9, hg9⟩
            have HT9 := hide hT9
            have HB9 := hide hb9
            have HG9 := hide (HG.out.trans hg9)
            clear hd hT9 hb9 hg9 c0 c1 c2 c3 c4
            go_wp2
            go_roundw
            case rel => exact ⟨k + 1, by omega, by go_num, by rw [HSN.out]; exact HT9.out, HB9.out, HG9.out⟩
            case measure => simp [intOf]; omega
          · obtain rfl : k = n := by omega
            have htk : os.take k = os := List.take_of_length_le (by have := HLN.out; omega)
            rw [htk] at hT
            have HT := hide hT
            have HB := hide hb
            have HG := hide hg
            have hrf := run_facts HF.out HOK.out k
            rw [htk] at hrf
            have HRF := hide hrf
            generalize runT os = rs at *
            clear hT hb hg htk hrf
            have hr3 := rows_any HT.out.at (by have := HRF.out.2.2; omega)
            go_wp2_with fail
            refine hr3.mono ?_
            rintro e w3 ⟨v3, rfl, hrow3, hb3⟩
            obtain ⟨a3, cap3, rfl⟩ := row_slice (own_base hrow3 (Nat.zero_le _))
            have HT3 := hide (HT.out.later hb3)
            have hmb3 : mb < wr.heap.size := HT.out.map.lt
            have HWAS : Hid (∀ w', w3.grownBy w' (some mb) → Er w' a3 rs.length rs) := fun w' hg => er_own (hrow3.kept hg (.inr (fun e => by have := (hrow3.lt _ e).1; omega))) rfl (fun x hx => may_rng (HRF.out.2.1 x hx))
            have HG3 := hide (HG.out.trans (grown_of_below hb3 (some mb)))
            have HB3 := hide (HB.out.trans (hb3.mono HB.out.size))
            have hs4 := sum_any HT3.out HRF.out.2.1 (by have := HRF.out.2.2; omega)
            clear hr3 hrow3 hb3 hmb3
            go_wp2_with fail
            refine hs4.mono ?_
            rintro e w4 ⟨rfl, hb4⟩
            have HT4 := hide (HT3.out.later hb4)
            have HG4 := hide (grown_of_below hb4 (some mb))
            have HB4 := hide (HB3.out.trans (hb4.mono HB3.out.size))
            have hch := change_any (cap := cap1) (cap2 := cap2) HT4.out HRF.out.2.1 (HE1.out.later HB4.out) (HE2.out.later HB4.out) (by omega) (by omega) (by have := HRF.out.2.2; omega)
            clear hs4 hb4
            go_wp2_with fail
            refine hch.mono ?_
            rintro e w5 ⟨rfl, hT5, hg5⟩
            have HG5 := hide (HG4.out.trans hg5)
            have HT5 := hide hT5
            have HB5 := hide (grown_low HB4.out hg5 HMB.out)
            clear hch hT5 hg5
            by_cases hce : chE rs ms ls = 0
            · rw [hce]
              have HBF := hide (back_facts HRF.out.1 HRF.out.2.1 hce)
              obtain ⟨hm1, hm2, _⟩ := chE_zero hce
              have HALLms : Hid (∀ x ∈ ms, x.may = true) := List.all_eq_true.1 hm1
              have HALLls : Hid (∀ x ∈ ls, x.may = true) := List.all_eq_true.1 hm2
              have HCE := hide hce
              clear hce hm1 hm2
              go_wp2
              have HBWw5 := HB5
              go_loopw [12, 13] (fun c i wr => ∃ k : Nat, k ≤ n1 ∧ i = .int .i64 k ∧ c = .int .i64 (sumN (ms.take k)) ∧ Below w5.heap.size w5 wr) (fun _ i _ => n1 - (intOf i).toNat)
              case atStart => exact ⟨0, Nat.zero_le _, rfl, by simp [sumN], Below.refl _ _⟩
              case round =>
                obtain ⟨k, hk, rfl, rfl, hb⟩ := hrel
                have HB13 := hide hb
                have hbd := sumN_bnd (ms.take k) (fun y hy => HALLms.out y (List.mem_of_mem_take hy))
                rw [List.length_take] at hbd
                by_cases hlt : k < n1
                · obtain ⟨x, hx⟩ : ∃ x, ms[k]? = some x := ⟨_, List.getElem?_eq_getElem (by have := HE1.out.len; omega)⟩
                  obtain ⟨g, off, rfl, hgl, c0, c1, c2, c3⟩ := (HE1.out.later (HBWw5.out.trans (hb.mono HBWw5.out.size))).cells k x hx
                  have hmx := mayX_get (HALLms.out x (List.mem_of_getElem? hx))
                  have HSN := hide (show sumN (ms.take (k + 1)) = sumN (ms.take k) + (if x.q = 0 then 0 else x.n) by rw [snoc_take _ _ _ hx, sumN_snoc])
                  generalize sumN (ms.take k) = S at *
                  clear hx hb
                  by_cases hq : x.q = 0
                  · rw [hq] at c2
                    rw [if_pos hq, Int.add_zero] at HSN
                    clear hq
                    go_wp2
                    go_roundw
                    case rel => exact ⟨k + 1, by omega, by go_num, by rw [HSN.out], HB13.out⟩
                    case measure => simp [intOf]; omega
                  · rw [if_neg hq] at HSN
                    go_wp2
                    go_roundw
                    case rel => exact ⟨k + 1, by omega, by go_num, by rw [HSN.out], HB13.out⟩
                    case measure => simp [intOf]; omega
                · obtain rfl : k = n1 := by omega
                  have htk : ms.take k = ms := List.take_of_length_le (by have := HE1.out.len; omega)
                  rw [htk] at hbd ⊢
                  clear hb htk
                  obtain ⟨w6, hw6⟩ : ∃ w6, w6 = wr := ⟨_, rfl⟩
                  subst hw6
                  have HB56 := HB13
                  have HBWw6 := hide (HBWw5.out.trans (HB13.out.mono HBWw5.out.size))
                  have hbd1 := hbd
                  clear hbd
                  go_wp2
                  go_loopw [12, 14] (fun c i wr => ∃ k : Nat, k ≤ n2 ∧ i = .int .i64 k ∧ c = .int .i64 ((sumN ms - sumN (ls.take k))) ∧ Below w6.heap.size w6 wr) (fun _ i _ => n2 - (intOf i).toNat)
                  case atStart => exact ⟨0, Nat.zero_le _, rfl, by simp [sumN], Below.refl _ _⟩
                  case round =>
                    obtain ⟨k, hk, rfl, rfl, hb⟩ := hrel
                    have HB14 := hide hb
                    have hbd := sumN_bnd (ls.take k) (fun y hy => HALLls.out y (List.mem_of_mem_take hy))
                    rw [List.length_take] at hbd
                    by_cases hlt : k < n2
                    · obtain ⟨x, hx⟩ : ∃ x, ls[k]? = some x := ⟨_, List.getElem?_eq_getElem (by have := HE2.out.len; omega)⟩
                      obtain ⟨g, off, rfl, hgl, c0, c1, c2, c3⟩ := (HE2.out.later (HBWw6.out.trans (hb.mono HBWw6.out.size))).cells k x hx
                      have hmx := mayX_get (HALLls.out x (List.mem_of_getElem? hx))
                      have HSN := hide (show sumN (ls.take (k + 1)) = sumN (ls.take k) + (if x.q = 0 then 0 else x.n) by rw [snoc_take _ _ _ hx, sumN_snoc])
                      generalize sumN (ls.take k) = S at *
                      clear hx hb
                      by_cases hq : x.q = 0
                      · rw [hq] at c2
                        rw [if_pos hq, Int.add_zero] at HSN
                        clear hq
                        go_wp2
                        go_roundw
                        case rel => exact ⟨k + 1, by omega, by go_num, by rw [HSN.out], HB14.out⟩
                        case measure => simp [intOf]; omega
                      · rw [if_neg hq] at HSN
                        go_wp2
                        go_roundw
                        case rel => exact ⟨k + 1, by omega, by go_num, by rw [HSN.out]; (congr 1; omega), HB14.out⟩
                        case measure => simp [intOf]; omega
                    · obtain rfl : k = n2 := by omega
                      have htk : ls.take k = ls := List.take_of_length_le (by have := HE2.out.len; omega)
                      rw [htk] at hbd ⊢
                      clear hb htk
                      have HTF := hide (HT5.out.later (HB56.out.trans (HB14.out.mono HB56.out.size)))
                      have HGF := hide (HG5.out.trans (grown_of_below (HB56.out.trans (HB14.out.mono HB56.out.size)) (some mb)))
                      have HBFW := hide (HBWw6.out.trans (HB14.out.mono HBWw6.out.size))
                      have hcf := chT_facts (ms := ms) (ls := ls) HRF.out.1 HRF.out.2.1
                      have HCF := hide hcf
                      have hs5 := sum_any HTF.out hcf.2.1 (by rw [hcf.2.2]; have := HRF.out.2.2; omega)
                      rw [HBF.out.1, HBF.out.2.1] at hs5
                      have hLL := sumI_bnd (rs.map (·.2.2)) (fun y hy => by
                        obtain ⟨z, hz, rfl⟩ := List.mem_map.1 hy
                        have := mayR_get (HRF.out.2.1 z hz)
                        omega)
                      rw [List.length_map] at hLL
                      have hL800 := HRF.out.2.2
                      have HBF3 := hide HBF.out.2.2
                      clear HBF hcf
                      generalize sumI (rs.map (·.2.1)) = TT at *
                      generalize sumI (rs.map (·.2.2)) = LL at *
                      generalize sumN ms = S1 at *
                      generalize sumN ls = S2 at *
                      have hL1 : 0 ≤ LL ∧ LL ≤ 100000000 := by omega
                      have hSS : -100000000 ≤ S1 - S2 ∧ S1 - S2 ≤ 100000000 := by omega
                      obtain ⟨hL1, hL2⟩ := hL1
                      obtain ⟨hS3, hS4⟩ := hSS
                      have hw1 : IntKind.i64.wrap (LL + (S1 - S2)) = LL + (S1 - S2) := by rw [IntKind.wrap_i64]; omega
                      go_wp2_with fail
                      refine hs5.mono ?_
                      rintro e w8 ⟨rfl, hb8⟩
                      have HT8 := hide (HTF.out.later hb8)
                      have HG8 := hide (HGF.out.trans (grown_of_below hb8 (some mb)))
                      have HB8 := hide (HBFW.out.trans (hb8.mono HBFW.out.size))
                      have hch8 := change_any (cap := cap2) (cap2 := cap1) HT8.out HCF.out.2.1 (HE2.out.later HB8.out) (HE1.out.later HB8.out) (by omega) (by omega) (by rw [HCF.out.2.2]; have := HRF.out.2.2; omega)
                      rw [HBF3.out.1, HBF3.out.2] at hch8
                      clear hs5 hb8
                      go_wp2_with fail
                      refine hch8.mono ?_
                      rintro e w9 ⟨rfl, hT9, hg9⟩
                      have HT9 := hide hT9
                      have HG9 := hide (HG8.out.trans hg9)
                      clear hch8 hT9 hg9
                      have hr7 := rows_any (HT9.out).at (by have := HRF.out.2.2; omega)
                      go_wp2_with fail
                      refine hr7.mono ?_
                      rintro e wr7 ⟨vr7, rfl, hrow7, hbr7⟩
                      obtain ⟨ar7, capr7, rfl⟩ := row_slice (own_base hrow7 (Nat.zero_le _))
                      have HBR7 := hide hbr7
                      have HER7 := hide (er_own hrow7 rfl (fun x hx => may_rng (HRF.out.2.1 x hx)))
                      have hpl7 := plain_any (cap := cap3) (HWAS.out wr7 (HG9.out.trans (grown_of_below hbr7 (some mb)))) (by have := HRF.out.2.2; omega)
                      clear hr7 hrow7 hbr7
                      go_wp2_with fail
                      refine hpl7.mono ?_
                      rintro e wp7 ⟨vp7, rfl, hrowp7, hbp7⟩
                      obtain ⟨ap7, capp7, rfl⟩ := row_slice (own_base hrowp7 (Nat.zero_le _))
                      have HBP7 := hide (HBR7.out.trans (hbp7.mono HBR7.out.size))
                      have hsm7 := same_any (cap := capr7) (cap2 := capp7) (HER7.out.later hbp7) (er_own35 hrowp7 rfl (fun x hx => may_rng (HRF.out.2.1 x hx))) (by have := HRF.out.2.2; omega)
                      clear hpl7 hrowp7 hbp7
                      go_wp2_with (first
                        | (go_at_call 16; refine hsm7.mono ?_; rintro e w10 ⟨rfl, hb10⟩; have HB10 := hide (HBP7.out.trans (hb10.mono HBP7.out.size)); clear hb10)
                        | (go_at_call 13; refine (ha _).mono ?_; rintro e w11 ⟨rfl, hb11⟩))
                      go_ret
                      have hgf := (HG3.out.trans (HG9.out.trans (grown_of_below (HB10.out.trans (hb11.mono HB10.out.size)) (some mb))))
                      exact ⟨rfl, HB2.out.grown hgf HB2.out.size (fun i hi => by cases hi; exact HMB.out)⟩
            · have hne : decide (chE rs ms ls = 0) = false := decide_eq_false hce
              have HTN := hide (show chT rs ms ls = rs from chT_no hce)
              rw [HTN.out] at HT5
              generalize chE rs ms ls = ce at *
              have hr7 := rows_any (HT5.out).at (by have := HRF.out.2.2; omega)
              go_wp2_with fail
              refine hr7.mono ?_
              rintro e wr7 ⟨vr7, rfl, hrow7, hbr7⟩
              obtain ⟨ar7, capr7, rfl⟩ := row_slice (own_base hrow7 (Nat.zero_le _))
              have HBR7 := hide hbr7
              have HER7 := hide (er_own hrow7 rfl (fun x hx => may_rng (HRF.out.2.1 x hx)))
              have hpl7 := plain_any (cap := cap3) (HWAS.out wr7 (HG5.out.trans (grown_of_below hbr7 (some mb)))) (by have := HRF.out.2.2; omega)
              clear hr7 hrow7 hbr7
              go_wp2_with fail
              refine hpl7.mono ?_
              rintro e wp7 ⟨vp7, rfl, hrowp7, hbp7⟩
              obtain ⟨ap7, capp7, rfl⟩ := row_slice (own_base hrowp7 (Nat.zero_le _))
              have HBP7 := hide (HBR7.out.trans (hbp7.mono HBR7.out.size))
              have hsm7 := same_any (cap := capr7) (cap2 := capp7) (HER7.out.later hbp7) (er_own35 hrowp7 rfl (fun x hx => may_rng (HRF.out.2.1 x hx))) (by have := HRF.out.2.2; omega)
              clear hpl7 hrowp7 hbp7
              go_wp2_with (first
                | (go_at_call 16; refine hsm7.mono ?_; rintro e w10 ⟨rfl, hb10⟩; have HB10 := hide (HBP7.out.trans (hb10.mono HBP7.out.size)); clear hb10)
                | (go_at_call 13; refine (ha _).mono ?_; rintro e w11 ⟨rfl, hb11⟩))
              go_ret
              have hgf := (HG3.out.trans (HG5.out.trans (grown_of_below (HB10.out.trans (hb11.mono HB10.out.size)) (some mb))))
              exact ⟨rfl, HB2.out.grown hgf HB2.out.size (fun i hi => by cases hi; exact HMB.out)⟩
end Li
end Go.Proofs.Ytgdfmoehbgmfkaa
