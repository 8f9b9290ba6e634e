/- The law LiveApart, walked. -/
import Derived.Test.YtgdfmoehbgmfkaaDh
namespace Go.Proofs.Ytgdfmoehbgmfkaa
open Go.RowKit
namespace Li
open Wi
set_option maxHeartbeats 64000000 in
set_option maxRecDepth 100000 in
theorem liveApart_walk (a : Option Addr) (n cap : Nat) (os : List OpV) (a1 : Option Addr) (n1 cap1 : Nat) (ms : List Ix) (a2 : Option Addr) (n2 cap2 : Nat) (ls : List Ix) (w : World) (hO : Os w a n os) (hok : ∀ o ∈ os, OpOk w o) (_hc : n ≤ cap) (hE1 : Ex w a1 n1 ms) (_hc1 : n1 ≤ cap1) (hE2 : Ex w a2 n2 ls) (_hc2 : n2 ≤ cap2) :
    Calls Try.prog 9 #[.slice a n cap, .slice a1 n1 cap1, .slice a2 n2 cap2] w fun e w' => e = .returned (.bool true) ∧ Below w.heap.size w w' := by
  have ha := awake_any
  have hnew := new_any w
  have HO := hide hO
  have HOK := hide hok
  have HLN := hide hO.len
  have HE1 := hide hE1
  have HE2 := hide hE2
  have hmost := hO.most
  have hmost1 := hE1.most
  have hmost2 := hE2.most
  clear hO hok hE1 hE2
  go_enter Try.func9, Try.ntmps9
  go_wp2_with fail
  refine hnew.mono ?_
  rintro e w1 ⟨rfl, hT1, hb1⟩
  have HT1 := hide hT1
  have HB1 := hide hb1
  have hf := few_any (cap := cap) (HO.out.later HB1.out)
  clear hnew hT1 hb1
  go_wp2_with fail
  refine hf.mono ?_
  rintro e W2 ⟨rfl, hb2⟩
  have HB2 := hide (HB1.out.trans (hb2.mono HB1.out.size))
  have HT2 := hide (HT1.out.later hb2)
  clear hf hb2
  cases hfe : fewL os with
  | false =>
    clear hfe
    go_wp2_with (first
      | (go_at_call 13; refine (ha _).mono ?_; rintro e w39 ⟨rfl, hb39⟩))
    go_ret
    exact ⟨rfl, HB2.out.trans (hb39.mono HB2.out.size)⟩
  | true =>
    have HF := hide hfe
    clear hfe
    by_cases g1 : 20 < n1
    · have g1' : (20 : Int) < (n1 : Int) := by omega
      go_wp2_with (first
        | (go_at_call 13; refine (ha _).mono ?_; rintro e w39 ⟨rfl, hb39⟩))
      go_ret
      exact ⟨rfl, HB2.out.trans (hb39.mono HB2.out.size)⟩
    · have g1' : ¬ (20 : Int) < (n1 : Int) := by omega
      by_cases g2 : 20 < n2
      · have g2' : (20 : Int) < (n2 : Int) := by omega
        go_wp2_with (first
          | (go_at_call 13; refine (ha _).mono ?_; rintro e w39 ⟨rfl, hb39⟩))
        go_ret
        exact ⟨rfl, HB2.out.trans (hb39.mono HB2.out.size)⟩
      · have g2' : ¬ (20 : Int) < (n2 : Int) := by omega
        have hal1 := all_any (cap := cap1) (HE1.out.later HB2.out)
        go_wp2_with fail
        refine hal1.mono ?_
        rintro e W3 ⟨rfl, hb3⟩
        have HB3 := hide (HB2.out.trans (hb3.mono HB2.out.size))
        have HT3 := hide (HT2.out.later hb3)
        clear hal1 hb3
        cases hm1 : ms.all Ix.may with
        | false =>
          clear hm1
          go_wp2_with (first
            | (go_at_call 13; refine (ha _).mono ?_; rintro e w39 ⟨rfl, hb39⟩))
          go_ret
          exact ⟨rfl, HB3.out.trans (hb39.mono HB3.out.size)⟩
        | true =>
          have HALLms : Hid (∀ x ∈ ms, x.may = true) := List.all_eq_true.1 hm1
          have hal2 := all_any (cap := cap2) (HE2.out.later HB3.out)
          clear hm1
          go_wp2_with fail
          refine hal2.mono ?_
          rintro e W4 ⟨rfl, hb4⟩
          have HB4 := hide (HB3.out.trans (hb4.mono HB3.out.size))
          have HT4 := hide (HT3.out.later hb4)
          clear hal2 hb4
          cases hm2 : ls.all Ix.may with
          | false =>
            clear hm2
            go_wp2_with (first
              | (go_at_call 13; refine (ha _).mono ?_; rintro e w39 ⟨rfl, hb39⟩))
            go_ret
            exact ⟨rfl, HB4.out.trans (hb39.mono HB4.out.size)⟩
          | true =>
            have HALLls : Hid (∀ x ∈ ls, x.may = true) := List.all_eq_true.1 hm2
            clear hm2
            obtain ⟨tb, htb⟩ : ∃ tb, tb = w.heap.size + 1 := ⟨_, rfl⟩
            obtain ⟨mb, hmb⟩ : ∃ mb, mb = w.heap.size := ⟨_, rfl⟩
            have HMB : Hid (w.heap.size ≤ mb) := by show _ ≤ _; omega
            have HT2' : Hid (Tab W4 tb mb []) := by rw [htb, hmb]; exact HT4.out
            have HB2' := HB4
            clear HT2 HT3 HT4 HB2 HB3 HB4
            have HT2 := HT2'
            have HB2 := HB2'
            obtain ⟨W2, hW2⟩ : ∃ W2, W2 = W4 := ⟨_, rfl⟩
            subst hW2
            clear HT2' HB2' HT1
            go_wp2
            rw [← htb]
            clear htb hmb
            go_loopw [8] (fun i wr => ∃ k : Nat, k ≤ n ∧ i = .int .i64 k ∧ Tab wr tb mb (runT (os.take k)) ∧ Below w.heap.size w wr ∧ W2.grownBy wr (some mb)) (fun i _ => n - (intOf i).toNat)
            case atStart => exact ⟨0, Nat.zero_le _, rfl, HT2.out, HB2.out, ⟨rfl, rfl, rfl, Nat.le_refl _, fun _ _ _ => rfl⟩⟩
            case round =>
              obtain ⟨k, hk, rfl, hT, hb, hg⟩ := hrel
              by_cases hlt : k < n
              · obtain ⟨o, ho⟩ : ∃ o, os[k]? = some o := ⟨_, List.getElem?_eq_getElem (by have := HLN.out; omega)⟩
                obtain ⟨g, off, rfl, hgl, c0, c1, c2, c3, c4⟩ := (HO.out.later hb).cells k o ho
                have hm := List.mem_of_getElem? ho
                have hrf := run_facts HF.out HOK.out k
                have hd := does_nil hT hrf.2.1 (HOK.out o hm) ((few_all HF.out).1 o hm) hb HMB.out (by omega)
                have HSN := hide (show runT (os.take (k + 1)) = opT (runT (os.take k)) o by rw [snoc_take _ _ _ ho, runT_snoc])
                have HG := hide hg
                clear ho hT hb hg hm hrf
                go_wp2_with fail
                refine hd.mono ?_
                rintro e w9 ⟨v9, bb9, rfl, hT9, hb9, hg9⟩
                have HT9 := hide hT9
                have HB9 := hide hb9
                have HG9 := hide (HG.out.trans hg9)
                clear hd hT9 hb9 hg9 c0 c1 c2 c3 c4
                go_wp2
                go_roundw
                case rel => exact ⟨k + 1, by omega, by go_num, by rw [HSN.out]; exact HT9.out, HB9.out, HG9.out⟩
                case measure => simp [intOf]; omega
              · obtain rfl : k = n := by omega
                have htk : os.take k = os := List.take_of_length_le (by have := HLN.out; omega)
                rw [htk] at hT
                have HT := hide hT
                have HB := hide hb
                have HG := hide hg
                have hrf := run_facts HF.out HOK.out k
                rw [htk] at hrf
                have HRF := hide hrf
                generalize runT os = rs at *
                clear hT hb hg htk hrf
                have hR0 : wr.ownsRow wr.heap.size 51 4 (.slice none 0 0) ([] : List Ix).length (xcs []) := World.ownsRow_nil _ _ _ _
                have hE1w := HE1.out.later HB.out
                have hl1 : ([] : List Ix).length + ms.length ≤ 1000000 := by have := HE1.out.len; simp only [List.length_nil]; omega
                have hl2 : ([] ++ ms).length + ls.length ≤ 1000000 := by have := HE1.out.len; have := HE2.out.len; rw [List.nil_append]; omega
                have hbz := HB.out.size
                go_wp2_with (first
                  | (at_builtin; refine wpList_append_xs rfl _ _ rfl rfl hR0 rfl hE1w hl1 (Nat.le_refl _) ?_; intro v3 w3 hown3 hgrow3; have HB3 := hide ((Below.refl wr.heap.size wr).grown hgrow3 (Nat.le_refl _) (fun i hi => by cases hi)); have hE2w := HE2.out.later (HB.out.trans (HB3.out.mono hbz)); have hbz3 := HB3.out.size)
                  | (at_builtin; refine wpList_append_xs rfl _ _ rfl rfl hown3 rfl hE2w hl2 hbz3 ?_; intro v4 w4 hown4 hgrow4))
                have HB4 := hide (HB3.out.grown hgrow4 hbz3 (fun i hi => (hown3.lt i hi).1))
                obtain ⟨a4, cap4, rfl⟩ := row_slice (own_base hown4 (Nat.zero_le _))
                rw [List.nil_append] at hown4
                have hbl : (ms ++ ls).length ≤ 40 := by have := HE1.out.len; have := HE2.out.len; rw [List.length_append]; omega
                have HALLX : Hid (∀ x ∈ ms ++ ls, x.may = true) := fun x hx => by
                  rcases List.mem_append.1 hx with h | h
                  · exact HALLms.out x h
                  · exact HALLls.out x h
                have HEB := hide (ex_own hown4 rfl (fun x hx => by
                  rcases List.mem_append.1 hx with h | h
                  · exact HE1.out.rng x h
                  · exact HE2.out.rng x h) (by omega))
                have HT4 := hide (HT.out.later HB4.out)
                have HW4 := hide (HB.out.trans (HB4.out.mono hbz))
                have HG4 := hide (HG.out.trans (grown_of_below HB4.out (some mb)))
                have HMW : Hid (mb < wr.heap.size) := HT.out.map.lt
                have HEX : Hid (∀ w', w4.grownBy w' (some mb) → Ex w' a4 (ms ++ ls).length (ms ++ ls)) := fun w' hg => ex_own (hown4.kept hg (.inr (fun e => by have := (hown4.lt _ e).1; have := HMW.out; omega))) rfl HEB.out.rng HEB.out.most
                clear hR0 hE1w hl1 hl2 hown3 hgrow3 hown4 hgrow4 hE2w
                simp only [List.nil_append]
                have hct := count_any (cap := cap4) HEB.out (by omega)
                go_wp2_with fail
                refine hct.mono ?_
                rintro e w5 ⟨hb5, ⟨hno, _⟩ | ⟨hyes, v5, rfl, hrow5⟩⟩
                · exfalso
                  have : (ms ++ ls).all Ix.may = true := List.all_eq_true.2 HALLX.out
                  rw [hno] at this; cases this
                · have HSUM := hide (sumA_cntM (ms ++ ls))
                  have HKEY : Hid (∀ (i : Nat) (x : Ro), rs[i]? = some x → ∃ y : Ro, (chT rs ms ls)[i]? = some y ∧ y.1 = x.1 ∧ y.2.1 = x.2.1 ∧ (getA (cntM (ms ++ ls)) x.1 = none → y = x)) := fun i x hx => apart_facts HRF.out.1 i x hx
                  have hbd5 : BndC (cntM (ms ++ ls)) (ms ++ ls).length := by
                    have := cntM_bnd (ms ++ ls).length (ms ++ ls) (Nat.le_refl _) (fun j x _ hx => HALLX.out x (List.mem_of_getElem? hx))
                    rwa [List.take_length] at this
                  have hml := Nat.le_trans (cntM_len (ms ++ ls)) hbl
                  have hsn := sumN_bnd (ms ++ ls) HALLX.out
                  have HXL := hide hbl
                  generalize hXS : ms ++ ls = xs at *
                  generalize cntM xs = M at *
                  obtain ⟨a5, cap5, rfl⟩ := row_slice (own_base hrow5 (Nat.zero_le _))
                  have HR5 := hide (cntR_rng hbd5 (by omega))
                  have HE5 := hide (er_own hrow5 (cntR_len M).symm HR5.out)
                  have HT5 := hide (HT4.out.later hb5)
                  have HB5 := hide hb5
                  have HG5 := hide (grown_of_below hb5 (some mb))
                  have HW5 := hide (HW4.out.trans (hb5.mono HW4.out.size))
                  have HMW4 : Hid (mb < w4.heap.size) := HT4.out.map.lt
                  have HTOLD : Hid (∀ w', w5.grownBy w' (some mb) → Er w' a5 M.length (cntR M)) := fun w' hg => er_own (hrow5.kept hg (.inr (fun e => by have := (hrow5.lt _ e).1; have := HMW4.out; omega))) (cntR_len M).symm HR5.out
                  have HBD5 := hide hbd5
                  clear hct hrow5 hb5 hyes hbd5
                  have hprefix : ∀ k, 0 ≤ sumA (M.take k) ∧ sumA (M.take k) ≤ 200000000 := fun k => by
                    have hb : ∀ (l : Al Int), (∀ p ∈ l, 0 ≤ p.2 ∧ p.2 ≤ 40 * 65536) → 0 ≤ sumA l ∧ sumA l ≤ 40 * 65536 * l.length := by
                      intro l
                      induction l with
                      | nil => intro _; simp [sumA, sumI]
                      | cons p l ih =>
                        intro h
                        have h1 := h p (by simp)
                        have h2 := ih (fun q hq => h q (by simp [hq]))
                        rw [sumA_cons, List.length_cons]
                        omega
                    have h1 := hb (M.take k) (fun p hp => by
                      have h2 := HBD5.out.all p (List.mem_of_mem_take hp)
                      have h3 : (xs.length : Int) ≤ 40 := by omega
                      omega)
                    have h4 : (M.take k).length ≤ 40 := by rw [List.length_take]; omega
                    omega
                  have HPRE := hide hprefix
                  clear hprefix
                  go_wp2
                  go_loopw [11, 12] (fun c i wr => ∃ k : Nat, k ≤ M.length ∧ i = .int .i64 k ∧ c = .int .i64 (sumA (M.take k)) ∧ Below w5.heap.size w5 wr) (fun _ i _ => M.length - (intOf i).toNat)
                  case atStart => exact ⟨0, Nat.zero_le _, rfl, by simp [sumA, sumI], Below.refl _ _⟩
                  case round =>
                    obtain ⟨k, hk, rfl, rfl, hb⟩ := hrel
                    have HB6 := hide hb
                    have hp1 := HPRE.out k
                    have hp2 := HPRE.out (k + 1)
                    by_cases hlt : k < M.length
                    · obtain ⟨p, hp⟩ : ∃ p, M[k]? = some p := ⟨_, List.getElem?_eq_getElem hlt⟩
                      have hpr : (cntR M)[k]? = some (p.1, p.2, p.2) := by unfold cntR; rw [List.getElem?_map, hp]; rfl
                      obtain ⟨g, off, rfl, hgl, c0, c1, c2⟩ := (HE5.out.later hb).cells k _ hpr
                      have HSN := hide (show sumA (M.take (k + 1)) = sumA (M.take k) + p.2 by
                        rw [snoc_take _ _ _ hp]; unfold sumA; rw [List.map_append, List.map_singleton, sumI_snoc])
                      rw [HSN.out] at hp2
                      generalize sumA (M.take k) = S at *
                      obtain ⟨p1, p2⟩ := p
                      simp only at *
                      clear hp hpr hb
                      go_wp2
                      go_roundw
                      case rel => exact ⟨k + 1, by omega, by go_num, by rw [HSN.out], HB6.out⟩
                      case measure => simp [intOf]; omega
                    · have hkM : k = M.length := by omega
                      have htk : M.take k = M := List.take_of_length_le (by omega)
                      rw [htk] at hp1 ⊢
                      rw [HSUM.out] at hp1 ⊢
                      have HP1 := hide hp1
                      have hnl : ¬ (k : Int) < (M.length : Int) := by omega
                      clear hb htk hp2 hkM
                      obtain ⟨w6, hw6⟩ : ∃ w6, w6 = wr := ⟨_, rfl⟩
                      subst hw6
                      go_wp2
                      go_loopw [13, 14] (fun c i wr => ∃ k : Nat, k ≤ xs.length ∧ i = .int .i64 k ∧ c = .int .i64 (sumN (xs.take k)) ∧ Below w6.heap.size w6 wr) (fun _ i _ => xs.length - (intOf i).toNat)
                      case atStart => exact ⟨0, Nat.zero_le _, rfl, by simp [sumN], Below.refl _ _⟩
                      case round =>
                        obtain ⟨k2, hk2, rfl, rfl, hb⟩ := hrel
                        have HB7 := hide hb
                        have hbd := sumN_bnd (xs.take k2) (fun y hy => HALLX.out y (List.mem_of_mem_take hy))
                        rw [List.length_take] at hbd
                        by_cases hlt2 : k2 < xs.length
                        · obtain ⟨x, hx⟩ : ∃ x, xs[k2]? = some x := ⟨_, List.getElem?_eq_getElem hlt2⟩
                          obtain ⟨g, off, rfl, hgl, c0, c1, c2, c3⟩ := (HEX.out wr (HG5.out.trans (grown_of_below (HB6.out.trans (hb.mono HB6.out.size)) (some mb)))).cells k2 x hx
                          have hmx := mayX_get (HALLX.out x (List.mem_of_getElem? hx))
                          have HSN := hide (show sumN (xs.take (k2 + 1)) = sumN (xs.take k2) + (if x.q = 0 then 0 else x.n) by rw [snoc_take _ _ _ hx, sumN_snoc])
                          generalize sumN (xs.take k2) = S at *
                          clear hx hb
                          by_cases hq : x.q = 0
                          · rw [hq] at c2
                            rw [if_pos hq, Int.add_zero] at HSN
                            clear hq
                            go_wp2
                            go_roundw
                            case rel => exact ⟨k2 + 1, by omega, by go_num, by rw [HSN.out], HB7.out⟩
                            case measure => simp [intOf]; omega
                          · rw [if_neg hq] at HSN
                            go_wp2
                            go_roundw
                            case rel => exact ⟨k2 + 1, by omega, by go_num, by rw [HSN.out], HB7.out⟩
                            case measure => simp [intOf]; omega
                        · have hk2M : k2 = xs.length := by omega
                          have htk : xs.take k2 = xs := List.take_of_length_le (by omega)
                          rw [htk] at hbd ⊢
                          have hnl2 : ¬ (k2 : Int) < (xs.length : Int) := by omega
                          clear hb htk hk2M hbd
                          have HT7 := hide (HT5.out.later (HB6.out.trans (HB7.out.mono HB6.out.size)))
                          have HG7 := hide (grown_of_below (HB6.out.trans (HB7.out.mono HB6.out.size)) (some mb) : w5.grownBy wr (some mb))
                          have HW7 := hide (grown_low HW5.out HG7.out HMB.out)
                          generalize sumN xs = SS at *
                          have hr8 := rows_any HT7.out.at (by have := HRF.out.2.2; omega)
                          go_wp2_with fail
                          refine hr8.mono ?_
                          rintro e w8 ⟨v8, rfl, hrow8, hb8⟩
                          obtain ⟨a8, cap8, rfl⟩ := row_slice (own_base hrow8 (Nat.zero_le _))
                          have HT8 := hide (HT7.out.later hb8)
                          have HG8 := hide (HG7.out.trans (grown_of_below hb8 (some mb)))
                          have HW8 := hide (grown_low HW5.out HG8.out HMB.out)
                          have HMW7 : Hid (mb < wr.heap.size) := HT7.out.map.lt
                          have HWAS : Hid (∀ w', w8.grownBy w' (some mb) → Er w' a8 rs.length rs) := fun w' hg => er_own (hrow8.kept hg (.inr (fun e => by have := (hrow8.lt _ e).1; have := HMW7.out; omega))) rfl (fun x hx => may_rng (HRF.out.2.1 x hx))
                          have hch := change_any (cap := cap1) (cap2 := cap2) HT8.out HRF.out.2.1 (HE1.out.later HW8.out) (HE2.out.later HW8.out) (by omega) (by omega) (by have := HRF.out.2.2; omega)
                          clear hr8 hrow8 hb8
                          go_wp2_with fail
                          refine hch.mono ?_
                          rintro e w9 ⟨rfl, hT9, hg9⟩
                          have HT9 := hide hT9
                          have HG9 := hide hg9
                          have hcf := chT_facts (ms := ms) (ls := ls) HRF.out.1 HRF.out.2.1
                          have HCF := hide hcf
                          have hr10 := rows_any HT9.out.at (by rw [hcf.2.2]; have := HRF.out.2.2; omega)
                          rw [hcf.2.2] at hr10
                          clear hch hT9 hg9 hcf
                          go_wp2_with fail
                          refine hr10.mono ?_
                          rintro e w10 ⟨v10, rfl, hrow10, hb10⟩
                          obtain ⟨a10, cap10, rfl⟩ := row_slice (own_base hrow10 (Nat.zero_le _))
                          have HNOW := hide (er_own hrow10 HCF.out.2.2.symm (fun x hx => may_rng (HCF.out.2.1 x hx)))
                          have HG10 := hide (HG9.out.trans (grown_of_below hb10 (some mb)))
                          have HE8 := hide (HWAS.out w10 HG10.out)
                          have HE10 := hide (HTOLD.out w10 (HG8.out.trans HG10.out))
                          have HWF := hide (grown_low HW8.out HG10.out HMB.out)
                          generalize chT rs ms ls = ns at *
                          clear hr10 hrow10 hb10
                          have hL := HRF.out.2.2
                          generalize hN : rs.length = N at *
                          have HN := hide hN
                          clear hN
                          go_wp2
                          go_loopw [17, 18, 19] (fun i _ _ wr => ∃ k : Nat, k ≤ N ∧ i = .int .i64 k ∧ Below w10.heap.size w10 wr) (fun i _ _ _ => N - (intOf i).toNat)
                          case atStart => exact ⟨0, Nat.zero_le _, rfl, Below.refl _ _⟩
                          case round =>
                            obtain ⟨k3, hk3, rfl, hb⟩ := hrel
                            have HB11 := hide hb
                            by_cases hlt3 : k3 < N
                            · obtain ⟨x, hx⟩ : ∃ x, rs[k3]? = some x := ⟨_, List.getElem?_eq_getElem (by have := HN.out; omega)⟩
                              obtain ⟨y, hy, hy1, hy2, hyn⟩ := HKEY.out k3 x hx
                              have HX := hide hx
                              have HY := hide hy
                              have HYN := hide hyn
                              have HY1 := hide hy1
                              have HY2 := hide hy2
                              clear hx hb hy hy1 hy2 hyn
                              go_wp2
                              obtain ⟨wq, hwq⟩ : ∃ wq, wq = wr := ⟨_, rfl⟩
                              subst hwq
                              go_loopw [18, 19] (fun d i wr => ∃ (j : Nat) (bb : Bool), j ≤ M.length ∧ i = .int .i64 j ∧ d = .bool bb ∧ (bb = false → ∀ (t : Nat) (p : Int × Int), t < j → M[t]? = some p → p.1 ≠ x.1) ∧ Below wq.heap.size wq wr) (fun _ i _ => M.length - (intOf i).toNat)
                              case atStart => exact ⟨0, false, Nat.zero_le _, rfl, rfl, fun _ t p h => by omega, Below.refl _ _⟩
                              case round =>
                                obtain ⟨j, bb, hj, rfl, rfl, hnm, hb⟩ := hrel
                                have HB12 := hide (HB11.out.trans (hb.mono HB11.out.size))
                                have HB12' := hide hb
                                have HNM := hide hnm
                                by_cases hlt4 : j < M.length
                                · obtain ⟨p, hp⟩ : ∃ p, M[j]? = some p := ⟨_, List.getElem?_eq_getElem hlt4⟩
                                  have hpr : (cntR M)[j]? = some (p.1, p.2, p.2) := by unfold cntR; rw [List.getElem?_map, hp]; rfl
                                  obtain ⟨g, off, rfl, hgl, c0, c1, c2⟩ := (HE10.out.later HB12.out).cells j _ hpr
                                  obtain ⟨g2, off2, rfl, hgl2, d0, d1, d2⟩ := (HE8.out.later HB12.out).cells k3 x HX.out
                                  have HP := hide hp
                                  obtain ⟨p1, p2⟩ := p
                                  obtain ⟨x1, x2, x3⟩ := x
                                  simp only at *
                                  have X0 : ∀ P : Later wr, P.val.cell? ⟨g, off + j * 3, none⟩ = some (.int .i64 p1) := fun P => (P.below.cell (p := ⟨g, _, none⟩) hgl).trans c0
                                  have X1 : ∀ P : Later wr, P.val.cell? ⟨g2, off2 + k3 * 3, none⟩ = some (.int .i64 x1) := fun P => (P.below.cell (p := ⟨g2, _, none⟩) hgl2).trans d0
                                  have hne := later_ne wr
                                  clear hnm hb hp hpr c0 c1 c2 d0 d1 d2
                                  cases bb with
                                  | true =>
                                    go_wp2
                                    refine wp_region_later (by kernel_rfl) (by kernel_rfl) ?_
                                    (repeat (first | go_big_quiet_skip | (go_big_quiet_want; go_big_quiet_op; go_big_quiet_on)))
                                    refine wpQuiet_nil ?_
                                    rintro _ ⟨P, rfl⟩
                                    go_wp2
                                    go_roundw
                                    case rel => exact ⟨j + 1, true, by omega, by go_num, rfl, (fun h => by cases h), HB12'.out.trans (P.below.mono HB12'.out.size)⟩
                                    case measure => simp [intOf]; omega
                                  | false =>
                                    by_cases heq : p1 = x1
                                    · subst heq
                                      go_wp2
                                      refine wp_region_later (by kernel_rfl) (by kernel_rfl) ?_
                                      (repeat (first | go_big_quiet_skip | (go_big_quiet_want; go_big_quiet_op; go_big_quiet_on)))
                                      refine wpQuiet_nil ?_
                                      rintro _ ⟨P, rfl⟩
                                      go_wp2
                                      go_roundw
                                      case rel => exact ⟨j + 1, true, by omega, by go_num, rfl, (fun h => by cases h), HB12'.out.trans (P.below.mono HB12'.out.size)⟩
                                      case measure => simp [intOf]; omega
                                    · have hd : decide (p1 = x1) = false := decide_eq_false heq
                                      have hb2 : (p1 == x1) = false := beq_eq_false_iff_ne.2 heq
                                      have HNE := hide heq
                                      clear heq
                                      go_wp2
                                      refine wp_region_later (by kernel_rfl) (by kernel_rfl) ?_
                                      (repeat (first | go_big_quiet_skip | (go_big_quiet_want; go_big_quiet_op; go_big_quiet_on)))
                                      refine wpQuiet_nil ?_
                                      rintro _ ⟨P, rfl⟩
                                      go_wp2
                                      go_roundw
                                      case rel => exact ⟨j + 1, false, by omega, by go_num, rfl, fun _ t q ht hq => by
                                        by_cases e : t = j
                                        · subst e
                                          have := HP.out
                                          rw [hq] at this
                                          injection this with this
                                          rw [this]
                                          exact HNE.out
                                        · exact HNM.out (by first | rfl | trivial) t q (by omega) hq, HB12'.out.trans (P.below.mono HB12'.out.size)⟩
                                      case measure => simp [intOf]; omega
                                · have hnl4 : ¬ (j : Int) < (M.length : Int) := by omega
                                  have hHYB : bb = false → y = x := fun h => HYN.out (getA_none.2 fun p hp => by
                                    obtain ⟨t, ht, rfl⟩ := List.mem_iff_getElem.1 hp
                                    exact hnm h t _ (by omega) (List.getElem?_eq_getElem ht))
                                  have HYB := hide hHYB
                                  obtain ⟨g, off, rfl, hgl, c0, c1, c2⟩ := (HE8.out.later HB12.out).cells k3 x HX.out
                                  obtain ⟨g2, off2, rfl, hgl2, d0, d1, d2⟩ := (HNOW.out.later HB12.out).cells k3 y HY.out
                                  obtain ⟨x1, x2, x3⟩ := x
                                  obtain ⟨y1, y2, y3⟩ := y
                                  have hy1 := HY1.out
                                  have hy2 := HY2.out
                                  simp only at hy1 hy2
                                  subst hy1 hy2
                                  simp only at *
                                  have X0 : ∀ P : Later wr, P.val.cell? ⟨g, off + k3 * 3, none⟩ = some (.int .i64 y1) := fun P => (P.below.cell (p := ⟨g, _, none⟩) hgl).trans c0
                                  have X1 : ∀ P : Later wr, P.val.cell? ⟨g, off + k3 * 3 + 1, none⟩ = some (.int .i64 y2) := fun P => (P.below.cell (p := ⟨g, _, none⟩) hgl).trans c1
                                  have X2 : ∀ P : Later wr, P.val.cell? ⟨g, off + k3 * 3 + 2, none⟩ = some (.int .i64 x3) := fun P => (P.below.cell (p := ⟨g, _, none⟩) hgl).trans c2
                                  have Y0 : ∀ P : Later wr, P.val.cell? ⟨g2, off2 + k3 * 3, none⟩ = some (.int .i64 y1) := fun P => (P.below.cell (p := ⟨g2, _, none⟩) hgl2).trans d0
                                  have Y1 : ∀ P : Later wr, P.val.cell? ⟨g2, off2 + k3 * 3 + 1, none⟩ = some (.int .i64 y2) := fun P => (P.below.cell (p := ⟨g2, _, none⟩) hgl2).trans d1
                                  have Y2 : ∀ P : Later wr, P.val.cell? ⟨g2, off2 + k3 * 3 + 2, none⟩ = some (.int .i64 y3) := fun P => (P.below.cell (p := ⟨g2, _, none⟩) hgl2).trans d2
                                  have hne := later_ne wr
                                  clear hnm hb c0 c1 c2 d0 d1 d2 hHYB
                                  cases bb with
                                  | true =>
                                    go_wp2
                                    refine wp_region_later (by kernel_rfl) (by kernel_rfl) ?_
                                    (repeat (first | go_big_quiet_skip | (go_big_quiet_want; go_big_quiet_op; go_big_quiet_on)))
                                    refine wpQuiet_nil ?_
                                    rintro _ ⟨P, rfl⟩
                                    go_wp2
                                    go_roundw
                                    case rel => exact ⟨k3 + 1, by omega, by go_num, HB12.out.trans (P.below.mono HB12.out.size)⟩
                                    case measure => simp [intOf]; omega
                                  | false =>
                                    have h9 := HYB.out rfl
                                    injection h9 with _ h9
                                    injection h9 with _ h9
                                    subst h9
                                    go_wp2
                                    refine wp_region_later (by kernel_rfl) (by kernel_rfl) ?_
                                    (repeat (first | go_big_quiet_skip | (go_big_quiet_want; go_big_quiet_op; go_big_quiet_on)))
                                    refine wpQuiet_nil ?_
                                    rintro _ ⟨P, rfl⟩
                                    go_wp2
                                    go_roundw
                                    case rel => exact ⟨k3 + 1, by omega, by go_num, HB12.out.trans (P.below.mono HB12.out.size)⟩
                                    case measure => simp [intOf]; omega
                            · have hnl3 : ¬ (k3 : Int) < (N : Int) := by omega
                              clear hb
                              go_wp2_with (go_at_call 13; refine (ha _).mono ?_; rintro e w20 ⟨rfl, hb20⟩)
                              go_ret
                              have hbf := HWF.out.trans (HB11.out.mono HWF.out.size)
                              exact ⟨rfl, hbf.trans (hb20.mono hbf.size)⟩
end Li
end Go.Proofs.Ytgdfmoehbgmfkaa
