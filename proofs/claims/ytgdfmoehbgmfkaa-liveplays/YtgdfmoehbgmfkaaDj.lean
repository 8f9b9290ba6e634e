/- The law LivePlays, walked. -/
import Derived.Test.YtgdfmoehbgmfkaaDz
import Derived.Test.YtgdfmoehbgmfkaaNb
namespace Go.Proofs.Ytgdfmoehbgmfkaa
open Go.RowKit
namespace Li
open Wi
set_option maxHeartbeats 32000000 in
set_option maxRecDepth 100000 in
theorem livePlays_walk (a : Option Addr) (n cap : Nat) (os : List OpV) (w : World) (hO : Os w a n os) (hok : ∀ o ∈ os, OpOk w o) (_hc : n ≤ cap) :
    Calls Try.prog 3 #[.slice a n cap] w fun e w' => e = .returned (.bool true) ∧ Below w.heap.size w w' := by
  have ha := awake_any
  have hnew := new_any w
  have HO := hide hO
  have HOK := hide hok
  have HLN := hide hO.len
  have hmost := hO.most
  clear hO hok
  go_enter Try.func3, Try.ntmps3
  go_wp2_with fail
  refine hnew.mono ?_
  rintro e w1 ⟨rfl, hT1, hb1⟩
  have HT1 := hide hT1
  have HB1 := hide hb1
  have hf := few_any (cap := cap) (HO.out.later HB1.out)
  clear hnew hT1 hb1
  go_wp2_with fail
  refine hf.mono ?_
  rintro e W2 ⟨rfl, hb2⟩
  have HB2 := hide (HB1.out.trans (hb2.mono HB1.out.size))
  have HT2 := hide (HT1.out.later hb2)
  clear hf hb2
  cases hfe : fewL os with
  | false =>
    clear hfe
    go_wp2_with (go_at_call 13; refine (ha _).mono ?_; rintro e w3 ⟨rfl, hb3⟩)
    go_ret
    exact ⟨rfl, HB2.out.trans (hb3.mono HB2.out.size)⟩
  | true =>
    have HF := hide hfe
    clear hfe
    obtain ⟨tb, htb⟩ : ∃ tb, tb = w.heap.size + 1 := ⟨_, rfl⟩
    obtain ⟨mb, hmb⟩ : ∃ mb, mb = w.heap.size := ⟨_, rfl⟩
    have HMB : Hid (w.heap.size ≤ mb) := by show _ ≤ _; omega
    have HT2' : Hid (Tab W2 tb mb []) := by rw [htb, hmb]; exact HT2.out
    clear HT2
    have HT2 := HT2'
    have hb0 := HT2.out.ltT
    obtain ⟨b0, hb0e⟩ : ∃ b0, b0 = mb + 1 := ⟨_, rfl⟩
    have HB0 : Hid (mb < b0 ∧ b0 ≤ W2.heap.size) := by show _ ∧ _; omega
    clear HT2' HT1 hb0
    go_wp2
    rw [← htb]
    clear htb hmb hb0e
    have HR0 : Hid (W2.ownsRow b0 35 3 (.slice none 0 0) 0 (rcs (runT (os.take 0)))) := World.ownsRow_nil _ _ _ _
    go_loopw [4, 5] (fun c i wr => ∃ (k : Nat) (a4 : Option Addr) (m cap4 : Nat), k ≤ n ∧ i = .int .i64 k ∧ c = .slice a4 m cap4 ∧ m = (runT (os.take k)).length ∧ wr.ownsRow b0 35 3 c m (rcs (runT (os.take k))) ∧ Tab wr tb mb (runT (os.take k)) ∧ Below w.heap.size w wr ∧ W2.heap.size ≤ wr.heap.size) (fun _ i _ => n - (intOf i).toNat)
    case atStart => exact ⟨0, none, 0, 0, Nat.zero_le _, rfl, rfl, rfl, HR0.out, HT2.out, HB2.out, Nat.le_refl _⟩
    case round =>
      obtain ⟨k, a4, m, cap4, hk, rfl, rfl, hml, hrow, hT, hb, hsz⟩ := hrel
      by_cases hlt : k < n
      · obtain ⟨o, ho⟩ : ∃ o, os[k]? = some o := ⟨_, List.getElem?_eq_getElem (by have := HLN.out; omega)⟩
        obtain ⟨g, off, rfl, hgl, c0, c1, c2, c3, c4⟩ := (HO.out.later hb).cells k o ho
        have hm := List.mem_of_getElem? ho
        have hrf := run_facts HF.out HOK.out k
        have hrf2 := run_facts HF.out HOK.out (k + 1)
        obtain ⟨f1, f2, f3⟩ := few_get ((few_all HF.out).1 o hm)
        have hpre : Pre w wr tb mb b0 (runT (os.take k)) (runT (os.take k)) a4 m cap4 o := ⟨hT, hrf.2.1, hrf.1, hrf.2.1, hrow, hml, HOK.out o hm, f1, f2, f3, hb, HMB.out, HB0.out.1, Nat.le_trans HB0.out.2 hsz, by omega, by omega⟩
        have hd := does_any hpre (.inl rfl)
        have hsn : runT (os.take (k + 1)) = opT (runT (os.take k)) o := by rw [snoc_take _ _ _ ho, runT_snoc]
        have HSN := hide hsn
        rw [hsn] at hrf2
        have HRF := hide hrf2
        have HSZ := hide hsz
        have HB := hide hb
        clear ho hT hb hm hrf hrf2 hpre hrow hml hsn hsz f1 f2 f3
        go_wp2_with fail
        refine hd.mono ?_
        rintro e w9 ⟨v9, bb9, rfl, hrow9, hT9, hbb, hb9, hg9⟩
        have hbt := hbb rfl
        subst hbt
        rw [← HSN.out] at hrow9 hT9 HRF
        obtain ⟨a9, cap9, rfl⟩ := row_slice (own_base hrow9 (Nat.zero_le _))
        have HROW9 := hide hrow9
        have HT9 := hide hT9
        have HB9 := hide hb9
        have HSZ9 := hide (Nat.le_trans HSZ.out hg9.size)
        clear hd hrow9 hT9 hbb hb9 hg9 c0 c1 c2 c3 c4
        generalize hRS : runT (os.take (k + 1)) = rs at *
        have HRS := hide hRS
        clear hRS
        have HE9 := hide (er_own35 HROW9.out rfl (fun x hx => may_rng (HRF.out.2.1 x hx)))
        have hL := HRF.out.2.2
        have hs5 := fun w' (hb : Below w9.heap.size w9 w') => sum_any (HT9.out.later hb) HRF.out.2.1 (by omega)
        have hr6 := fun w' (hb : Below w9.heap.size w9 w') => rows_any (HT9.out.later hb).at (by omega : rs.length ≤ 1000000)
        have HS5 := hide hs5
        have HR6 := hide hr6
        clear hs5 hr6
        obtain ⟨N, hN⟩ : ∃ N, N = rs.length := ⟨_, rfl⟩
        have HN := hide hN
        rw [← hN] at hL HE9 ⊢
        clear hN
        go_wp2
        go_loopw [8, 9, 10] (fun p q i wr => ∃ k2 : Nat, k2 ≤ N ∧ i = .int .i64 k2 ∧ p = .int .i64 (sumI ((rs.take k2).map (·.2.1))) ∧ q = .int .i64 (sumI ((rs.take k2).map (·.2.2))) ∧ Below w9.heap.size w9 wr) (fun _ _ i _ => N - (intOf i).toNat)
        case atStart => exact ⟨0, Nat.zero_le _, rfl, rfl, rfl, Below.refl _ _⟩
        case round =>
          obtain ⟨k2, hk2, rfl, rfl, rfl, hb⟩ := hrel
          have HB10 := hide hb
          by_cases hlt2 : k2 < N
          · obtain ⟨x, hx⟩ : ∃ x, rs[k2]? = some x := ⟨_, List.getElem?_eq_getElem (by have := HN.out; omega)⟩
            obtain ⟨g, off, rfl, hg, c0, c1, c2⟩ := (HE9.out.later hb).cells k2 x hx
            have hb1 := sumI_bnd ((rs.take k2).map (·.2.1)) (fun y hy => by
              obtain ⟨z, hz, rfl⟩ := List.mem_map.1 hy
              have := mayR_get (HRF.out.2.1 z (List.mem_of_mem_take hz))
              omega)
            have hb2 := sumI_bnd ((rs.take k2).map (·.2.2)) (fun y hy => by
              obtain ⟨z, hz, rfl⟩ := List.mem_map.1 hy
              have := mayR_get (HRF.out.2.1 z (List.mem_of_mem_take hz))
              omega)
            rw [List.length_map, List.length_take] at hb1 hb2
            have hx5 := mayR_get (HRF.out.2.1 x (List.mem_of_getElem? hx))
            have HA1 := hide (show sumI ((rs.take (k2 + 1)).map (·.2.1)) = sumI ((rs.take k2).map (·.2.1)) + x.2.1 by rw [snoc_take _ _ _ hx, List.map_append, List.map_singleton, sumI_snoc])
            have HA2 := hide (show sumI ((rs.take (k2 + 1)).map (·.2.2)) = sumI ((rs.take k2).map (·.2.2)) + x.2.2 by rw [snoc_take _ _ _ hx, List.map_append, List.map_singleton, sumI_snoc])
            generalize sumI ((rs.take k2).map (·.2.1)) = S1 at *
            generalize sumI ((rs.take k2).map (·.2.2)) = S2 at *
            obtain ⟨x1, x2, x3⟩ := x
            simp only at *
            clear hx hb
            go_wp2
            go_roundw
            case rel => exact ⟨k2 + 1, by omega, by go_num, by rw [HA1.out], by rw [HA2.out], HB10.out⟩
            case measure => simp [intOf]; omega
          · have hkN : k2 = N := by omega
            have htk : rs.take k2 = rs := List.take_of_length_le (by have := HN.out; omega)
            rw [htk]
            have hnl : ¬ (k2 : Int) < (N : Int) := by omega
            clear hb htk hkN
            have hs6 := HS5.out wr HB10.out
            generalize sumI (rs.map (·.2.1)) = S1 at *
            generalize sumI (rs.map (·.2.2)) = S2 at *
            go_wp2_with fail
            refine hs6.mono ?_
            rintro e w11 ⟨rfl, hb11⟩
            have HB11 := hide (HB10.out.trans (hb11.mono HB10.out.size))
            have hr7 := HR6.out w11 HB11.out
            clear hs6 hb11
            go_wp2_with fail
            refine hr7.mono ?_
            rintro e w12 ⟨v12, rfl, hrow12, hb12⟩
            obtain ⟨a12, cap12, rfl⟩ := row_slice (own_base hrow12 (Nat.zero_le _))
            have HB12 := hide (HB11.out.trans (hb12.mono HB11.out.size))
            rw [← HN.out] at hrow12 ⊢
            have hsm := same_any (cap := cap12) (cap2 := cap9) (er_own hrow12 HN.out (fun x hx => may_rng (HRF.out.2.1 x hx))) (HE9.out.later HB12.out) (by omega)
            clear hr7 hrow12 hb12
            go_wp2_with (go_at_call 16; refine hsm.mono ?_; rintro e w13 ⟨rfl, hb13⟩)
            have HB13 := hide (HB12.out.trans (hb13.mono HB12.out.size))
            exact ⟨⟨k + 1, a9, N, cap9, by omega, by go_num, rfl, by rw [HRS.out]; exact HN.out, by rw [HRS.out, HN.out]; exact row_later HROW9.out HB13.out, by rw [HRS.out]; exact HT9.out.later HB13.out, HB9.out.trans (HB13.out.mono HB9.out.size), Nat.le_trans HSZ9.out HB13.out.size⟩, by simp [intOf]; omega⟩
      · have HB := hide hb
        clear hrow hT hb hml
        go_wp2_with (go_at_call 13; refine (ha _).mono ?_; rintro e w3 ⟨rfl, hb3⟩)
        go_ret
        exact ⟨rfl, HB.out.trans (hb3.mono HB.out.size)⟩
end Li
end Go.Proofs.Ytgdfmoehbgmfkaa
