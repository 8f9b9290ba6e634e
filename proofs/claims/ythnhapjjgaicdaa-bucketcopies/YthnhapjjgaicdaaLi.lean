/- The law BucketCopies: a copy is the same, goes its own way, and comes to the same by the same calls. -/
import Derived.Test.YthnhapjjgaicdaaRn
import Derived.Test.YthnhapjjgaicdaaLh
namespace Go.Proofs.Ythnhapjjgaicdaa
open Go.RowKit
namespace Wi

set_option maxHeartbeats 16000000 in
set_option maxRecDepth 20000 in
theorem bucketCopies_walk (a : Option Addr) (n cap : Nat) (xs : List OpV) (a2 : Option Addr) (n2 cap2 : Nat) (ms : List OpV) (W : World) (hO : Os W a n xs) (hM2 : Os W a2 n2 ms) : Calls Try.prog 4 #[.slice a n cap, .slice a2 n2 cap2] W fun e w' => e = .returned (.bool true) ∧ Below W.heap.size W w' := by
  have hn := hO.most
  have hn2 := hM2.most
  have HL := hide hO.len
  have HL2 := hide hM2.len
  have hnw := new_any 2000 (by omega) W
  have HFW : Hid (∀ w', Below W.heap.size W w' → _) := fun w' hb => few_any (cap := cap) (hO.later hb)
  have HFM : Hid (∀ w', Below W.heap.size W w' → _) := fun w' hb => few_any (cap := cap2) (hM2.later hb)
  go_enter Try.func4, Try.ntmps4
  go_wp2_with fail
  refine hnw.mono ?_
  rintro e w1 ⟨rfl, hN, hb1⟩
  have hfw := HFW.out w1 hb1
  have hfm := HFM.out w1 hb1
  have HB1 := hide hb1
  clear HFW HFM
  cases hB : fewB xs with
  | false =>
    rw [hB] at hfw
    clear hB hN hb1 hnw hfm
    go_wp2_with fail
    refine hfw.mono ?_
    rintro e w2 ⟨rfl, hww⟩
    subst hww
    clear hfw
    go_wp2_with fail
    refine (awake_any _).mono ?_
    rintro e w9 ⟨rfl, hb9⟩
    go_wp2
    go_ret
    exact ⟨rfl, HB1.out.trans (hb9.mono HB1.out.size)⟩
  | true =>
    rw [hB] at hfw
    cases hBm : fewB ms with
    | false =>
      rw [hBm] at hfm
      clear hB hBm hN hb1 hnw
      go_wp2_with fail
      refine hfw.mono ?_
      rintro e w2 ⟨rfl, hww⟩
      subst hww
      clear hfw
      go_wp2_with fail
      refine hfm.mono ?_
      rintro e w3 ⟨rfl, hww⟩
      subst hww
      clear hfm
      go_wp2_with fail
      refine (awake_any _).mono ?_
      rintro e w9 ⟨rfl, hb9⟩
      go_wp2
      go_ret
      exact ⟨rfl, HB1.out.trans (hb9.mono HB1.out.size)⟩
    | true =>
      rw [hBm] at hfm
      obtain ⟨hgood, h60⟩ := fewB_iff.1 hB
      obtain ⟨hgood2, h62⟩ := fewB_iff.1 hBm
      have HG := hide hgood
      have HG2 := hide hgood2
      have hM : Mine W w1 (bkT W.heap.size (bk0 2000)) := let ⟨X, h1, h2⟩ := hN; ⟨X, h1, h2, hb1⟩
      have hS : S3 W W.heap.size w1.heap.size (bk0 2000) (w1.alloc (.cells #[.slice none 0 0, .int .i64 (2000 : Nat), .slice none 0 0, .slice none 0 0] 34)) := (hM.new (bkT_good _ _) (below_alloc _ _) (ref_new w1 2000 (by omega))).swap
      have HS := hide hS
      clear hgood hgood2 hB hBm hN hb1 hnw hM hS
      go_wp2_with fail
      refine hfw.mono ?_
      rintro e w2 ⟨rfl, hww⟩
      subst hww
      clear hfw
      go_wp2_with fail
      refine hfm.mono ?_
      rintro e w3 ⟨rfl, hww⟩
      subst hww
      clear hfm
      go_wp2
      generalize w3.heap.size = rb at *
      go_loopw [8] (fun i wr => ∃ (k : Nat) (d : Bk), k ≤ n ∧ i = .int .i64 k ∧ S3 W W.heap.size rb d wr ∧ Fine k d ∧ Fd d) (fun i _ => n - (intOf i).toNat)
      case atStart => exact ⟨0, bk0 2000, Nat.zero_le _, rfl, HS.out, fine_start (by omega), Fd.start 2000⟩
      case round =>
        clear HS HB1
        obtain ⟨k, d, hk, rfl, hM, hF, hD⟩ := hrel
        by_cases hlt : k < n
        · obtain ⟨o, ho⟩ : ∃ o, xs[k]? = some o := ⟨_, List.getElem?_eq_getElem (by have := HL.out; omega)⟩
          have hmem := List.mem_of_getElem? ho
          have hgd := HG.out o hmem
          have hok := hO.ok o hmem
          have hk60 : k < 60 := by have := HL.out; omega
          obtain ⟨g, off, rfl, hgl, hrg⟩ := hO.cells k o ho
          clear ho hmem
          obtain ⟨NL, hNL⟩ : ∃ NL, (d.stepL o).length = NL := ⟨_, rfl⟩
          have HF' := hide (hF.step hok hgd)
          have HD' := hide (hD.step hF.ok o)
          have hc1 := go_does hM hF (by omega) hok hgd hNL
          have HC2 : Hid (∀ va vc w4, S1 W W.heap.size rb d (d.step o) (d.stepL o) NL va vc w4 → _) := fun va vc w4 h => go_asked h hF hD (by omega) hok hgd hNL
          have HCE : Hid (∀ va vc w4, S1 W W.heap.size rb d (d.step o) (d.stepL o) NL va vc w4 → _) := fun va vc w4 h => op_cells (op_at5 h.below hgl hrg)
          obtain ⟨c0, c1, c2, c3, c4, c5⟩ := op_cells (op_at5 hM.below hgl hrg)
          obtain ⟨ask, name, data, pl, nn, la, ln, lc, l⟩ := o
          unfold OpV.cells at *
          simp only at *
          clear hok hgd hrg hM hF hD hNL
          generalize d.step ⟨ask, name, data, pl, nn, la, ln, lc, l⟩ = d' at *
          generalize d.stepL ⟨ask, name, data, pl, nn, la, ln, lc, l⟩ = L at *
          generalize d.stepE ⟨ask, name, data, pl, nn, la, ln, lc, l⟩ = E at *
          generalize d.stepS ⟨ask, name, data, pl, nn, la, ln, lc, l⟩ = S at *
          generalize d.stepN ⟨ask, name, data, pl, nn, la, ln, lc, l⟩ = N at *
          go_wp2_with fail
          refine hc1.mono ?_
          rintro e w4 ⟨va, vc, rfl, hs1⟩
          have hc2 := HC2.out _ _ _ hs1
          obtain ⟨p0, p1, p2, p3, p4, p5⟩ := HCE.out _ _ _ hs1
          clear hc1 HC2 HCE hs1 c0 c1 c2 c3 c4 c5
          go_wp2_with fail
          refine hc2.mono ?_
          rintro e w5 ⟨ua, uc, rfl, hs2⟩
          have HS3 : Hid (S3 W W.heap.size rb d' w5) := Mine.pick hs2
          clear hc2 hs2 p0 p1 p2 p3 p4 p5
          go_wp2
          go_roundw
          case rel => exact ⟨k + 1, d', by omega, by go_num, HS3.out, HF'.out, HD'.out⟩
          case measure => simp [intOf]; omega
        · obtain rfl : k = n := by omega
          have hcp := s3_copy hM hF (by have := HL.out; omega)
          have HRF := hide (runs_fine hF hD fun o ho => ⟨hM2.ok o ho, HG2.out o ho⟩)
          have HF := hide hF
          have HD := hide hD
          have hk60 : k ≤ 60 := by have := HL.out; omega
          have hm60 : n2 ≤ 60 := by have := HL2.out; omega
          clear hM hF hD hlt hk HG
          go_wp2_with fail
          refine hcp.mono ?_
          rintro e w4 ⟨rfl, hq⟩
          have hsc := q2_Same_c hq HF.out HD.out (by omega)
          clear hcp hq
          generalize wr.heap.size = cb at *
          go_wp2_with fail
          refine hsc.mono ?_
          rintro e w5 ⟨rfl, hq⟩
          have HQ0 : Hid (Q2 W (.slice none 0 0) [] cb W.heap.size rb (runs d (ms.take 0)) d w5) := hq
          clear hsc hq
          go_wp2
          go_loopw [10, 11] (fun v i wr => ∃ (j : Nat) (G : List Gt), j ≤ n2 ∧ i = .int .i64 j ∧ G.length = j ∧ Told d ms G ∧ Q2 W v G cb W.heap.size rb (runs d (ms.take j)) d wr) (fun _ i _ => n2 - (intOf i).toNat)
          case atStart => exact ⟨0, [], Nat.zero_le _, rfl, rfl, fun i o g _ hg => by simp at hg, HQ0.out⟩
          case round =>
            clear HQ0
            obtain ⟨j, G, hj, rfl, hGl, hTo, hq⟩ := hrel
            obtain ⟨fa, fc, hv10⟩ := hq.row.form
            rw [hGl] at hv10
            subst hv10
            have HGL := hide hGl
            have HTO := hide hTo
            by_cases hlt : j < n2
            · obtain ⟨o, ho⟩ : ∃ o, ms[j]? = some o := ⟨_, List.getElem?_eq_getElem (by have := HL2.out; omega)⟩
              have hmem := List.mem_of_getElem? ho
              have hgd := HG2.out o hmem
              have hok := hM2.ok o hmem
              obtain ⟨g, off, hga, hgl, hrg⟩ := hM2.cells j o ho
              have HO := hide ho
              have HRT := hide (runs_take (d := d) ho)
              have HSN : Hid (∀ g : Gt, g.S = (runs d (ms.take j)).stepS o → g.N = ((runs d (ms.take j)).stepN o : Nat) → g.L = (runs d (ms.take j)).stepL o → g.E = (runs d (ms.take j)).stepE o → Told d ms (G ++ [g])) := fun g h1 h2 h3 h4 => HTO.out.snoc (by rw [HGL.out]; exact HO.out) (by rw [HGL.out]; exact h1) (by rw [HGL.out]; exact h2) (by rw [HGL.out]; exact h3) (by rw [HGL.out]; exact h4)
              obtain ⟨hFj, _⟩ := HRF.out j (by have := HL2.out; omega)
              obtain ⟨D, hDD⟩ : ∃ D, runs d (ms.take j) = D := ⟨_, rfl⟩
              rw [hDD] at hFj hq HRT HSN
              obtain ⟨NL, hNL⟩ : ∃ NL, (D.stepL o).length = NL := ⟨_, rfl⟩
              have HNL := hide hNL
              have hc := q2_does hq hFj (by omega) hok hgd hNL
              subst hga
              obtain ⟨c0, c1, c2, c3, c4, c5⟩ := op_cells (op_at5 hq.below hgl hrg)
              obtain ⟨ask, name, data, pl, nn, la, ln, lc, l⟩ := o
              unfold OpV.cells at *
              simp only at *
              clear hok hgd hrg hq hFj hNL ho hmem hGl hTo hDD HO HTO
              generalize D.step ⟨ask, name, data, pl, nn, la, ln, lc, l⟩ = d' at *
              generalize D.stepL ⟨ask, name, data, pl, nn, la, ln, lc, l⟩ = L at *
              generalize D.stepE ⟨ask, name, data, pl, nn, la, ln, lc, l⟩ = E at *
              generalize D.stepS ⟨ask, name, data, pl, nn, la, ln, lc, l⟩ = S at *
              generalize D.stepN ⟨ask, name, data, pl, nn, la, ln, lc, l⟩ = N at *
              go_wp2_with fail
              refine hc.mono ?_
              rintro e w6 ⟨va, vc, rfl, hq3⟩
              have HQ3 := hide hq3
              have HROW : Hid (Rw (w6.alloc (.cells #[.string S, .int .i64 (N : Nat), .slice va NL vc, .int .i64 E] 38)) 38 4 (.slice fa j fc) j (encGt G)) := by
                have := (hq3.later (below_alloc w6 (.cells #[.string S, .int .i64 (N : Nat), .slice va NL vc, .int .i64 E] 38))).row
                rw [HGL.out] at this
                exact this
              have HSRC := hide (one_got w6 [.string S, .int .i64 (N : Nat), .slice va NL vc, .int .i64 E] rfl #[.string S, .int .i64 (N : Nat), .slice va NL vc, .int .i64 E] rfl)
              have HONE : Hid (∀ u ∈ ([.string S, .int .i64 (N : Nat), .slice va NL vc, .int .i64 E] : List Value), u.oneCell' = true) := fun u hu => by
                simp only [List.mem_cons, List.not_mem_nil, or_false] at hu
                rcases hu with rfl | rfl | rfl | rfl <;> rfl
              have HBA := hide (below_alloc w6 (.cells #[.string S, .int .i64 (N : Nat), .slice va NL vc, .int .i64 E] 38))
              have hx1 : j + 1 ≤ maxLen := by unfold maxLen; omega
              have hx2 : (j + 1) * 56 ≤ 140737488355328 := by omega
              clear hc hq3 c0 c1 c2 c3 c4 c5
              go_wp2_with (at_builtin; refine append46 rfl (.tmp 79) (.tmp 86) rfl _ j _ rfl HROW.out _ 1 1 _ rfl HSRC.out HONE.out hx1 hx2 ?_; intro v2 w7 g1 g2 g3; replace g1 := hide g1; replace g2 := hide g2; replace g3 := hide g3)
              have HQF : Hid (Q2 W v2 (G ++ [⟨S, N, L, E, va, NL, vc⟩]) cb W.heap.size rb (runs d (ms.take (j + 1))) d w7) := by
                have h1 := g1.out
                rw [← HGL.out] at h1
                rw [HRT.out]
                exact q3_grow HQ3.out HBA.out HNL.out h1 g2.out g3.out
              have HTF := hide (HSN.out ⟨S, N, L, E, va, NL, vc⟩ rfl rfl rfl rfl)
              have HLF : Hid ((G ++ [(⟨S, N, L, E, va, NL, vc⟩ : Gt)]).length = j + 1) := by show _ = _; rw [List.length_append, HGL.out]; rfl
              clear g1 g2 g3 HROW HSRC HONE HQ3 HBA HNL HSN
              go_roundw
              case rel => exact ⟨j + 1, _, by omega, by go_num, HLF.out, HTF.out, HQF.out⟩
              case measure => simp [intOf]; omega
            · obtain rfl : j = n2 := by omega
              have hTT : ms.take j = ms := List.take_of_length_le (by have := HL2.out; omega)
              have HRFE := hide (HRF.out j (by have := HL2.out; omega))
              rw [hTT] at hq HRFE
              have hsb := q2_Same_b hq HF.out HD.out (by omega)
              have HTTE := hide hTT
              clear hTT hq hlt hj hGl hTo
              go_wp2_with fail
              refine hsb.mono ?_
              rintro e w6 ⟨rfl, hq⟩
              have HQ0 : Hid (Q2 W (.slice fa j fc) G cb W.heap.size rb (runs d ms) (runs d (ms.take 0)) w6) := hq
              clear hsb hq
              go_wp2
              go_loopw [12] (fun i wr => ∃ (i3 : Nat), i3 ≤ j ∧ i = .int .i64 i3 ∧ Q2 W (.slice fa j fc) G cb W.heap.size rb (runs d ms) (runs d (ms.take i3)) wr) (fun i _ => j - (intOf i).toNat)
              case atStart => exact ⟨0, Nat.zero_le _, rfl, HQ0.out⟩
              case round =>
                clear HQ0
                obtain ⟨i3, hi3, rfl, hq⟩ := hrel
                by_cases hlt : i3 < j
                · obtain ⟨o, ho⟩ : ∃ o, ms[i3]? = some o := ⟨_, List.getElem?_eq_getElem (by have := HL2.out; omega)⟩
                  obtain ⟨gt, hgt⟩ : ∃ gt, G[i3]? = some gt := ⟨_, List.getElem?_eq_getElem (by have := HGL.out; omega)⟩
                  have hmem := List.mem_of_getElem? ho
                  have hgd := HG2.out o hmem
                  have hok := hM2.ok o hmem
                  obtain ⟨g, off, hga, hgl, hrg⟩ := hM2.cells i3 o ho
                  obtain ⟨e1, e2, e3, e4⟩ := HTO.out i3 o gt ho hgt
                  have HRT := hide (runs_take (d := d) ho)
                  obtain ⟨hFj, hDj⟩ := HRF.out i3 (by have := HL2.out; omega)
                  have hrow := hq.row
                  rw [HGL.out] at hrow
                  obtain ⟨fg, foff, fc', hv, hfg, hfc⟩ := hrow.pos (by omega)
                  injection hv with v1 v2 v3
                  subst v1 v3
                  clear v2
                  obtain ⟨D, hDD⟩ : ∃ D, runs d (ms.take i3) = D := ⟨_, rfl⟩
                  rw [hDD] at hFj hDj hq HRT e1 e2 e3 e4
                  obtain ⟨DE, hDE⟩ : ∃ DE, runs d ms = DE := ⟨_, rfl⟩
                  rw [hDE] at hq ⊢
                  obtain ⟨NL, hNL⟩ : ∃ NL, (D.stepL o).length = NL := ⟨_, rfl⟩
                  have hNf : NL ≤ 1000000 := by have := stepL_few D o; have := hFj.few; omega
                  have hc := q2_does_b hq hFj (by omega) hok hgd hNL
                  have HCE : Hid (∀ w', Below W.heap.size W w' → _) := fun w' hb => op_cells (op_at5 hb hgl hrg)
                  have HC2 : Hid (∀ va vc p cs w', Q5 W (.slice (some ⟨fg, foff, none⟩) j fc) G cb W.heap.size rb DE D (D.step o) (D.stepL o) NL va vc p cs w' → _) := fun va vc p cs w' h => q5_asked h hFj hDj (by omega) hok hgd hNL
                  have HC3 : Hid (∀ va vc p cs ua uc w', Q6 W (.slice (some ⟨fg, foff, none⟩) j fc) G cb W.heap.size rb DE (D.step o) (D.stepL o) NL va vc p cs ua uc w' → _) := fun va vc p cs ua uc w' h => q6_same h hNL hNf (D.stepS o) (D.stepN o : Nat) (D.stepE o)
                  have HC4 : Hid (∀ va vc p cs ua uc w', Q6 W (.slice (some ⟨fg, foff, none⟩) j fc) G cb W.heap.size rb DE (D.step o) (D.stepL o) NL va vc p cs ua uc w' → _) := fun va vc p cs ua uc w' h => q6_first h hNL hNf hgt (D.stepS o) (D.stepN o : Nat) (D.stepE o) e3
                  have HFX : Hid (∀ va vc p cs ua uc w', Q6 W (.slice (some ⟨fg, foff, none⟩) j fc) G cb W.heap.size rb DE (D.step o) (D.stepL o) NL va vc p cs ua uc w' → w'.cell? ⟨fg, foff + i3 * 4, none⟩ = some (.string (D.stepS o)) ∧ w'.cell? ⟨fg, foff + i3 * 4 + 1, none⟩ = some (.int .i64 (D.stepN o : Nat)) ∧ w'.cell? ⟨fg, foff + i3 * 4 + 2, none⟩ = some (.slice gt.a NL gt.c) ∧ w'.cell? ⟨fg, foff + i3 * 4 + 3, none⟩ = some (.int .i64 (D.stepE o))) := fun va vc p cs ua uc w' h => by
                    have hr := h.row
                    have hz := q6_size h hNL hgt e3
                    rw [HGL.out] at hr
                    have y0 := (hr.cell (encGt_get (j := 0) hgt rfl)).1
                    have y1 := (hr.cell (encGt_get (j := 1) hgt rfl)).1
                    have y2 := (hr.cell (encGt_get (j := 2) hgt rfl)).1
                    have y3 := (hr.cell (encGt_get (j := 3) hgt rfl)).1
                    rw [e1] at y0
                    rw [e2] at y1
                    rw [hz] at y2
                    rw [e4] at y3
                    exact ⟨y0, y1, y2, y3⟩
                  have HBX : Hid (∀ va vc p cs ua uc w', Q6 W (.slice (some ⟨fg, foff, none⟩) j fc) G cb W.heap.size rb DE (D.step o) (D.stepL o) NL va vc p cs ua uc w' → w'.heap[p]? = some (.cells cs 38 (0, 0))) := fun va vc p cs ua uc w' h => h.box
                  have HEND : Hid (∀ va vc p cs ua uc w', Q6 W (.slice (some ⟨fg, foff, none⟩) j fc) G cb W.heap.size rb DE (D.step o) (D.stepL o) NL va vc p cs ua uc w' → Q2 W (.slice (some ⟨fg, foff, none⟩) j fc) G cb W.heap.size rb DE (runs d (ms.take (i3 + 1))) w') := fun va vc p cs ua uc w' h => by rw [HRT.out]; exact h.rest
                  have ga := gt.a
                  subst hga
                  obtain ⟨c0, c1, c2, c3, c4, c5⟩ := HCE.out wr hq.below
                  obtain ⟨ask, name, data, pl, nn, la, ln, lc, l⟩ := o
                  unfold OpV.cells at *
                  simp only at *
                  clear hok hgd hrg hq hFj hDj hNL ho hmem hDD hrow e1 e2 e3 e4 HRT hgt ga
                  generalize D.step ⟨ask, name, data, pl, nn, la, ln, lc, l⟩ = d' at *
                  generalize D.stepL ⟨ask, name, data, pl, nn, la, ln, lc, l⟩ = L at *
                  generalize D.stepE ⟨ask, name, data, pl, nn, la, ln, lc, l⟩ = E at *
                  generalize D.stepS ⟨ask, name, data, pl, nn, la, ln, lc, l⟩ = S at *
                  generalize D.stepN ⟨ask, name, data, pl, nn, la, ln, lc, l⟩ = N at *
                  generalize gt.a = xa at *
                  generalize gt.c = xc at *
                  go_wp2_with fail
                  refine hc.mono ?_
                  rintro e w6 ⟨va, vc, rfl, hq4⟩
                  have hq5 := q4_box hq4 #[.string S, .int .i64 (N : Nat), .slice va NL vc, .int .i64 E]
                  obtain ⟨w7, hw7⟩ : ∃ w7, w7 = w6.alloc (.cells #[.string S, .int .i64 (N : Nat), .slice va NL vc, .int .i64 E] 38) := ⟨_, rfl⟩
                  rw [← hw7] at hq5
                  have HW7 := hide hw7
                  have HQ5 := hide (hq5.later (Below.refl _ _).drew)
                  have hbx := hq5.box
                  have x0 := cell_of_row w7 w6.heap.size 0 _ _ _ hbx
                  have x1 := cell_of_row w7 w6.heap.size 1 _ _ _ hbx
                  have x2 := cell_of_row w7 w6.heap.size 2 _ _ _ hbx
                  have x3 := cell_of_row w7 w6.heap.size 3 _ _ _ hbx
                  simp only [List.getElem?_toArray, List.getElem?_cons_zero, List.getElem?_cons_succ] at x0 x1 x2 x3
                  have HC2' := hide (HC2.out _ _ _ _ _ HQ5.out)
                  clear c0 c1 c2 c3 c4 c5
                  obtain ⟨c0, c1, c2, c3, c4, c5⟩ := HCE.out w7 hq5.below
                  clear hc hq4 hq5 hw7 hbx HC2 HCE HQ5
                  go_wp2
                  rw [← HW7.out]
                  clear HW7
                  generalize w6.heap.size = pb at *
                  go_region_law (first | (refine step_got (by simp [Region.wanted]) 16 _ (by simp [go_sem]) HC2'.out ?_; intro ua uc w8 hs1; have hbx := HBX.out _ _ _ _ _ _ _ hs1; have y0 := cell_of_row w8 pb 0 _ _ _ hbx; have y1 := cell_of_row w8 pb 1 _ _ _ hbx; have y2 := cell_of_row w8 pb 2 _ _ _ hbx; have y3 := cell_of_row w8 pb 3 _ _ _ hbx; simp only [List.getElem?_toArray, List.getElem?_cons_zero, List.getElem?_cons_succ] at y0 y1 y2 y3; clear hbx; replace hs1 := hide hs1) | (refine step_val (by simp [Region.wanted]) 14 _ (by simp [go_sem]) (HC3.out _ _ _ _ _ _ _ hs1.out) ?_; intro w9 hs2; have hbx := HBX.out _ _ _ _ _ _ _ hs2; have z0 := cell_of_row w9 pb 0 _ _ _ hbx; have z1 := cell_of_row w9 pb 1 _ _ _ hbx; have z2 := cell_of_row w9 pb 2 _ _ _ hbx; have z3 := cell_of_row w9 pb 3 _ _ _ hbx; simp only [List.getElem?_toArray, List.getElem?_cons_zero, List.getElem?_cons_succ] at z0 z1 z2 z3; obtain ⟨f0, f1, f2, f3⟩ := HFX.out _ _ _ _ _ _ _ hs2; clear hbx; replace hs2 := hide hs2) | (refine step_val (by go_simp) 14 _ (by simp [go_sem]) (HC4.out _ _ _ _ _ _ _ hs2.out) ?_; intro w10 hs3; replace hs3 := hide hs3))
                  all_goals
                    have HQF := hide (HEND.out _ _ _ _ _ _ _ hs3.out)
                    clear HC2' HC3 HC4 HFX HBX HEND hs1 hs2 hs3 x0 x1 x2 x3 y0 y1 y2 y3 z0 z1 z2 z3 f0 f1 f2 f3 c0 c1 c2 c3 c4 c5
                    go_wp2
                    go_roundw
                    case rel => exact ⟨i3 + 1, by omega, by go_num, HQF.out⟩
                    case measure => simp [intOf]; omega
                · obtain rfl : i3 = j := by omega
                  rw [HTTE.out] at hq
                  obtain ⟨hFE, hDE⟩ := HRFE.out
                  have hsb := q2_Same_b hq hFE hDE (by omega)
                  have HSC : Hid (∀ w', Q2 W (.slice fa i3 fc) G cb W.heap.size rb (runs d ms) (runs d ms) w' → _) := fun w' h => q2_Same_c h hFE hDE (by omega)
                  clear hq hFE hDE
                  go_wp2_with fail
                  refine hsb.mono ?_
                  rintro e w6 ⟨rfl, hq⟩
                  have hsc := HSC.out _ hq
                  clear hsb hq HSC
                  go_wp2_with fail
                  refine hsc.mono ?_
                  rintro e w7 ⟨rfl, hq⟩
                  have HB1 := hide hq.below
                  clear hsc hq
                  go_wp2_with fail
                  refine (awake_any _).mono ?_
                  rintro e w9 ⟨rfl, hb9⟩
                  go_wp2
                  go_ret
                  exact ⟨rfl, HB1.out.trans (hb9.mono HB1.out.size)⟩

end Wi
end Go.Proofs.Ythnhapjjgaicdaa
