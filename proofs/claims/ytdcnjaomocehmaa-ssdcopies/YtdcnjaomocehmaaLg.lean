/- A part of the proofs about package ssd: what its functions answer, call by call. -/
import Derived.Test.YtdcnjaomocehmaaLf
namespace Go.Proofs.Ytdcnjaomocehmaa
open Go.RowKit
namespace Wi

theorem Mine.three {W w : World} {A B C : Th} (h : Mine W w (A.and (B.and C))) : ∃ X Y Z, A w X ∧ B w Y ∧ C w Z := by
  obtain ⟨_, ⟨X, _, h1, ⟨Y, Z, h2, h3, _⟩, _⟩, _⟩ := h
  exact ⟨X, Y, Z, h1, h2, h3⟩
theorem Th.and_comm {A B : Th} {w : World} {X : Nat → Prop} (h : (A.and B) w X) : (B.and A) w X := by
  obtain ⟨Y, Z, h1, h2, h3, h4⟩ := h
  exact ⟨Z, Y, h2, h1, fun k hk hx => h3 k hx hk, fun k => (h4 k).trans or_comm⟩
theorem Mine.inner {W w : World} {A B C : Th} (h : Mine W w (A.and (B.and C))) : Mine W w (A.and (C.and B)) := by
  obtain ⟨Z, ⟨X, U, h1, h2, h3, h4⟩, h5, h6⟩ := h
  exact ⟨Z, ⟨X, U, h1, Th.and_comm h2, h3, h4⟩, h5, h6⟩
theorem run_more {d : Dv} {ys : List OpV} (hg : ∀ o ∈ ys, o.data.size ≤ 640) (hn : ys.length ≤ 50) (hd : d.pend.length ≤ 500) (k : Nat) : (d.run (ys.take k)).pend.length ≤ 1000 := by
  have h1 := run_pend (ys.take k) d fun o ho => hg o (List.mem_of_mem_take ho)
  rw [List.length_take] at h1
  omega
set_option maxHeartbeats 8000000 in
set_option maxRecDepth 20000 in
theorem ssdCopies_walk (a : Option Addr) (n cap : Nat) (xs : List OpV) (a2 : Option Addr) (n2 cap2 : Nat) (ys : List OpV) (W : World) (hO : Os W a n xs) (hP : Os W a2 n2 ys) : Calls Try.prog 4 #[.slice a n cap, .slice a2 n2 cap2] W fun e w' => e = .returned (.bool true) ∧ Below W.heap.size W w' := by
  have hn := hO.most
  have hn2 := hP.most
  have HL := hide hO.len
  have HL2 := hide hP.len
  cases hB : fewB xs with
  | false =>
    go_enter Try.func4, Try.ntmps4
    go_wp2_with fail
    refine (new_any 20 (by omega) (by omega) W).mono ?_
    rintro e w1 ⟨rfl, hN1⟩
    have hM := (hN1.my (Below.refl _ _)).mine
    clear hN1
    have hf := few_any (cap := cap) (hO.later hM.below)
    rw [hB] at hf
    go_wp2_with fail
    refine hf.mono ?_
    rintro e w' ⟨rfl, rfl⟩
    clear hf
    have hb2 := hide hM.below
    clear hM
    go_wp2_with fail
    refine (awake_any _).mono ?_
    rintro e w3 ⟨rfl, hb3⟩
    go_wp2
    go_ret
    exact ⟨rfl, hb2.out.trans (hb3.mono hb2.out.size)⟩
  | true =>
    cases hB2 : fewB ys with
    | false =>
      go_enter Try.func4, Try.ntmps4
      go_wp2_with fail
      refine (new_any 20 (by omega) (by omega) W).mono ?_
      rintro e w1 ⟨rfl, hN1⟩
      have hM := (hN1.my (Below.refl _ _)).mine
      clear hN1
      have hf := few_any (cap := cap) (hO.later hM.below)
      rw [hB] at hf
      go_wp2_with fail
      refine hf.mono ?_
      rintro e w' ⟨rfl, rfl⟩
      clear hf
      have hf := few_any (cap := cap2) (hP.later hM.below)
      rw [hB2] at hf
      go_wp2_with fail
      refine hf.mono ?_
      rintro e w2 ⟨rfl, rfl⟩
      clear hf
      have hb2 := hide hM.below
      clear hM
      go_wp2_with fail
      refine (awake_any _).mono ?_
      rintro e w3 ⟨rfl, hb3⟩
      go_wp2
      go_ret
      exact ⟨rfl, hb2.out.trans (hb3.mono hb2.out.size)⟩
    | true =>
      obtain ⟨hgood, h50⟩ := fewB_iff.1 hB
      obtain ⟨hgood2, h502⟩ := fewB_iff.1 hB2
      have HG : Hid (∀ o ∈ xs, o.data.size ≤ 640) := fun o ho => (hgood o ho).1
      have HG2 : Hid (∀ o ∈ ys, o.data.size ≤ 640) := fun o ho => (hgood2 o ho).1
      clear hgood hgood2
      go_enter Try.func4, Try.ntmps4
      go_wp2_with fail
      refine (new_any 20 (by omega) (by omega) W).mono ?_
      rintro e w1 ⟨rfl, hN1⟩
      have hM := (hN1.my (Below.refl _ _)).mine
      clear hN1
      have hf := few_any (cap := cap) (hO.later hM.below)
      rw [hB] at hf
      go_wp2_with fail
      refine hf.mono ?_
      rintro e w' ⟨rfl, rfl⟩
      clear hf
      have hf := few_any (cap := cap2) (hP.later hM.below)
      rw [hB2] at hf
      go_wp2_with fail
      refine hf.mono ?_
      rintro e w2 ⟨rfl, rfl⟩
      clear hf
      have HB := hide hB
      have HB2 := hide hB2
      clear hB hB2
      go_wp2_with fail
      refine (rnew_any 20 (by omega) _).mono ?_
      rintro e w3 ⟨rfl, hR, hb3⟩
      have HT : Hid (Mine W w3 ((devT (W.heap.size + 1) ((dv0 20).run (xs.take 0))).and (refT w2.heap.size ((dv0 20).run (xs.take 0))))) := (hM.new (devT_good _ _) hb3 hR).swap
      clear hM hR hb3
      generalize w2.heap.size = rb at *
      go_wp2
      go_loopw [8] (fun i wr => ∃ k : Nat, k ≤ n ∧ i = .int .i64 k ∧ Mine W wr ((devT (W.heap.size + 1) ((dv0 20).run (xs.take k))).and (refT rb ((dv0 20).run (xs.take k))))) (fun i _ => n - (intOf i).toNat)
      case atStart => exact ⟨0, Nat.zero_le _, rfl, HT.out⟩
      case round =>
        clear HT
        obtain ⟨k, hk, rfl, hM⟩ := hrel
        by_cases hlt : k < n
        · skip
          obtain ⟨o, ho⟩ : ∃ o, xs[k]? = some o := ⟨_, List.getElem?_eq_getElem (by have := HL.out; omega)⟩
          have hmem := List.mem_of_getElem? ho
          have hsz := HG.out o hmem
          have hok := hO.ok o hmem
          have HO := hide ho
          have hstep : ∀ d : Dv, d.run (xs.take (k + 1)) = (d.run (xs.take k)).step o := fun d => by rw [snoc_take _ _ _ ho, run_snoc]
          have HSTEP := hide hstep
          clear hstep ho hmem
          have HRUN := hide (HSTEP.out (dv0 20))
          clear HSTEP
          have hp1 := run_small (N := 20) HG.out h50 k
          obtain ⟨g, off, rfl, c0, c1, c2, c3, c4⟩ := hO.at hM.below HO.out
          obtain ⟨X, hD, hX, hgo⟩ := hM.go (refT_good _ _)
          have hc := does_any hD o (hok.to hM.below hX) hsz (by omega)
          generalize (dv0 20).run (xs.take k) = d at *
          obtain ⟨ask, pl, nn, data, ka, kn, kc, keep⟩ := o
          have hca : ∀ {w : World} {Y : Nat → Prop}, refT rb d w Y → OpOk w Y ⟨ask, pl, nn, data, ka, kn, kc, keep⟩ → _ := fun hR ho => asked_any hR ⟨ask, pl, nn, data, ka, kn, kc, keep⟩ ho hsz (by omega)
          unfold OpV.cells at *
          simp only at *
          generalize d.stepE ⟨ask, pl, nn, data, ka, kn, kc, keep⟩ = E at *
          generalize str (d.stepS ⟨ask, pl, nn, data, ka, kn, kc, keep⟩) = S at *
          generalize d.step ⟨ask, pl, nn, data, ka, kn, kc, keep⟩ = d' at *
          go_wp2_with fail
          refine hc.mono ?_
          rintro e w4 ⟨rfl, hl⟩
          have hM2 := (hgo hl.t).swap
          clear hl hgo hD hX X hc c0 c1 c2 c3 c4 hM
          obtain ⟨Y, hR, hY, hgo⟩ := hM2.go (devT_good _ _)
          have hc := hca hR (hok.to hM2.below hY)
          obtain ⟨g', off', hbo, c0, c1, c2, c3, c4⟩ := hO.at hM2.below HO.out
          obtain ⟨rfl, rfl⟩ : g = g' ∧ off = off' := by simpa using hbo
          unfold OpV.cells at hc
          simp only at hc c0 c1 c2 c3 c4
          clear hbo hca
          go_wp2_with fail
          refine hc.mono ?_
          rintro e w5 ⟨rfl, hl⟩
          have HM := hide (hgo hl).swap
          rw [← HRUN.out] at HM
          clear hl hgo hR hY Y hc c0 c1 c2 c3 c4 hM2
          go_wp2
          go_roundw
          case rel => exact ⟨k + 1, by omega, by go_num, HM.out⟩
          case measure => simp [intOf]; omega
        · obtain rfl : k = n := by omega
          have hall : (dv0 20).run (xs.take k) = (dv0 20).run xs := by rw [HL.out, List.take_length]
          have hpD := run_small (N := 20) HG.out h50 k
          rw [hall] at hM hpD
          clear hall hlt
          generalize (dv0 20).run xs = D at *
          obtain ⟨X, Y, hD, hR⟩ := hM.both
          have hc := copy_any hD (by omega)
          go_wp2_with fail
          refine hc.mono ?_
          rintro e w4 ⟨rfl, hN⟩
          have hM3 := hM.new ((devT_good _ _).and (refT_good _ _)) hN.below (B := devT _ D) hN.dev
          clear hM hc hN hD hR X Y
          obtain ⟨X, Y, Z, hC, hD, hR⟩ := hM3.three
          have hsm := sameD_any hC hR (by omega)
          go_wp2_with fail
          refine hsm.mono ?_
          rintro e w5 ⟨rfl, hb5⟩
          have HT : Hid (Mine W w5 ((devT _ (D.run (ys.take 0))).and ((devT (W.heap.size + 1) D).and (refT rb D)))) := hM3.later ((devT_good _ _).and ((devT_good _ _).and (refT_good _ _))) hb5
          clear hM3 hC hD hR hsm hb5 X Y Z
          generalize wr.heap.size = cb at *
          go_wp2
          go_loopw [10] (fun i wr => ∃ k : Nat, k ≤ n2 ∧ i = .int .i64 k ∧ Mine W wr ((devT cb (D.run (ys.take k))).and ((devT (W.heap.size + 1) D).and (refT rb D)))) (fun i _ => n2 - (intOf i).toNat)
          case atStart => exact ⟨0, Nat.zero_le _, rfl, HT.out⟩
          case round =>
            clear HT
            obtain ⟨k, hk, rfl, hM⟩ := hrel
            by_cases hlt : k < n2
            · skip
              obtain ⟨o, ho⟩ : ∃ o, ys[k]? = some o := ⟨_, List.getElem?_eq_getElem (by have := HL2.out; omega)⟩
              have hmem := List.mem_of_getElem? ho
              have hsz := HG2.out o hmem
              have hok := hP.ok o hmem
              have HO := hide ho
              have hstep : ∀ d : Dv, d.run (ys.take (k + 1)) = (d.run (ys.take k)).step o := fun d => by rw [snoc_take _ _ _ ho, run_snoc]
              have HSTEP := hide hstep
              clear hstep ho hmem
              have HRUN := hide (HSTEP.out D)
              clear HSTEP
              have hp1 := run_more HG2.out h502 hpD k
              obtain ⟨g, off, rfl, c0, c1, c2, c3, c4⟩ := hP.at hM.below HO.out
              obtain ⟨X, hD, hX, hgo⟩ := hM.go ((devT_good _ _).and (refT_good _ _))
              have hc := does_any hD o (hok.to hM.below hX) hsz (by omega)
              generalize D.run (ys.take k) = d at *
              obtain ⟨ask, pl, nn, data, ka, kn, kc, keep⟩ := o
              skip
              unfold OpV.cells at *
              simp only at *
              generalize d.stepE ⟨ask, pl, nn, data, ka, kn, kc, keep⟩ = E at *
              generalize str (d.stepS ⟨ask, pl, nn, data, ka, kn, kc, keep⟩) = S at *
              generalize d.step ⟨ask, pl, nn, data, ka, kn, kc, keep⟩ = d' at *
              go_wp2_with fail
              refine hc.mono ?_
              rintro e w4 ⟨rfl, hl⟩
              have HM := hide (hgo hl.t)
              rw [← HRUN.out] at HM
              clear hl hgo hD hX X hc c0 c1 c2 c3 c4 hM
              go_wp2
              go_roundw
              case rel => exact ⟨k + 1, by omega, by go_num, HM.out⟩
              case measure => simp [intOf]; omega
            · obtain rfl : k = n2 := by omega
              have hall : D.run (ys.take k) = D.run ys := by rw [HL2.out, List.take_length]
              have hpE := run_more HG2.out h502 hpD k
              rw [hall] at hM hpE
              have HALL := hide hall
              clear hall hlt
              obtain ⟨X, Y, Z, hC, hD, hR⟩ := hM.three
              have hsm := sameD_any hD hR (by omega)
              go_wp2_with fail
              refine hsm.mono ?_
              rintro e w6 ⟨rfl, hb6⟩
              have HT : Hid (Mine W w6 ((devT cb (D.run ys)).and ((devT (W.heap.size + 1) (D.run (ys.take 0))).and (refT rb (D.run (ys.take 0)))))) := hM.later ((devT_good _ _).and ((devT_good _ _).and (refT_good _ _))) hb6
              clear hM hC hD hR hsm hb6 X Y Z
              obtain ⟨E, hE⟩ : ∃ E, E = D.run ys := ⟨_, rfl⟩
              rw [← hE] at HT hpE
              have HE := hide hE
              clear hE
              go_wp2
              go_loopw [11] (fun i wr => ∃ j : Nat, j ≤ k ∧ i = .int .i64 j ∧ Mine W wr ((devT cb E).and ((devT (W.heap.size + 1) (D.run (ys.take j))).and (refT rb (D.run (ys.take j)))))) (fun i _ => k - (intOf i).toNat)
              case atStart => exact ⟨0, Nat.zero_le _, rfl, HT.out⟩
              case round =>
                clear HT
                obtain ⟨j, hj, rfl, hM⟩ := hrel
                by_cases hlt : j < k
                · skip
                  obtain ⟨o, ho⟩ : ∃ o, ys[j]? = some o := ⟨_, List.getElem?_eq_getElem (by have := HL2.out; omega)⟩
                  have hmem := List.mem_of_getElem? ho
                  have hsz := HG2.out o hmem
                  have hok := hP.ok o hmem
                  have HO := hide ho
                  have hstep : ∀ d : Dv, d.run (ys.take (j + 1)) = (d.run (ys.take j)).step o := fun d => by rw [snoc_take _ _ _ ho, run_snoc]
                  have HSTEP := hide hstep
                  clear hstep ho hmem
                  have HRUN := hide (HSTEP.out D)
                  clear HSTEP
                  have hp1 := run_more HG2.out h502 hpD j
                  obtain ⟨g, off, rfl, c0, c1, c2, c3, c4⟩ := hP.at hM.below HO.out
                  obtain ⟨X, hD, hX, hgo⟩ := hM.rot.go ((devT_good _ _).and (refT_good _ _))
                  have hc := does_any hD o (hok.to hM.below hX) hsz (by omega)
                  generalize D.run (ys.take j) = d at *
                  obtain ⟨ask, pl, nn, data, ka, kn, kc, keep⟩ := o
                  have hca : ∀ {w : World} {Y : Nat → Prop}, refT rb d w Y → OpOk w Y ⟨ask, pl, nn, data, ka, kn, kc, keep⟩ → _ := fun hR ho => asked_any hR ⟨ask, pl, nn, data, ka, kn, kc, keep⟩ ho hsz (by omega)
                  unfold OpV.cells at *
                  simp only at *
                  generalize d.stepE ⟨ask, pl, nn, data, ka, kn, kc, keep⟩ = E at *
                  generalize str (d.stepS ⟨ask, pl, nn, data, ka, kn, kc, keep⟩) = S at *
                  generalize d.step ⟨ask, pl, nn, data, ka, kn, kc, keep⟩ = d' at *
                  go_wp2_with fail
                  refine hc.mono ?_
                  rintro e w4 ⟨rfl, hl⟩
                  have hM2 := (hgo hl.t).rot.inner.rot
                  clear hl hgo hD hX X hc c0 c1 c2 c3 c4 hM
                  obtain ⟨Y, hR, hY, hgo⟩ := hM2.go ((devT_good _ _).and (devT_good _ _))
                  have hc := hca hR (hok.to hM2.below hY)
                  obtain ⟨g', off', hbo, c0, c1, c2, c3, c4⟩ := hP.at hM2.below HO.out
                  obtain ⟨rfl, rfl⟩ : g = g' ∧ off = off' := by simpa using hbo
                  unfold OpV.cells at hc
                  simp only at hc c0 c1 c2 c3 c4
                  clear hbo hca
                  go_wp2_with fail
                  refine hc.mono ?_
                  rintro e w5 ⟨rfl, hl⟩
                  have HM := hide ((hgo hl).rot.inner)
                  rw [← HRUN.out] at HM
                  clear hl hgo hR hY Y hc c0 c1 c2 c3 c4 hM2
                  go_wp2
                  go_roundw
                  case rel => exact ⟨j + 1, by omega, by go_num, HM.out⟩
                  case measure => simp [intOf]; omega
                · obtain rfl : j = k := by omega
                  rw [HALL.out, ← HE.out] at hM
                  obtain ⟨X, Y, Z, hC, hD, hR⟩ := hM.three
                  have hsm := sameD_any hD hR (by omega)
                  go_wp2_with fail
                  refine hsm.mono ?_
                  rintro e w7 ⟨rfl, hb7⟩
                  replace hM := hM.later ((devT_good _ _).and ((devT_good _ _).and (refT_good _ _))) hb7
                  clear hC hD hR hsm hb7 X Y Z
                  obtain ⟨X, Y, Z, hC, hD, hR⟩ := hM.three
                  have hsm := sameD_any hC hR (by omega)
                  go_wp2_with fail
                  refine hsm.mono ?_
                  rintro e w8 ⟨rfl, hb8⟩
                  replace hM := hM.later ((devT_good _ _).and ((devT_good _ _).and (refT_good _ _))) hb8
                  clear hC hD hR hsm hb8 X Y Z
                  have hb2 := hide hM.below
                  clear hM
                  go_wp2_with fail
                  refine (awake_any _).mono ?_
                  rintro e w3 ⟨rfl, hb3⟩
                  go_wp2
                  go_ret
                  exact ⟨rfl, hb2.out.trans (hb3.mono hb2.out.size)⟩

end Wi
end Go.Proofs.Ytdcnjaomocehmaa
