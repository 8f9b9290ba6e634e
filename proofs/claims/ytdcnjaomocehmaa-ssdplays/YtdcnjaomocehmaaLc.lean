/- A part of the proofs about package ssd: what its functions answer, call by call. -/
import Derived.Test.YtdcnjaomocehmaaLx
import Derived.Test.YtdcnjaomocehmaaLa
namespace Go.Proofs.Ytdcnjaomocehmaa
open Go.RowKit
namespace Wi

/-- The device that has m calls left, beside d. -/
def stopped (d : Dv) (m : Nat) : Dv := ⟨d.last, d.pend, false, some m⟩
theorem stopped_step {d : Dv} (hg : d.gone = false) (hs : d.stop = none) (o : OpV) (ho : o.ask = 0 ∨ o.ask = 1) (m : Nat) : (stopped d (m + 1)).step o = stopped (d.step o) m ∧ (stopped d (m + 1)).stepE o = d.stepE o ∧ (d.step o).gone = false ∧ (d.step o).stop = none := by
  have h1 : d.dead = false := by simp [Dv.dead, hg, hs]
  have h2 : (stopped d (m + 1)).dead = false := by simp [Dv.dead, stopped]
  have e0 : ∀ a data, (stopped d (m + 1)).writeE a data = d.writeE a data := fun _ _ => rfl
  have e1 : (stopped d (m + 1)).now = d.now := rfl
  rcases ho with ho | ho
  · unfold Dv.step Dv.stepE
    rw [ho]
    simp only [if_true]
    unfold Dv.write Dv.writeA
    rw [h1, h2, e0]
    simp only [Bool.false_eq_true, if_false]
    by_cases he : d.writeE o.place (bs o.data) = 0
    · simp only [he, if_true]
      exact ⟨rfl, trivial, hg, by simp [Dv.tick, hs]⟩
    · simp only [he, if_false]
      exact ⟨rfl, trivial, hg, by simp [Dv.tick, hs]⟩
  · unfold Dv.step Dv.stepE
    rw [ho]
    simp only [show ¬ ((1 : Int) = 0) by omega, if_false, if_true]
    unfold Dv.barrier Dv.barrierA
    rw [h1, h2, e1]
    simp only [Bool.false_eq_true, if_false]
    exact ⟨rfl, trivial, hg, by simp [Dv.tick, hs]⟩
theorem stopped_dead (d : Dv) (o : OpV) (ho : o.ask = 0 ∨ o.ask = 1) : (stopped d 0).step o = stopped d 0 ∧ (stopped d 0).stepE o = 17 := by
  have h2 : (stopped d 0).dead = true := by simp [Dv.dead, stopped]
  rcases ho with ho | ho
  · unfold Dv.step Dv.stepE Dv.write Dv.writeA
    simp [ho, h2]
  · unfold Dv.step Dv.stepE Dv.barrier Dv.barrierA
    simp [ho, h2]
/-- The two devices behind k calls. -/
def devB (xs : List OpV) (N k : Nat) : Dv := (dv0 20).run (xs.take (min k N))
theorem devB_plain {xs : List OpV} (h : ∀ o ∈ xs, o.ask = 0 ∨ o.ask = 1) : ∀ m, ((dv0 20).run (xs.take m)).gone = false ∧ ((dv0 20).run (xs.take m)).stop = none
  | 0 => ⟨rfl, rfl⟩
  | m + 1 => by
    have ih := devB_plain h m
    by_cases hm : m < xs.length
    · have hx : xs[m]? = some xs[m] := List.getElem?_eq_getElem hm
      rw [snoc_take _ _ _ hx, run_snoc]
      have := stopped_step ih.1 ih.2 xs[m] (h _ (List.getElem_mem hm)) 0
      exact ⟨this.2.2.1, this.2.2.2⟩
    · rw [List.take_of_length_le (by omega)] at ih ⊢
      exact ih
theorem devB_next {xs : List OpV} {N k : Nat} {o : OpV} (ho : xs[k]? = some o) (hk : k < N) : devB xs N (k + 1) = (devB xs N k).step o := by
  unfold devB
  rw [Nat.min_eq_left (by omega), Nat.min_eq_left (by omega), snoc_take _ _ _ ho, run_snoc]
theorem devB_stays {xs : List OpV} {N k : Nat} (hk : N ≤ k) : devB xs N (k + 1) = devB xs N k := by
  unfold devB
  rw [Nat.min_eq_right hk, Nat.min_eq_right (by omega)]
theorem devB_pend {xs : List OpV} (h : ∀ o ∈ xs, o.data.size ≤ 640) (hn : xs.length ≤ 50) (N k : Nat) : (devB xs N k).pend.length ≤ 500 := by
  have h1 := run_pend (xs.take (min k N)) (dv0 20) fun o ho => h o (List.mem_of_mem_take ho)
  rw [List.length_take] at h1
  have : (dv0 20).pend.length = 0 := rfl
  show ((dv0 20).run _).pend.length ≤ 500
  omega
theorem devB_length (xs : List OpV) (N k : Nat) : (devB xs N k).last.length = 20 := by
  have : ∀ (l : List OpV) (d : Dv), (d.run l).last.length = d.last.length := by
    intro l
    induction l with
    | nil => intro d; rfl
    | cons o r ih =>
      intro d
      show ((d.step o).run r).last.length = _
      rw [ih]
      unfold Dv.step
      split
      · unfold Dv.write
        repeat' split
        all_goals rfl
      · repeat' split
        all_goals first | rfl | (simp [Dv.crash, crashes_length]; done) | (unfold Dv.barrier; split <;> simp [Dv.now_length])
  rw [devB, this]
  simp [dv0]

theorem Os.later {W w : World} {a : Option Addr} {n : Nat} {xs : List OpV} (h : Os W a n xs) (hb : Below W.heap.size W w) : Os w a n xs :=
  ⟨h.len, h.most, fun o ho => (h.ok o ho).later0 hb, fun i o hi => by
    obtain ⟨b, off, ha, hlt, hr⟩ := h.cells i o hi
    exact ⟨b, off, ha, Nat.lt_of_lt_of_le hlt hb.size, fun j v hv => by rw [hb.cell (p := ⟨b, off + i * 5 + j, none⟩) hlt]; exact hr j v hv⟩⟩
set_option maxHeartbeats 8000000 in
set_option maxRecDepth 20000 in
theorem ssdStops_walk (a : Option Addr) (n cap : Nat) (xs : List OpV) (num : Int) (W : World) (hO : Os W a n xs) (hnum : Num num) : Calls Try.prog 6 #[.slice a n cap, .int .i64 num] W fun e w' => e = .returned (.bool true) ∧ Below W.heap.size W w' := by
  obtain ⟨hn1, hn2⟩ := hnum
  have hn := hO.most
  have HL := hide hO.len
  cases hB : fewB xs with
  | false =>
    go_enter Try.func6, Try.ntmps6
    go_wp2_with fail
    refine (new_any 20 (by omega) (by omega) W).mono ?_
    rintro e w1 ⟨rfl, hN1⟩
    have hM := hN1.my (Below.refl _ _)
    clear hN1
    go_wp2_with fail
    refine (new_any 20 (by omega) (by omega) w1).mono ?_
    rintro e w2 ⟨rfl, hN2⟩
    have hT := hM.two hN2
    clear hN2 hM
    have hf := few_any (cap := cap) (hO.later hT.below)
    rw [hB] at hf
    go_wp2_with fail
    refine hf.mono ?_
    rintro e w' ⟨rfl, rfl⟩
    clear hf
    have hb2 := hide hT.below
    clear hT
    go_wp2_with fail
    refine (awake_any _).mono ?_
    rintro e w3 ⟨rfl, hb3⟩
    go_wp2
    go_ret
    exact ⟨rfl, hb2.out.trans (hb3.mono hb2.out.size)⟩
  | true =>
    obtain ⟨hgood, h50⟩ := fewB_iff.1 hB
    by_cases hneg : num < 0
    · go_enter Try.func6, Try.ntmps6
      go_wp2_with fail
      refine (new_any 20 (by omega) (by omega) W).mono ?_
      rintro e w1 ⟨rfl, hN1⟩
      have hM := hN1.my (Below.refl _ _)
      clear hN1
      go_wp2_with fail
      refine (new_any 20 (by omega) (by omega) w1).mono ?_
      rintro e w2 ⟨rfl, hN2⟩
      have hT := hM.two hN2
      clear hN2 hM
      have hf := few_any (cap := cap) (hO.later hT.below)
      rw [hB] at hf
      go_wp2_with fail
      refine hf.mono ?_
      rintro e w' ⟨rfl, rfl⟩
      clear hf
      have hb2 := hide hT.below
      clear hT
      go_wp2_with fail
      refine (awake_any _).mono ?_
      rintro e w3 ⟨rfl, hb3⟩
      go_wp2
      go_ret
      exact ⟨rfl, hb2.out.trans (hb3.mono hb2.out.size)⟩
    · obtain ⟨N, rfl⟩ := Int.eq_ofNat_of_zero_le (show 0 ≤ num by omega)
      have hgood' : ∀ o ∈ xs, o.data.size ≤ 640 := fun o ho => (hgood o ho).1
      have HG := hide hgood'
      clear hgood hgood'
      go_enter Try.func6, Try.ntmps6
      go_wp2_with fail
      refine (new_any 20 (by omega) (by omega) W).mono ?_
      rintro e w1 ⟨rfl, hN1⟩
      have hM := hN1.my (Below.refl _ _)
      clear hN1
      go_wp2_with fail
      refine (new_any 20 (by omega) (by omega) w1).mono ?_
      rintro e w2 ⟨rfl, hN2⟩
      have hT := hM.two hN2
      clear hN2 hM
      have hf := few_any (cap := cap) (hO.later hT.below)
      rw [hB] at hf
      go_wp2_with fail
      refine hf.mono ?_
      rintro e w' ⟨rfl, rfl⟩
      clear hf
      have HB := hide hB
      clear hB
      go_wp2
      go_loop [9] (fun i => ∃ k : Nat, k ≤ n ∧ i = .int .i64 k ∧ Hid (∀ o ∈ xs.take k, o.ask = 0 ∨ o.ask = 1)) (fun i => n - (intOf i).toNat)
      case atStart => exact ⟨0, Nat.zero_le _, rfl, by show ∀ o ∈ _, _; simp⟩
      case round =>
        obtain ⟨k, hk, rfl, HA⟩ := hrel
        by_cases hlt : k < n
        · obtain ⟨o, ho⟩ : ∃ o, xs[k]? = some o := ⟨_, List.getElem?_eq_getElem (by have := HL.out; omega)⟩
          obtain ⟨b, off, rfl, c0, c1, c2, c3, c4⟩ := hO.at hT.below ho
          have HT := hide (snoc_take _ _ _ ho)
          clear ho c1 c2 c3 c4
          by_cases h0 : o.ask = 0
          · rw [h0] at c0
            have HA2 : Hid (∀ o' ∈ xs.take (k + 1), o'.ask = 0 ∨ o'.ask = 1) := by
              show ∀ o' ∈ _, _
              rw [HT.out]
              intro o' ho'
              rcases List.mem_append.1 ho' with h1 | h1
              · exact HA.out o' h1
              · rw [List.mem_singleton.1 h1]; exact .inl h0
            clear h0
            go_wp2
            go_round
            case rel => exact ⟨k + 1, by omega, by go_num, HA2⟩
            case measure => simp [intOf]; omega
          · by_cases h1 : o.ask = 1
            · rw [h1] at c0
              have HA2 : Hid (∀ o' ∈ xs.take (k + 1), o'.ask = 0 ∨ o'.ask = 1) := by
                show ∀ o' ∈ _, _
                rw [HT.out]
                intro o' ho'
                rcases List.mem_append.1 ho' with h2 | h2
                · exact HA.out o' h2
                · rw [List.mem_singleton.1 h2]; exact .inr h1
              clear h0 h1
              go_wp2
              go_round
              case rel => exact ⟨k + 1, by omega, by go_num, HA2⟩
              case measure => simp [intOf]; omega
            · have b0 : (o.ask != 0) = true := by rw [bne_iff_ne]; exact h0
              have b1 : (o.ask != 1) = true := by rw [bne_iff_ne]; exact h1
              clear h0 h1
              generalize o.ask = ask at *
              have hb2 := hide hT.below
              clear hT
              go_wp2_with fail
              refine (awake_any _).mono ?_
              rintro e w3 ⟨rfl, hb3⟩
              go_wp2
              go_ret
              exact ⟨rfl, hb2.out.trans (hb3.mono hb2.out.size)⟩
        · obtain rfl : k = n := by omega
          have HA2 : Hid (∀ o ∈ xs, o.ask = 0 ∨ o.ask = 1) := by
            have e := HA.out
            rw [HL.out, List.take_length] at e
            exact e
          clear HA hlt
          have hT0 := hT
          obtain ⟨X, hD, hX, hgo⟩ := hT.go
          have hc := stop_any hD (N : Int) (by omega)
          go_wp2_with fail
          refine hc.mono ?_
          rintro e w3 ⟨rfl, hl⟩
          replace hT := hgo hl
          rw [show (dv0 20).halt (N : Int) = stopped (devB xs N 0) (N - 0) by simp [Dv.halt, stopped, devB, Dv.run, dv0]] at hT
          rw [show Two W w3 (W.heap.size + 1) (stopped (devB xs N 0) (N - 0)) (w1.heap.size + 1) (dv0 20) = Two W w3 (W.heap.size + 1) (stopped (devB xs N 0) (N - 0)) (w1.heap.size + 1) (devB xs N 0) by simp [devB, Dv.run]] at hT
          have HT3 := hide hT
          clear hl hgo hD hX X hc hT hT0
          go_wp2
          go_loopw [10] (fun i wr => ∃ k' : Nat, k' ≤ k ∧ i = .int .i64 k' ∧ Two W wr (W.heap.size + 1) (stopped (devB xs N k') (N - k')) (w1.heap.size + 1) (devB xs N k')) (fun i _ => k - (intOf i).toNat)
          case atStart => exact ⟨0, Nat.zero_le _, rfl, HT3.out⟩
          case round =>
            clear HT3
            obtain ⟨j, hj, rfl, hT⟩ := hrel
            by_cases hlt : j < k
            · obtain ⟨o, ho⟩ : ∃ o, xs[j]? = some o := ⟨_, List.getElem?_eq_getElem (by have := HL.out; omega)⟩
              have hmem := List.mem_of_getElem? ho
              have hask := HA2.out o hmem
              have hsz := HG.out o hmem
              have hpl := devB_pend HG.out h50 N j
              have hok := hO.ok o hmem
              obtain ⟨X, hD, hX, hgo⟩ := hT.go
              have hc := does_any hD o (hok.to hT.below hX) hsz (by show (devB xs N j).pend.length ≤ _; omega)
              by_cases hjN : j < N
              · obtain ⟨m, hm⟩ : ∃ m, N - j = m + 1 := ⟨N - j - 1, by omega⟩
                have hpl2 := devB_plain HA2.out (min j N)
                obtain ⟨s1, s2, s3, s4⟩ := stopped_step (d := devB xs N j) hpl2.1 hpl2.2 o hask m
                have hnx := devB_next ho hjN
                rw [hm, s1, s2, ← hnx] at hc
                have hcells := hO.at (hT.below) ho
                obtain ⟨b, off, rfl, c0, c1, c2, c3, c4⟩ := hcells
                have HO := hide ho
                clear ho s1 s2 s3 s4 hpl2
                obtain ⟨ask, pl, nn, data, ka, kn, kc, keep⟩ := o
                unfold OpV.cells at hc
                simp only at hc c0 c1 c2 c3 c4 hask hsz
                generalize hE : (devB xs N j).stepE ⟨ask, pl, nn, data, ka, kn, kc, keep⟩ = E at *
                generalize hS1 : str ((stopped (devB xs N j) (m + 1)).stepS ⟨ask, pl, nn, data, ka, kn, kc, keep⟩) = S1 at *
                go_wp2_with fail
                refine hc.mono ?_
                rintro e w4 ⟨rfl, hl⟩
                have hT4 := (hgo hl).symm
                clear hl hgo hD hX X hc c0 c1 c2 c3 c4 hS1
                obtain ⟨X, hD, hX, hgo⟩ := hT4.go
                have hc := does_any hD ⟨ask, pl, nn, data, ka, kn, kc, keep⟩ (hok.to hT4.below hX) hsz (by omega)
                rw [← hnx, hE] at hc
                obtain ⟨b', off', hbo, c0, c1, c2, c3, c4⟩ := hO.at (hT4.below) HO.out
                obtain ⟨rfl, rfl⟩ : b = b' ∧ off = off' := by simpa using hbo
                clear hbo
                unfold OpV.cells at hc
                simp only at hc c0 c1 c2 c3 c4
                generalize hS2 : str ((devB xs N j).stepS ⟨ask, pl, nn, data, ka, kn, kc, keep⟩) = S2 at *
                clear hE hS2
                go_wp2_with fail
                refine hc.mono ?_
                rintro e w5 ⟨rfl, hl⟩
                have hT5 := (hgo hl).symm
                rw [show m = N - (j + 1) by omega] at hT5
                have HT5 := hide hT5
                clear hl hgo hD hX X hc c0 c1 c2 c3 c4 hT5 hT4 hT
                go_wp2
                go_roundw
                case rel => exact ⟨j + 1, by omega, by go_num, HT5.out⟩
                case measure => simp [intOf]; omega
              · obtain ⟨s1, s2⟩ := stopped_dead (devB xs N j) o hask
                have hst := devB_stays (xs := xs) (N := N) (k := j) (by omega)
                rw [show N - j = 0 by omega, s1, s2] at hc
                obtain ⟨b, off, rfl, c0, c1, c2, c3, c4⟩ := hO.at (hT.below) ho
                clear ho s1 s2
                obtain ⟨ask, pl, nn, data, ka, kn, kc, keep⟩ := o
                unfold OpV.cells at hc
                simp only at hc c0 c1 c2 c3 c4 hask hsz
                generalize hS1 : str ((stopped (devB xs N j) 0).stepS ⟨ask, pl, nn, data, ka, kn, kc, keep⟩) = S1 at *
                go_wp2_with fail
                refine hc.mono ?_
                rintro e w4 ⟨rfl, hl⟩
                have hT4 := hgo hl
                rw [← hst] at hT4
                rw [show (0 : Nat) = N - (j + 1) by omega] at hT4
                have HT5 := hide hT4
                clear hl hgo hD hX X hc c0 c1 c2 c3 c4 hS1 hT4 hT
                go_wp2
                go_roundw
                case rel => exact ⟨j + 1, by omega, by go_num, HT5.out⟩
                case measure => simp [intOf]; omega
            · obtain rfl : j = k := by omega
              have hpl2 := devB_plain HA2.out (min j N)
              have hlen := devB_length xs N j
              have hcr : ∀ l, (stopped (devB xs N j) (N - j)).crash l = (devB xs N j).crash l := fun l => by
                have e : (devB xs N j).gone = false := hpl2.1
                simp [Dv.crash, stopped, e]
              have hg2 : ((devB xs N j).crash [1, 2, 0, 1]).gone = false := hpl2.1
              have hl2 : ((devB xs N j).crash [1, 2, 0, 1]).last.length = 20 := by
                show (crashes _ _ _).length = 20
                rw [crashes_length]
                exact hlen
              have hba : ((devB xs N j).crash [1, 2, 0, 1]).barrierA = 0 := by
                have e : (devB xs N j).gone = false := hpl2.1
                simp [Dv.barrierA, Dv.dead, Dv.crash, e]
              have hcr1 := hide (hcr [1, 2, 0, 1])
              clear hcr hpl2 hlen
              generalize hDc : (devB xs N j).crash [1, 2, 0, 1] = Dc at *
              have HDc := hide hDc
              clear hDc
              obtain ⟨r1, r2⟩ := read_fits (d := Dc) hg2 (a := 0) (n := 20) (A := 0) (N := 20) rfl rfl (by omega)
              generalize stopped (devB xs N j) (N - j) = A0 at *
              generalize devB xs N j = B at *
              obtain ⟨X, hD, hX, hgo⟩ := hT.go
              have hb8 := below_alloc wr (.cells #[.int .i64 1, .int .i64 2, .int .i64 0, .int .i64 1] 3)
              have hc := crash_any (hD.later hb8) (cap := 4) (Ks.new wr X [1, 2, 0, 1] (by simp [Num]) (by simp) hD.lt #[.int .i64 1, .int .i64 2, .int .i64 0, .int .i64 1] rfl)
              rw [hcr1.out] at hc
              simp only [List.length_cons, List.length_nil] at hc
              go_wp2_with fail
              refine hc.mono ?_
              rintro e w5 ⟨rfl, hl⟩
              replace hT := (hgo (hl.first hb8)).symm
              clear hl hgo hD hX X hc hb8
              obtain ⟨X, hD, hX, hgo⟩ := hT.go
              have hb8 := below_alloc w5 (.cells #[.int .i64 1, .int .i64 2, .int .i64 0, .int .i64 1] 3)
              have hc := crash_any (hD.later hb8) (cap := 4) (Ks.new w5 X [1, 2, 0, 1] (by simp [Num]) (by simp) hD.lt #[.int .i64 1, .int .i64 2, .int .i64 0, .int .i64 1] rfl)
              rw [HDc.out] at hc
              simp only [List.length_cons, List.length_nil] at hc
              go_wp2_with fail
              refine hc.mono ?_
              rintro e w6 ⟨rfl, hl⟩
              replace hT := (hgo (hl.first hb8)).symm
              clear hl hgo hD hX X hc hb8
              obtain ⟨X, hD, hX, hgo⟩ := hT.go
              have hc := read_any hD 0 20 (by omega) (by omega)
              rw [r1] at hc
              generalize hS : str (Dc.readS 0 20) = S at *
              have HS := hide hS
              clear hS
              go_wp2_with fail
              refine hc.mono ?_
              rintro e w7 ⟨rfl, hl⟩
              replace hT := (hT.later hl).symm
              clear hl hgo hD hX X hc
              obtain ⟨X, hD, hX, hgo⟩ := hT.go
              have hc := read_any hD 0 20 (by omega) (by omega)
              rw [r1, HS.out] at hc
              go_wp2_with fail
              refine hc.mono ?_
              rintro e w8 ⟨rfl, hl⟩
              replace hT := (hT.later hl).symm
              clear hl hgo hD hX X hc
              obtain ⟨X, hD, hX, hgo⟩ := hT.go
              have hc := barrier_any hD
              rw [hba] at hc
              have q1 : (S.toList == S.toList) = true := beq_lists rfl
              go_wp2_with fail
              refine hc.mono ?_
              rintro e w9 ⟨rfl, hl⟩
              have hbb := hide (hgo hl).below
              clear hl hgo hD hX X hc hT
              go_wp2_with fail
              refine (awake_any _).mono ?_
              rintro e w10 ⟨rfl, hb10⟩
              go_wp2
              go_ret
              exact ⟨rfl, hbb.out.trans (hb10.mono hbb.out.size)⟩

end Wi
end Go.Proofs.Ytdcnjaomocehmaa
