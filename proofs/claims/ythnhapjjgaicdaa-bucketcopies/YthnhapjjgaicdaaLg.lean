/- The law BucketLists: List of what names begin with is those of all names that do. -/
import Derived.Test.YthnhapjjgaicdaaLf
import Derived.Test.YthnhapjjgaicdaaYa
namespace Go.Proofs.Ythnhapjjgaicdaa
open Go.RowKit
namespace Wi

theorem call_calm {d : Bk} {c : Ch} (h : d.fates = []) : (d.call c).fates = [] := by
  have h1 : d.next.fates = [] := by show d.fates.tail = []; rw [h]; rfl
  unfold Bk.call
  split
  · rw [(act_same d.next c).1]; exact h1
  · split <;> exact h1
theorem step_calm {d : Bk} {o : OpV} (h : d.fates = []) (h5 : o.ask ≠ 5) : (d.step o).fates = [] := by
  have h1 : d.next.fates = [] := by show d.fates.tail = []; rw [h]; rfl
  have ha : ∀ b, (d.ask b).fates = [] := fun b => by cases b; exact h; exact h1
  unfold Bk.step
  split
  · unfold Bk.put
    split
    · exact call_calm h
    · exact h
  · split
    · exact ha _
    · split
      · exact ha _
      · split
        · exact h1
        · split
          · unfold Bk.del
            split
            · exact call_calm h
            · exact h
          · split
            · rw [(land_few d o.n).2]; exact h
            · exact h
theorem lists_end {k : Nat} {d : Bk} (h : Fine k d) (hf : d.fates = []) (p : ByteArray) : ∃ L L4 : List ByteArray, d.objs.map (·.1) = L ∧ d.listL { data := #[] } = L ∧ d.listE = 0 ∧ d.next = d ∧ d.listL p = L4 ∧ L4 = L.filter (fun t => begins t p) ∧ L.length ≤ k ∧ (∀ i a b, L[i]? = some a → L[i + 1]? = some b → cmpB a b < 0) ∧ ∀ s ∈ L, s.size ≤ 64 := by
  have h0 : d.fate0 = 0 := by simp [Bk.fate0, hf]
  have hnx : d.next = d := by
    obtain ⟨o, q, f, l⟩ := d
    simp only at hf
    subst hf
    rfl
  refine ⟨_, _, rfl, ?_, ?_, hnx, rfl, ?_, ?_, ?_, ?_⟩
  · rw [Bk.listL, if_pos h0, namesOf_all]
  · rw [Bk.listE, if_pos h0]
  · rw [Bk.listL, if_pos h0, namesOf, List.filter_map]
    rfl
  · rw [List.length_map]
    have := h.few
    omega
  · intro i a b ha hb
    rw [List.getElem?_map] at ha hb
    obtain ⟨x, hx, rfl⟩ := Option.map_eq_some_iff.1 ha
    obtain ⟨y, hy, rfl⟩ := Option.map_eq_some_iff.1 hb
    exact h.ok.rise.at hx hy (by omega)
  · intro s hs
    obtain ⟨o, ho, rfl⟩ := List.mem_map.1 hs
    exact h.nm.names o ho
set_option maxHeartbeats 8000000 in
set_option maxRecDepth 20000 in
theorem bucketLists_walk (a : Option Addr) (n cap : Nat) (xs : List OpV) (p : ByteArray) (W : World) (hO : Os W a n xs) (hp : p.size ≤ 9223372036854775807) : Calls Try.prog 9 #[.slice a n cap, .string p] W fun e w' => e = .returned (.bool true) ∧ Below W.heap.size W w' := by
  have hn := hO.most
  have HL := hide hO.len
  have hnw := new_any 2000 (by omega) W
  cases hB : fewB xs with
  | false =>
    go_enter Try.func9, Try.ntmps9
    go_wp2_with fail
    refine hnw.mono ?_
    rintro e w1 ⟨rfl, hN, hb1⟩
    have hfw := few_any (cap := cap) (hO.later hb1)
    rw [hB] at hfw
    have hbb := hide hb1
    clear hN hb1 hnw
    go_wp2_with fail
    refine hfw.mono ?_
    rintro e w' ⟨rfl, rfl⟩
    clear hfw
    go_wp2_with fail
    refine (awake_any _).mono ?_
    rintro e w9 ⟨rfl, hb9⟩
    go_wp2
    go_ret
    exact ⟨rfl, hbb.out.trans (hb9.mono hbb.out.size)⟩
  | true =>
    obtain ⟨hgood, h60⟩ := fewB_iff.1 hB
    have HG := hide hgood
    clear hgood
    by_cases h1 : 70 < p.size
    · skip
      go_enter Try.func9, Try.ntmps9
      go_wp2_with fail
      refine hnw.mono ?_
      rintro e w1 ⟨rfl, hN, hb1⟩
      have hfw := few_any (cap := cap) (hO.later hb1)
      rw [hB] at hfw
      have hbb := hide hb1
      clear hN hb1 hnw
      go_wp2_with fail
      refine hfw.mono ?_
      rintro e w' ⟨rfl, rfl⟩
      clear hfw
      go_wp2_with fail
      refine (awake_any _).mono ?_
      rintro e w9 ⟨rfl, hb9⟩
      go_wp2
      go_ret
      exact ⟨rfl, hbb.out.trans (hb9.mono hbb.out.size)⟩
    · skip
      go_enter Try.func9, Try.ntmps9
      go_wp2_with fail
      refine hnw.mono ?_
      rintro e w1 ⟨rfl, hN, hb1⟩
      have hfw := few_any (cap := cap) (hO.later hb1)
      rw [hB] at hfw
      have hM : Mine W w1 (bkT W.heap.size (bk0 2000)) := let ⟨X, h1, h2⟩ := hN; ⟨X, h1, h2, hb1⟩
      clear hN hb1 hnw
      go_wp2_with fail
      refine hfw.mono ?_
      rintro e w' ⟨rfl, rfl⟩
      clear hfw
      have HM := hide hM
      clear hM
      go_wp2
      go_loopw [7] (fun i wr => ∃ (k : Nat) (d : Bk), k ≤ n ∧ i = .int .i64 k ∧ Mine W wr (bkT W.heap.size d) ∧ Fine k d ∧ Hid (d.fates = [])) (fun i _ => n - (intOf i).toNat)
      case atStart => exact ⟨0, _, Nat.zero_le _, rfl, HM.out, fine_start (by omega), rfl⟩
      case round =>
        clear HM
        obtain ⟨k, d, hk, rfl, hM, hS, HF⟩ := hrel
        have HS := hide hS
        have s1 := hS.few
        have s2 := hS.fates
        clear hS
        by_cases hlt : k < n
        · obtain ⟨o, ho⟩ : ∃ o, xs[k]? = some o := ⟨_, List.getElem?_eq_getElem (by have := HL.out; omega)⟩
          have hmem := List.mem_of_getElem? ho
          have hgd := HG.out o hmem
          have hok := hO.ok o hmem
          have hk60 : k < 60 := by have := HL.out; omega
          obtain ⟨g, off, rfl, hgl, hrg⟩ := hO.cells k o ho
          obtain ⟨c0, c1, c2, c3, c4, c5⟩ := op_cells (op_at hM.below hgl hrg)
          clear ho hmem hrg
          by_cases h5 : o.ask = 5
          · rw [h5] at c0
            have HM := hide hM
            have HS2 := hide HS.out.skip
            clear hM h5
            go_wp2
            go_roundw
            case rel => exact ⟨k + 1, d, by omega, by go_num, HM.out, HS2.out, HF⟩
            case measure => simp [intOf]; omega
          · obtain ⟨X, hT, hX, hgo⟩ := hM.go1
            have hc := does_any hT (by omega) (by omega) HS.out.sizes o (hok.to hM.below hX) (by unfold badO at hgd; omega)
            have HS2 := hide (HS.out.step hok hgd)
            have HF2 : Hid ((d.step o).fates = []) := step_calm HF.out h5
            have v5 : (o.ask == 5) = false := by rw [beq_eq_false_iff_ne]; exact h5
            clear HS hok hgd hT hX h5 HF
            obtain ⟨ask, name, data, pl, nn, la, ln, lc, l⟩ := o
            unfold OpV.cells at *
            simp only at *
            generalize d.step ⟨ask, name, data, pl, nn, la, ln, lc, l⟩ = d' at *
            generalize d.stepE ⟨ask, name, data, pl, nn, la, ln, lc, l⟩ = E at *
            generalize d.stepS ⟨ask, name, data, pl, nn, la, ln, lc, l⟩ = S at *
            generalize d.stepN ⟨ask, name, data, pl, nn, la, ln, lc, l⟩ = N at *
            go_wp2_with fail
            refine hc.mono ?_
            rintro e w3 ⟨v, rfl, hd⟩
            have HM := hide (hgo hd.left)
            clear hc hd hgo hM
            go_wp2
            go_roundw
            case rel => exact ⟨k + 1, _, by omega, by go_num, HM.out, HS2.out, HF2⟩
            case measure => simp [intOf]; omega
        · obtain rfl : k = n := by omega
          obtain ⟨L, L4, f1, f2, f3, f4, f5, f6, f7, f8, f9⟩ := lists_end HS.out HF.out p
          have F8 := hide f8
          have F9 := hide f9
          have F6 := hide f6
          have h60' : k ≤ 60 := by have := HL.out; omega
          have hsizes := hide HS.out.sizes
          obtain ⟨X, hT, hX, _⟩ := hM.go1
          have hc := names_any hT (by omega) hsizes.out
          rw [f1] at hc
          clear hT hX f8 f9 f6 HS HF hlt
          have HM := hide hM
          clear hM
          go_wp2_with fail
          refine hc.mono ?_
          rintro e w2 ⟨v2, rfl, hN2⟩
          obtain ⟨a2, cap2, rfl⟩ := hN2.row.form
          have hM2 := (HM.out.new (bkT_good _ _) hN2.below hN2.ls).swap
          clear hc hN2 HM
          obtain ⟨X, hT, hX, hgo⟩ := hM2.go (lsT_good _ _)
          have hc := list_any hT (by omega) (by omega) hsizes.out { data := #[] } (by show 0 ≤ _; omega)
          rw [f2, f3, f4] at hc
          clear hT hX hM2
          go_wp2_with fail
          refine hc.mono ?_
          rintro e w3 ⟨v3, w3', rfl, hl3, hN3⟩
          obtain ⟨a3, cap3, rfl⟩ := hN3.row.form
          have hM3 := ((hgo hl3).new ((bkT_good _ _).and (lsT_good _ _)) hN3.below hN3.ls).rot
          clear hc hl3 hN3 hgo
          obtain ⟨X, hT, hX, hgo⟩ := hM3.go ((lsT_good _ _).and (lsT_good _ _))
          have hc := list_any hT (by omega) (by omega) hsizes.out p (by omega)
          rw [f5, f3, f4] at hc
          clear hT hX hM3
          go_wp2_with fail
          refine hc.mono ?_
          rintro e w5 ⟨v4, w4, rfl, hl4, hN4⟩
          obtain ⟨a4, cap4, rfl⟩ := hN4.row.form
          have hM5 := (hgo hl4).new ((bkT_good _ _).and ((lsT_good _ _).and (lsT_good _ _))) hN4.below hN4.ls
          clear hc hl4 hN4 hgo
          have HB5 := hide hM5.below
          obtain ⟨Z, ⟨_, _, ⟨r4, _⟩, ⟨_, _, _, ⟨_, _, ⟨r3, _⟩, ⟨r2, _⟩, _⟩, _⟩, _⟩, _⟩ := hM5
          have hL4 : L4.length ≤ 60 := by rw [F6.out]; exact Nat.le_trans (List.length_filter_le _ _) (by omega)
          obtain ⟨n2, hn2⟩ : ∃ n2, n2 = L.length := ⟨_, rfl⟩
          obtain ⟨n4, hn4⟩ : ∃ n4, n4 = L4.length := ⟨_, rfl⟩
          have R2 : Hid (Rw w5 9 1 (.slice a2 n2 cap2) L.length (encN L)) := by show Rw _ _ _ _ _ _; rw [hn2]; exact r2
          have R3 : Hid (Rw w5 9 1 (.slice a3 n2 cap3) L.length (encN L)) := by show Rw _ _ _ _ _ _; rw [hn2]; exact r3
          have R4 : Hid (Rw w5 9 1 (.slice a4 n4 cap4) L4.length (encN L4)) := by show Rw _ _ _ _ _ _; rw [hn4]; exact r4
          have R2r : Hid (Rw w5 9 1 (.slice a2 L.length cap2) L.length (encN L)) := r2
          have hnl : n2 ≤ 60 := by omega
          have hnl4 : n4 ≤ 60 := by omega
          rw [← hn2, ← hn4]
          have HN2 := hide hn2
          have HN4 := hide hn4
          clear r2 r3 r4 hn2 hn4 f1 f2 f3 f4 f5 f7 hL4 s1 s2 hsizes
          obtain ⟨i0, hi, hz0, hz1, hz2⟩ := info_parts info9
          go_wp2
          go_loopw [13, 14] (fun v i wr => ∃ k : Nat, k ≤ n2 ∧ i = .int .i64 k ∧ NewSs w5 ((L.take k).filter fun t => begins t p) wr v) (fun _ i _ => n2 - (intOf i).toNat)
          case atStart => exact ⟨0, Nat.zero_le _, rfl, by rw [List.take_zero]; exact ⟨Rw.nil _ _ _, From.nil _ _ _, Below.refl _ _⟩⟩
          case round =>
            obtain ⟨k, hk, rfl, hN⟩ := hrel
            by_cases hlt : k < n2
            · obtain ⟨s, hs⟩ : ∃ s, L[k]? = some s := ⟨_, List.getElem?_eq_getElem (by rw [← HN2.out]; exact hlt)⟩
              have hsz := F9.out s (List.mem_of_getElem? hs)
              have he : (encN L)[k]? = some (.string s) := by simp [encN, hs]
              obtain ⟨g, off, c', e1, hg1, _⟩ := R2.out.pos (by rw [← HN2.out]; omega)
              injection e1 with x1 x2 x3
              subst x1 x3
              clear x2
              have Q2 : Hid (∀ wx, Below w5.heap.size w5 wx → wx.cell? ⟨g, off + k, none⟩ = some (.string s) ∧ True) := fun wx hb => ⟨(hb.cell (p := ⟨g, off + k, none⟩) hg1).trans (R2r.out.cell he).1, trivial⟩
              have Q3 : Hid (0 < k → ∃ s0, (∀ wx, Below w5.heap.size w5 wx → wx.cell? ⟨g, off + (k - 1), none⟩ = some (.string s0)) ∧ cmpB s0 s < 0) := fun h0 => by
                obtain ⟨s0, hs0⟩ : ∃ s0, L[k - 1]? = some s0 := ⟨_, List.getElem?_eq_getElem (by rw [← HN2.out]; omega)⟩
                refine ⟨s0, fun wx hb => (hb.cell (p := ⟨g, off + (k - 1), none⟩) hg1).trans (R2r.out.cell (by simp [encN, hs0])).1, F8.out (k - 1) s0 s hs0 (by rw [show k - 1 + 1 = k by omega]; exact hs)⟩
              have HT := hide (snoc_take _ _ _ hs)
              have c0 := (Q2.out _ hN.below).1
              clear he hs
              by_cases h : p.size ≤ s.size
              · obtain ⟨T, hT⟩ : ∃ T, s.extract 0 p.size = T := ⟨_, rfl⟩
                by_cases h2 : T = p
                · have BG : Hid (begins s p = true) := by show _ = _; rw [begins_eq]; exact decide_eq_true ⟨h, hT.trans h2⟩
                  have v1 : (T.toList == p.toList) = true := beq_lists h2
                  clear h2
                  have hb4 := below_alloc wr (.cells #[.string s] 9)
                  have hN4 := hN.later hb4
                  have hrow := hide hN4.row
                  have HN4 := hide hN4
                  have hcn := cell_one_new wr (.string s) 9
                  have HCN := hide hcn
                  have HON : Hid (∀ u ∈ [Value.string s], u.oneCell' = true) := fun u hu => by rw [List.mem_singleton.1 hu]; rfl
                  have hlen : ((L.take k).filter fun t => begins t p).length ≤ k := Nat.le_trans (List.length_filter_le _ _) (by rw [List.length_take]; omega)
                  have hmx : ((L.take k).filter fun t => begins t p).length + 1 ≤ maxLen := by unfold maxLen; omega
                  have hby : (((L.take k).filter fun t => begins t p).length + 1) * 16 ≤ 140737488355328 := by omega
                  clear hN hN4 hcn hb4 hlen
                  go_wp2_with (at_builtin; refine wpList_append_rw rfl (.tmp 100) (.tmp 105) 36 rfl 9 i0 _ 1 16 Try.underlying36 hi hz0 hz1 hz2 rfl (by decide) _ _ _ rfl hrow.out ⟨wr.heap.size, 0, none⟩ 1 1 [.string s] rfl rfl HCN.out HON.out hmx hby ?_; intro v2 w3 g1 g2 g3; replace g1 := hide g1; replace g2 := hide g2; replace g3 := hide g3)
                  have HF : Hid (NewSs w5 ((L.take (k + 1)).filter fun t => begins t p) w3 v2) := by
                    have := HN4.out.push (Below.refl _ _) g1.out g2.out g3.out
                    show NewSs _ _ _ _
                    rw [HT.out, List.filter_append, List.filter_cons, BG.out]
                    exact this
                  clear g1 g2 g3
                  have k2 : ∀ q : Later w3, q.val.cell? ⟨g, off + k, none⟩ = some (.string s) := fun q => (Q2.out _ (HF.out.later q.below).below).1
                  have hne := later_ne w3
                  by_cases hk0 : 0 < k
                  · obtain ⟨s0, hs0, hlt0⟩ := Q3.out hk0
                    have k1 : ∀ q : Later w3, q.val.cell? ⟨g, off + (k - 1), none⟩ = some (.string s0) := fun q => hs0 _ (HF.out.later q.below).below
                    have k1' : ∀ q : Later w3, q.val.cell? ⟨g, off + ((k : Int) - 1).toNat, none⟩ = some (.string s0) := fun q => by rw [show ((k : Int) - 1).toNat = k - 1 by omega]; exact k1 q
                    have vl := less_cmpB hlt0
                    have hd : decide ((0 : Int) < (k : Int)) = true := by simp; omega
                    clear hs0 hlt0
                    refine wp_region_later (by kernel_rfl) (by kernel_rfl) ?_
                    (repeat (first | go_big_quiet_skip | (go_big_quiet_want; go_big_quiet_op; go_big_quiet_on)))
                    refine wpQuiet_nil ?_
                    rintro _ ⟨r, rfl⟩
                    have HF2 := hide (HF.out.later r.below)
                    clear HF k1 k1' k2 hne
                    generalize r.val = wz at *
                    go_wp2
                    go_roundw
                    case rel => exact ⟨k + 1, by omega, by go_num, HF2.out⟩
                    case measure => simp [intOf]; omega
                  · have hd : decide ((0 : Int) < (k : Int)) = false := by simp; omega
                    refine wp_region_later (by kernel_rfl) (by kernel_rfl) ?_
                    (repeat (first | go_big_quiet_skip | (go_big_quiet_want; go_big_quiet_op; go_big_quiet_on)))
                    refine wpQuiet_nil ?_
                    rintro _ ⟨r, rfl⟩
                    have HF2 := hide (HF.out.later r.below)
                    clear HF k2 hne
                    generalize r.val = wz at *
                    go_wp2
                    go_roundw
                    case rel => exact ⟨k + 1, by omega, by go_num, HF2.out⟩
                    case measure => simp [intOf]; omega
                · have BG : Hid (begins s p = false) := by show _ = _; rw [begins_eq]; exact decide_eq_false fun hh => h2 (hT.symm.trans hh.2)
                  have v1 : (T.toList == p.toList) = false := bne_lists h2
                  clear h2
                  have HF : Hid (NewSs w5 ((L.take (k + 1)).filter fun t => begins t p) wr u13) := by
                    show NewSs _ _ _ _
                    rw [HT.out, List.filter_append, List.filter_cons, BG.out]
                    simpa using hN
                  clear hN
                  go_wp2
                  have k2 : ∀ q : Later wr, q.val.cell? ⟨g, off + k, none⟩ = some (.string s) := fun q => (Q2.out _ (HF.out.later q.below).below).1
                  have hne := later_ne wr
                  by_cases hk0 : 0 < k
                  · obtain ⟨s0, hs0, hlt0⟩ := Q3.out hk0
                    have k1 : ∀ q : Later wr, q.val.cell? ⟨g, off + (k - 1), none⟩ = some (.string s0) := fun q => hs0 _ (HF.out.later q.below).below
                    have k1' : ∀ q : Later wr, q.val.cell? ⟨g, off + ((k : Int) - 1).toNat, none⟩ = some (.string s0) := fun q => by rw [show ((k : Int) - 1).toNat = k - 1 by omega]; exact k1 q
                    have vl := less_cmpB hlt0
                    have hd : decide ((0 : Int) < (k : Int)) = true := by simp; omega
                    clear hs0 hlt0
                    refine wp_region_later (by kernel_rfl) (by kernel_rfl) ?_
                    (repeat (first | go_big_quiet_skip | (go_big_quiet_want; go_big_quiet_op; go_big_quiet_on)))
                    refine wpQuiet_nil ?_
                    rintro _ ⟨r, rfl⟩
                    have HF2 := hide (HF.out.later r.below)
                    clear HF k1 k1' k2 hne
                    generalize r.val = wz at *
                    go_wp2
                    go_roundw
                    case rel => exact ⟨k + 1, by omega, by go_num, HF2.out⟩
                    case measure => simp [intOf]; omega
                  · have hd : decide ((0 : Int) < (k : Int)) = false := by simp; omega
                    refine wp_region_later (by kernel_rfl) (by kernel_rfl) ?_
                    (repeat (first | go_big_quiet_skip | (go_big_quiet_want; go_big_quiet_op; go_big_quiet_on)))
                    refine wpQuiet_nil ?_
                    rintro _ ⟨r, rfl⟩
                    have HF2 := hide (HF.out.later r.below)
                    clear HF k2 hne
                    generalize r.val = wz at *
                    go_wp2
                    go_roundw
                    case rel => exact ⟨k + 1, by omega, by go_num, HF2.out⟩
                    case measure => simp [intOf]; omega
              · have BG : Hid (begins s p = false) := by show _ = _; rw [begins_eq]; exact decide_eq_false fun hh => h hh.1
                have HF : Hid (NewSs w5 ((L.take (k + 1)).filter fun t => begins t p) wr u13) := by
                  show NewSs _ _ _ _
                  rw [HT.out, List.filter_append, List.filter_cons, BG.out]
                  simpa using hN
                clear hN
                go_wp2
                have k2 : ∀ q : Later wr, q.val.cell? ⟨g, off + k, none⟩ = some (.string s) := fun q => (Q2.out _ (HF.out.later q.below).below).1
                have hne := later_ne wr
                by_cases hk0 : 0 < k
                · obtain ⟨s0, hs0, hlt0⟩ := Q3.out hk0
                  have k1 : ∀ q : Later wr, q.val.cell? ⟨g, off + (k - 1), none⟩ = some (.string s0) := fun q => hs0 _ (HF.out.later q.below).below
                  have k1' : ∀ q : Later wr, q.val.cell? ⟨g, off + ((k : Int) - 1).toNat, none⟩ = some (.string s0) := fun q => by rw [show ((k : Int) - 1).toNat = k - 1 by omega]; exact k1 q
                  have vl := less_cmpB hlt0
                  have hd : decide ((0 : Int) < (k : Int)) = true := by simp; omega
                  clear hs0 hlt0
                  refine wp_region_later (by kernel_rfl) (by kernel_rfl) ?_
                  (repeat (first | go_big_quiet_skip | (go_big_quiet_want; go_big_quiet_op; go_big_quiet_on)))
                  refine wpQuiet_nil ?_
                  rintro _ ⟨r, rfl⟩
                  have HF2 := hide (HF.out.later r.below)
                  clear HF k1 k1' k2 hne
                  generalize r.val = wz at *
                  go_wp2
                  go_roundw
                  case rel => exact ⟨k + 1, by omega, by go_num, HF2.out⟩
                  case measure => simp [intOf]; omega
                · have hd : decide ((0 : Int) < (k : Int)) = false := by simp; omega
                  refine wp_region_later (by kernel_rfl) (by kernel_rfl) ?_
                  (repeat (first | go_big_quiet_skip | (go_big_quiet_want; go_big_quiet_op; go_big_quiet_on)))
                  refine wpQuiet_nil ?_
                  rintro _ ⟨r, rfl⟩
                  have HF2 := hide (HF.out.later r.below)
                  clear HF k2 hne
                  generalize r.val = wz at *
                  go_wp2
                  go_roundw
                  case rel => exact ⟨k + 1, by omega, by go_num, HF2.out⟩
                  case measure => simp [intOf]; omega
            · obtain rfl : k = n2 := by omega
              rw [List.take_of_length_le (by rw [← HN2.out]; exact Nat.le_refl _), ← F6.out] at hN
              have hfv := hN.row.form
              obtain ⟨av, cv, hv⟩ := hfv
              rw [← HN4.out] at hv
              have ht1 := texts_same (R3.out.later hN.below) (R2.out.later hN.below) HN2 (by omega)
              have HNN := hide hN
              clear hN
              subst hv
              go_wp2_with fail
              refine ht1.mono ?_
              rintro e w6 ⟨rfl, hb6⟩
              have ht2 := texts_same (R4.out.later (HNN.out.below.trans (hb6.mono HNN.out.below.size))) (HNN.out.row.later hb6) HN4 (by omega)
              have HB6 := hide (HB5.out.trans ((HNN.out.below.trans (hb6.mono HNN.out.below.size)).mono HB5.out.size))
              clear ht1 hb6 HNN
              go_wp2_with fail
              refine ht2.mono ?_
              rintro e w7 ⟨rfl, hb7⟩
              have hbb := hide (HB6.out.trans (hb7.mono HB6.out.size))
              clear ht2 hb7 HB6
              go_wp2_with fail
              refine (awake_any _).mono ?_
              rintro e w9 ⟨rfl, hb9⟩
              go_wp2
              go_ret
              exact ⟨rfl, hbb.out.trans (hb9.mono hbb.out.size)⟩

end Wi
end Go.Proofs.Ythnhapjjgaicdaa
