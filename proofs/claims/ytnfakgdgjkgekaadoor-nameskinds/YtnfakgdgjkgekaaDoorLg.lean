/- The law NamesKinds: each name is sifted by its own volume and kind, and by no other kind of it. -/
import Derived.Test.YtnfakgdgjkgekaaDoorWv
import Derived.Test.YtnfakgdgjkgekaaDoorWr
namespace Go.Proofs.YtnfakgdgjkgekaaDoor
open Go.RowKit
namespace Wi

/-- What stays as it is while the kinds are tried. -/
structure Seen (W : World) (P : Nat) (a : Option Addr) (n : Nat) (xs : List NmV) (xa : Option Addr) (m : Nat) (V : ByteArray) (Z Q : Int) (w : World) : Prop where
  tz : Tz w
  ns : Ns w a n xs
  ss : Ss w xa m (txt xs)
  v : w.cell? ⟨P, 0, none⟩ = some (.string V)
  z : w.cell? ⟨P, 1, none⟩ = some (.int .i64 Z)
  q : w.cell? ⟨P, 2, none⟩ = some (.int .i64 Q)
  lt : P < w.heap.size
  below : Below W.heap.size W w
theorem Seen.later {W : World} {P : Nat} {a : Option Addr} {n : Nat} {xs : List NmV} {xa : Option Addr} {m : Nat} {V : ByteArray} {Z Q : Int} {w w' : World} (h : Seen W P a n xs xa m V Z Q w) (hb : Below w.heap.size w w') : Seen W P a n xs xa m V Z Q w' :=
  ⟨h.tz.later hb, h.ns.later hb, h.ss.later hb, (hb.cell (p := ⟨P, 0, none⟩) h.lt).trans h.v, (hb.cell (p := ⟨P, 1, none⟩) h.lt).trans h.z, (hb.cell (p := ⟨P, 2, none⟩) h.lt).trans h.q, Nat.lt_of_lt_of_le h.lt hb.size, h.below.trans (hb.mono h.below.size)⟩
theorem sift_short (ts : List ByteArray) (v : ByteArray) (z : Int) : (SR (siftL ts v z)).length ≤ ts.length := by
  refine Nat.le_trans (SR_length _) ?_
  unfold siftL
  rw [List.length_map]
  exact List.length_filter_le _ _
theorem rises {L : List Int} (h : L.Pairwise (· < ·)) {i : Nat} {x y : Int} (hx : L[i]? = some x) (hy : L[i + 1]? = some y) : x < y := by
  obtain ⟨h1, rfl⟩ := List.getElem?_eq_some_iff.1 hx
  obtain ⟨h2, rfl⟩ := List.getElem?_eq_some_iff.1 hy
  exact List.pairwise_iff_getElem.1 h _ _ h1 h2 (by omega)
set_option maxRecDepth 20000 in
set_option maxHeartbeats 64000000 in
theorem namesKinds_walk (a : Option Addr) (n cap : Nat) (xs : List NmV) (t : Int) (W : World) (T : Tz W) (hS : Ns W a n xs) (ht : Num t) : Calls Tryd.prog 9 #[.slice a n cap, .int .i64 t] W fun e w' => e = .returned (.bool true) ∧ Below W.heap.size W w' := by
  have hn := hS.most
  obtain ⟨t1, t2⟩ := ht
  by_cases h1 : 20 < n
  · have HB := hide (Below.refl W.heap.size W)
    go_enter Tryd.func9, Tryd.ntmps9
    go_wp2_with fail
    refine (awake_any _ (T.later HB.out)).mono ?_
    rintro e w9 ⟨rfl, hb9⟩
    go_wp2
    go_ret
    exact ⟨rfl, HB.out.trans (hb9.mono HB.out.size)⟩
  · by_cases h0 : n = 0
    · subst h0
      have HB := hide (Below.refl W.heap.size W)
      go_enter Tryd.func9, Tryd.ntmps9
      go_wp2_with fail
      refine (awake_any _ (T.later HB.out)).mono ?_
      rintro e w9 ⟨rfl, hb9⟩
      go_wp2
      go_ret
      exact ⟨rfl, HB.out.trans (hb9.mono HB.out.size)⟩
    · have HL := hide hS.len
      have H0 : Hid (NewS W (txt (xs.take 0)) 0 W (.slice none 0 0)) := NewS.nil (Below.refl _ _)
      have hnb : ((n : Int) == 0) = false := by rw [beq_eq_false_iff_ne]; omega
      go_enter Tryd.func9, Tryd.ntmps9
      go_wp2
      go_loopw [5, 6] (fun x i wr => ∃ (k m : Nat), k ≤ n ∧ m ≤ k ∧ i = .int .i64 k ∧ NewS W (txt (xs.take k)) m wr x) (fun _ i _ => n - (intOf i).toNat)
      case atStart => exact ⟨0, 0, Nat.zero_le _, Nat.le_refl _, rfl, H0.out⟩
      case round =>
        clear H0
        obtain ⟨k, m, hk, hm, rfl, hN⟩ := hrel
        have HN := hide hN
        obtain ⟨xa, xc, hx5⟩ := hN.row.form
        subst hx5
        by_cases hlt : k < n
        · obtain ⟨o, ho⟩ : ∃ o, xs[k]? = some o := ⟨_, List.getElem?_eq_getElem (by have := HL.out; omega)⟩
          have hok := hS.ok o (List.mem_of_getElem? ho)
          obtain ⟨b, off, rfl, hbl, hr⟩ := (hS.later hN.below).cells k o ho
          obtain ⟨c0, c1, c2⟩ := nm_cells hr
          have HT := hide (txt_snoc ho)
          have hpr := print_any o.v hok.v o.k o.q hok.k hok.q wr (T.later hN.below)
          have hfv := hok.v
          clear hr ho hok hN
          obtain ⟨V, Z, Q⟩ := o
          simp only at *
          by_cases h100 : 100 < V.size
          · generalize prnE V Z Q = E at *
            generalize prnS V Z Q = S at *
            clear HT
            go_wp2_with fail
            refine hpr.mono ?_
            rintro e w1 ⟨rfl, hb1⟩
            have d0 := (hb1.cell (p := ⟨b, off + k * 3, none⟩) hbl).trans c0
            have HB := hide (HN.out.later hb1).below
            clear hpr c0 c1 c2 hbl hb1
            go_wp2_with fail
            refine (awake_any _ (T.later HB.out)).mono ?_
            rintro e w9 ⟨rfl, hb9⟩
            go_wp2
            go_ret
            exact ⟨rfl, HB.out.trans (hb9.mono HB.out.size)⟩
          · by_cases hE : prnE V Z Q = 0
            · have HT2 : Hid (txt (xs.take (k + 1)) = txt (xs.take k) ++ [prnS V Z Q]) := by show _ = _; rw [HT.out]; simp [okN, hE]
              rw [hE] at hpr
              clear HT hE
              generalize prnS V Z Q = S at *
              go_wp2_with fail
              refine hpr.mono ?_
              rintro e w1 ⟨rfl, hb1⟩
              have d0 := (hb1.cell (p := ⟨b, off + k * 3, none⟩) hbl).trans c0
              have HN1 := hide (HN.out.later hb1)
              have HN2 := hide (HN1.out.later (below_alloc w1 (.cells #[.string S] 9)))
              have hcS : Hid ((w1.alloc (.cells #[.string S] 9)).cell? ⟨w1.heap.size, 0, none⟩ = some (.string S)) := by show _ = _; rw [cell_of_row _ _ _ _ _ _ (heap_alloc_new w1 _)]; rfl
              have hx1 : m + 1 ≤ maxLen := by unfold maxLen; omega
              have hx2 : (m + 1) * 16 ≤ 140737488355328 := by omega
              clear hpr c0 c1 c2 hbl hb1
              go_wp2_with (at_builtin; refine append37 rfl (.tmp 53) (.tmp 55) rfl _ m _ rfl HN2.out.row _ 1 S rfl hcS.out hx1 hx2 ?_; intro v2 w2 g1 g2 g3; replace g1 := hide g1; replace g2 := hide g2; replace g3 := hide g3)
              have HFF : Hid (NewS W (txt (xs.take (k + 1))) (m + 1) w2 v2) := by
                have := HN2.out.grow (Below.refl _ _) g1.out g2.out g3.out
                rw [← HT2.out] at this
                exact this
              clear g1 g2 g3
              go_roundw
              case rel => exact ⟨k + 1, m + 1, by omega, by omega, by go_num, HFF.out⟩
              case measure => simp [intOf]; omega
            · have HT2 : Hid (txt (xs.take (k + 1)) = txt (xs.take k)) := by show _ = _; rw [HT.out]; simp [okN, hE]
              have b1 : (prnE V Z Q == 0) = false := by rw [beq_eq_false_iff_ne]; exact hE
              clear HT hE
              generalize prnS V Z Q = S at *
              generalize prnE V Z Q = E at *
              go_wp2_with fail
              refine hpr.mono ?_
              rintro e w1 ⟨rfl, hb1⟩
              have d0 := (hb1.cell (p := ⟨b, off + k * 3, none⟩) hbl).trans c0
              have HFF : Hid (NewS W (txt (xs.take (k + 1))) m w1 (.slice xa m xc)) := by
                have := HN.out.later hb1
                rw [← HT2.out] at this
                exact this
              clear hpr c0 c1 c2 hbl hb1
              go_wp2
              go_roundw
              case rel => exact ⟨k + 1, m, by omega, by omega, by go_num, HFF.out⟩
              case measure => simp [intOf]; omega
        · obtain rfl : k = n := by omega
          have hTT : xs.take k = xs := List.take_of_length_le (by have := HL.out; omega)
          rw [hTT] at HN
          clear hTT hN hlt hk
          obtain ⟨r, j, r1, r2, r3, hj, r4⟩ := spot_of t k (by omega)
          obtain ⟨o, ho⟩ : ∃ o, xs[j]? = some o := ⟨_, List.getElem?_eq_getElem (by have := HL.out; omega)⟩
          have HMEM := hide (List.mem_of_getElem? ho)
          obtain ⟨hv, hz, hq⟩ := hS.ok o HMEM.out
          have hns := hS.later HN.out.below
          obtain ⟨b, off, ha, hbl, hr⟩ := hns.cells j o ho
          obtain ⟨c0, c1, c2⟩ := nm_cells hr
          obtain ⟨V, Z, Q⟩ := o
          simp only at *
          have hb0 := below_alloc wr (.cells #[.string V, .int .i64 Z, .int .i64 Q] 23)
          have hN0 := heap_alloc_new wr (.cells #[.string V, .int .i64 Z, .int .i64 Q] 23)
          obtain ⟨w0, hw0⟩ : ∃ w0, w0 = wr.alloc (.cells #[.string V, .int .i64 Z, .int .i64 Q] 23) := ⟨_, rfl⟩
          rw [← hw0] at hb0 hN0
          have hs0 : Seen W wr.heap.size a k xs xa m V Z Q w0 := ⟨T.later (HN.out.later hb0).below, hns.later hb0, (HN.out.ss (by omega) (txt_fit xs)).later hb0, cell_of_row w0 wr.heap.size 0 _ _ _ hN0, cell_of_row w0 wr.heap.size 1 _ _ _ hN0, cell_of_row w0 wr.heap.size 2 _ _ _ hN0, lt_of_block hN0, (HN.out.later hb0).below⟩
          have hpr := print_any V hv Z Q hz hq w0 hs0.tz
          have HW0 := hide hw0
          have HS0 := hide hs0
          have HMX : Hid (m = (txt xs).length) := HN.out.len.symm
          obtain ⟨F, hF⟩ : ∃ F, prnE V Z Q = F := ⟨_, rfl⟩
          rw [hF] at hpr
          have HF := hide hF
          generalize prnS V Z Q = S0 at *
          subst ha
          clear hr ho hns hb0 hN0 hw0 hs0 hF hS HN
          go_wp2_with fail
          rw [← HW0.out]
          refine hpr.mono ?_
          rintro e w1 ⟨rfl, hb1⟩
          have HS1 := hide (HS0.out.later hb1)
          clear hpr HS0 HW0 hb1 c0 c1 c2 hbl
          generalize wr.heap.size = P at *
          go_wp2
          go_loopw [12] (fun i wr => ∃ kd : Int, 1 ≤ kd ∧ kd ≤ 5 ∧ i = .int .i64 kd ∧ Seen W P (some ⟨b, off, none⟩) k xs xa m V Z Q wr) (fun i _ => (5 - intOf i).toNat)
          case atStart => exact ⟨1, by omega, by omega, rfl, HS1.out⟩
          case round =>
            clear HS1
            obtain ⟨kd, k1, k5, rfl, hs⟩ := hrel
            by_cases hk4 : kd ≤ 4
            · have hsf := sift_any (cap := xc) hs.ss (by omega) V hv kd ⟨by omega, by omega⟩
              have d0 := hs.v
              have HS := hide hs
              obtain ⟨S, hSd⟩ : ∃ S, SR (siftL (txt xs) V kd) = S := ⟨_, rfl⟩
              have HMem : Hid (∀ x, x ∈ S ↔ xs.any (hit V kd x) = true) := fun x => by rw [← hSd, SR_mem, sift_txt]
              have HRise : Hid (S.Pairwise (· < ·)) := by rw [← hSd]; exact SR_lt _
              have hfew : S.length ≤ m := by rw [HMX.out, ← hSd]; exact sift_short _ _ _
              rw [hSd] at hsf
              clear hs hSd
              go_wp2_with fail
              refine hsf.mono ?_
              rintro e w3 ⟨v3, rfl, M, hM⟩
              obtain ⟨ma, mc, hv3⟩ := hM.row.form
              subst hv3
              have HS3 := hide (HS.out.later hM.below)
              have HML := hide hM.len
              have HMI : Hid (∀ w', Below w3.heap.size w3 w' → Rw w' 3 1 (.slice ma M mc) M (encI S)) := fun w' hb => hM.row.later hb
              have hM20 : M ≤ 20 := by have := hM.len; omega
              clear hsf hM HS d0 hfew
              go_wp2
              go_loopw [14, 16] (fun x i w4 => ∃ (j2 : Nat) (B : Bool), j2 ≤ M ∧ i = .int .i64 j2 ∧ x = .bool B ∧ Hid (B = (S.take j2).contains Q) ∧ Below w3.heap.size w3 w4) (fun _ i _ => M - (intOf i).toNat)
              case atStart => exact ⟨0, false, Nat.zero_le _, rfl, rfl, by show _ = _; simp, Below.refl _ _⟩
              case round =>
                obtain ⟨j2, B, hj2, rfl, rfl, HC, hb4⟩ := hrel
                have HB4 := hide hb4
                clear hb4
                by_cases hjM : j2 < M
                · obtain ⟨x, hx⟩ : ∃ x, S[j2]? = some x := ⟨_, List.getElem?_eq_getElem (by have := HML.out; omega)⟩
                  have hs4 := HS3.out.later HB4.out
                  have hrw := HMI.out wr HB4.out
                  obtain ⟨g2, off2, cc, hv2, hgl2, _⟩ := hrw.pos (by omega)
                  injection hv2 with e1 e2 e3
                  subst e1 e3
                  clear e2
                  have cx := (hrw.cell (encI_get hx)).1
                  have e1 : ∀ p : Later wr, p.val.cell? ⟨g2, off2 + j2, none⟩ = some (.int .i64 x) := fun p => (p.below.cell (p := ⟨g2, off2 + j2, none⟩) hgl2).trans cx
                  have lP := hs4.lt
                  have cq := hs4.q
                  have e2 : ∀ p : Later wr, p.val.cell? ⟨P, 2, none⟩ = some (.int .i64 Q) := fun p => (p.below.cell (p := ⟨P, 2, none⟩) lP).trans cq
                  have hne := later_ne wr
                  have HT := hide (has_take (y := Q) hx)
                  have HX := hide hx
                  have HCX := hide cx
                  clear hs4 hrw cx hx lP cq
                  cases B with
                  | true =>
                    have HC2 : Hid (true = (S.take (j2 + 1)).contains Q) := by show _ = _; rw [HT.out, ← HC.out]; rfl
                    clear HC HT
                    go_wp2
                    refine wp_region_later (by kernel_rfl) (by kernel_rfl) ?_
                    (repeat (first | go_big_quiet_skip | (go_big_quiet_want; go_big_quiet_op; go_big_quiet_on)))
                    refine wpQuiet_nil ?_
                    rintro _ ⟨p, rfl⟩
                    have HB5 := hide (HB4.out.trans (p.below.mono HB4.out.size))
                    have cx5 := (p.below.cell (p := ⟨g2, off2 + j2, none⟩) hgl2).trans HCX.out
                    have hgl5 := Nat.lt_of_lt_of_le hgl2 p.below.size
                    clear e1 e2 hne
                    generalize p.val = w5 at *
                    cases j2 with
                    | zero =>
                      have k1 : ∀ p : Later w5, p.val.cell? ⟨g2, off2 + 0, none⟩ = some (.int .i64 x) := fun p => (p.below.cell (p := ⟨g2, off2 + 0, none⟩) hgl5).trans cx5
                      have hne := later_ne w5
                      clear cx5 HX HCX
                      go_wp2
                      refine wp_region_later (by kernel_rfl) (by kernel_rfl) ?_
                      (repeat (first | go_big_quiet_skip | (go_big_quiet_want; go_big_quiet_op; go_big_quiet_on)))
                      refine wpQuiet_nil ?_
                      rintro _ ⟨p, rfl⟩
                      have HB6 := hide (HB5.out.trans (p.below.mono HB5.out.size))
                      clear k1 hne
                      generalize p.val = w6 at *
                      go_wp2
                      go_roundw
                      case rel => exact ⟨1, true, by omega, by go_num, rfl, HC2, HB6.out⟩
                      case measure => simp [intOf]; omega
                    | succ j3 =>
                      obtain ⟨y, hy⟩ : ∃ y, S[j3]? = some y := ⟨_, List.getElem?_eq_getElem (by have := HML.out; omega)⟩
                      have hyx := rises HRise.out hy HX.out
                      have cy := ((HMI.out w5 HB5.out).cell (encI_get hy)).1
                      have k1 : ∀ p : Later w5, p.val.cell? ⟨g2, off2 + (j3 + 1), none⟩ = some (.int .i64 x) := fun p => (p.below.cell (p := ⟨g2, off2 + (j3 + 1), none⟩) hgl5).trans cx5
                      have k2 : ∀ p : Later w5, p.val.cell? ⟨g2, off2 + j3, none⟩ = some (.int .i64 y) := fun p => (p.below.cell (p := ⟨g2, off2 + j3, none⟩) hgl5).trans cy
                      have hge : decide (x ≤ y) = false := by simp; omega
                      have hne := later_ne w5
                      clear cx5 HX HCX cy hy
                      go_wp2
                      refine wp_region_later (by kernel_rfl) (by kernel_rfl) ?_
                      (repeat (first | go_big_quiet_skip | (go_big_quiet_want; go_big_quiet_op; go_big_quiet_on)))
                      refine wpQuiet_nil ?_
                      rintro _ ⟨p, rfl⟩
                      have HB6 := hide (HB5.out.trans (p.below.mono HB5.out.size))
                      clear k1 k2 hne
                      generalize p.val = w6 at *
                      go_wp2
                      go_roundw
                      case rel => exact ⟨j3 + 1 + 1, true, by omega, by go_num, rfl, HC2, HB6.out⟩
                      case measure => simp [intOf]; omega
                  | false =>
                    have HC2 : Hid ((x == Q) = (S.take (j2 + 1)).contains Q) := by show _ = _; rw [HT.out, ← HC.out]; rfl
                    clear HC HT
                    go_wp2
                    refine wp_region_later (by kernel_rfl) (by kernel_rfl) ?_
                    (repeat (first | go_big_quiet_skip | (go_big_quiet_want; go_big_quiet_op; go_big_quiet_on)))
                    refine wpQuiet_nil ?_
                    rintro _ ⟨p, rfl⟩
                    have HB5 := hide (HB4.out.trans (p.below.mono HB4.out.size))
                    have cx5 := (p.below.cell (p := ⟨g2, off2 + j2, none⟩) hgl2).trans HCX.out
                    have hgl5 := Nat.lt_of_lt_of_le hgl2 p.below.size
                    clear e1 e2 hne
                    generalize p.val = w5 at *
                    cases j2 with
                    | zero =>
                      have k1 : ∀ p : Later w5, p.val.cell? ⟨g2, off2 + 0, none⟩ = some (.int .i64 x) := fun p => (p.below.cell (p := ⟨g2, off2 + 0, none⟩) hgl5).trans cx5
                      have hne := later_ne w5
                      clear cx5 HX HCX
                      go_wp2
                      refine wp_region_later (by kernel_rfl) (by kernel_rfl) ?_
                      (repeat (first | go_big_quiet_skip | (go_big_quiet_want; go_big_quiet_op; go_big_quiet_on)))
                      refine wpQuiet_nil ?_
                      rintro _ ⟨p, rfl⟩
                      have HB6 := hide (HB5.out.trans (p.below.mono HB5.out.size))
                      clear k1 hne
                      generalize p.val = w6 at *
                      go_wp2
                      go_roundw
                      case rel => exact ⟨1, (x == Q), by omega, by go_num, rfl, HC2, HB6.out⟩
                      case measure => simp [intOf]; omega
                    | succ j3 =>
                      obtain ⟨y, hy⟩ : ∃ y, S[j3]? = some y := ⟨_, List.getElem?_eq_getElem (by have := HML.out; omega)⟩
                      have hyx := rises HRise.out hy HX.out
                      have cy := ((HMI.out w5 HB5.out).cell (encI_get hy)).1
                      have k1 : ∀ p : Later w5, p.val.cell? ⟨g2, off2 + (j3 + 1), none⟩ = some (.int .i64 x) := fun p => (p.below.cell (p := ⟨g2, off2 + (j3 + 1), none⟩) hgl5).trans cx5
                      have k2 : ∀ p : Later w5, p.val.cell? ⟨g2, off2 + j3, none⟩ = some (.int .i64 y) := fun p => (p.below.cell (p := ⟨g2, off2 + j3, none⟩) hgl5).trans cy
                      have hge : decide (x ≤ y) = false := by simp; omega
                      have hne := later_ne w5
                      clear cx5 HX HCX cy hy
                      go_wp2
                      refine wp_region_later (by kernel_rfl) (by kernel_rfl) ?_
                      (repeat (first | go_big_quiet_skip | (go_big_quiet_want; go_big_quiet_op; go_big_quiet_on)))
                      refine wpQuiet_nil ?_
                      rintro _ ⟨p, rfl⟩
                      have HB6 := hide (HB5.out.trans (p.below.mono HB5.out.size))
                      clear k1 k2 hne
                      generalize p.val = w6 at *
                      go_wp2
                      go_roundw
                      case rel => exact ⟨j3 + 1 + 1, (x == Q), by omega, by go_num, rfl, HC2, HB6.out⟩
                      case measure => simp [intOf]; omega
                · have HIS : Hid (B = xs.any (hit V kd Q)) := by
                    have h1 := HC.out
                    rw [List.take_of_length_le (by have := HML.out; omega)] at h1
                    show _ = _
                    rw [h1, Bool.eq_iff_iff, List.contains_iff_mem]
                    exact HMem.out Q
                  have HS4 := hide (HS3.out.later HB4.out)
                  clear HC HB4 HS3 HMI HML HMem HRise
                  go_wp2
                  go_loopw [15, 17] (fun x i w5 => ∃ (j3 : Nat) (D : Bool), j3 ≤ k ∧ i = .int .i64 j3 ∧ x = .bool D ∧ Hid (D = (xs.take j3).any (hit V kd Q)) ∧ Seen W P (some ⟨b, off, none⟩) k xs xa m V Z Q w5) (fun _ i _ => k - (intOf i).toNat)
                  case atStart => exact ⟨0, false, Nat.zero_le _, rfl, rfl, by show _ = _; simp, HS4.out⟩
                  case round =>
                    clear HS4
                    obtain ⟨j3, D, hj3, rfl, rfl, HD, hs5⟩ := hrel
                    by_cases hj3k : j3 < k
                    · obtain ⟨o, ho⟩ : ∃ o, xs[j3]? = some o := ⟨_, List.getElem?_eq_getElem (by have := HL.out; omega)⟩
                      obtain ⟨yv, yz, yq⟩ := hs5.ns.ok o (List.mem_of_getElem? ho)
                      obtain ⟨b2, off2, hbb, hbl2, hr2⟩ := hs5.ns.cells j3 o ho
                      injection hbb with hbb
                      injection hbb with e1 e2
                      subst e1 e2
                      obtain ⟨c0, c1, c2⟩ := nm_cells hr2
                      have HT := hide (any_take ho (hit V kd Q))
                      obtain ⟨v, z, q⟩ := o
                      simp only at *
                      have hpr := print_any v yv z q yz yq wr hs5.tz
                      have HS5 := hide hs5
                      have HCE : Hid (∀ w', Below wr.heap.size wr w' → w'.cell? ⟨b, off + j3 * 3, none⟩ = some (.string v) ∧ w'.cell? ⟨b, off + j3 * 3 + 1, none⟩ = some (.int .i64 z) ∧ w'.cell? ⟨b, off + j3 * 3 + 2, none⟩ = some (.int .i64 q)) := fun w' hb => ⟨(hb.cell (p := ⟨b, off + j3 * 3, none⟩) hbl2).trans c0, (hb.cell (p := ⟨b, off + j3 * 3 + 1, none⟩) hbl2).trans c1, (hb.cell (p := ⟨b, off + j3 * 3 + 2, none⟩) hbl2).trans c2⟩
                      obtain ⟨E, hEE⟩ : ∃ E, prnE v z q = E := ⟨_, rfl⟩
                      have HHit : Hid (hit V kd Q ⟨v, z, q⟩ = (decide (E = 0) && (decide (v = V) && (decide (z = kd) && (q == Q))))) := by show _ = _; rw [← hEE]; rfl
                      rw [hEE] at hpr
                      generalize prnS v z q = S5 at *
                      clear ho hr2 hs5 hEE
                      go_wp2_with fail
                      refine hpr.mono ?_
                      rintro e w6 ⟨rfl, hb6⟩
                      have HS6 := hide (HS5.out.later hb6)
                      have HB6 := hide hb6
                      have m0 : ∀ p : Later w6, p.val.cell? ⟨b, off + j3 * 3, none⟩ = some (.string v) := fun p => (HCE.out _ (HB6.out.trans (p.below.mono HB6.out.size))).1
                      have m1 : ∀ p : Later w6, p.val.cell? ⟨b, off + j3 * 3 + 1, none⟩ = some (.int .i64 z) := fun p => (HCE.out _ (HB6.out.trans (p.below.mono HB6.out.size))).2.1
                      have m2 : ∀ p : Later w6, p.val.cell? ⟨b, off + j3 * 3 + 2, none⟩ = some (.int .i64 q) := fun p => (HCE.out _ (HB6.out.trans (p.below.mono HB6.out.size))).2.2
                      have m3 : ∀ p : Later w6, p.val.cell? ⟨P, 0, none⟩ = some (.string V) := fun p => (HS6.out.later p.below).v
                      have m4 : ∀ p : Later w6, p.val.cell? ⟨P, 2, none⟩ = some (.int .i64 Q) := fun p => (HS6.out.later p.below).q
                      have hne := later_ne w6
                      clear hpr hb6 c0 c1 c2 hbl2
                      cases D with
                      | true =>
                        have HD2 : Hid (true = (xs.take (j3 + 1)).any (hit V kd Q)) := by show _ = _; rw [HT.out, ← HD.out]; rfl
                        clear HD HT HHit
                        go_wp2
                        refine wp_region_later (by kernel_rfl) (by kernel_rfl) ?_
                        (repeat (first | go_big_quiet_skip | (go_big_quiet_want; go_big_quiet_op; go_big_quiet_on)))
                        refine wpQuiet_nil ?_
                        rintro _ ⟨p, rfl⟩
                        have HS7 := hide (HS6.out.later p.below)
                        clear m0 m1 m2 m3 m4 hne
                        generalize p.val = w7 at *
                        go_wp2
                        go_roundw
                        case rel => exact ⟨j3 + 1, true, by omega, by go_num, rfl, HD2, HS7.out⟩
                        case measure => simp [intOf]; omega
                      | false =>
                        have HD1 : Hid ((decide (E = 0) && (decide (v = V) && (decide (z = kd) && (q == Q)))) = (xs.take (j3 + 1)).any (hit V kd Q)) := by show _ = _; rw [HT.out, ← HD.out, HHit.out, Bool.false_or]
                        clear HD HT HHit
                        by_cases hE : E = 0
                        · by_cases hvV : v = V
                          · by_cases hzk : z = kd
                            · have HD2 : Hid ((q == Q) = (xs.take (j3 + 1)).any (hit V kd Q)) := by show _ = _; rw [← HD1.out]; simp [hE, hvV, hzk]
                              subst hE hvV hzk
                              have b2 : (v.toList == v.toList) = true := beq_lists rfl
                              have b3 : (z == z) = true := beq_self_eq_true z
                              clear HD1
                              go_wp2
                              refine wp_region_later (by kernel_rfl) (by kernel_rfl) ?_
                              (repeat (first | go_big_quiet_skip | (go_big_quiet_want; go_big_quiet_op; go_big_quiet_on)))
                              refine wpQuiet_nil ?_
                              rintro _ ⟨p, rfl⟩
                              have HS7 := hide (HS6.out.later p.below)
                              clear m0 m1 m2 m3 m4 hne
                              generalize p.val = w7 at *
                              go_wp2
                              go_roundw
                              case rel => exact ⟨j3 + 1, (q == Q), by omega, by go_num, rfl, HD2, HS7.out⟩
                              case measure => simp [intOf]; omega
                            · have HD2 : Hid (false = (xs.take (j3 + 1)).any (hit V kd Q)) := by show _ = _; rw [← HD1.out]; simp [hzk]
                              subst hE hvV
                              have b2 : (v.toList == v.toList) = true := beq_lists rfl
                              have b3 : (z == kd) = false := by rw [beq_eq_false_iff_ne]; exact hzk
                              clear HD1 hzk
                              go_wp2
                              refine wp_region_later (by kernel_rfl) (by kernel_rfl) ?_
                              (repeat (first | go_big_quiet_skip | (go_big_quiet_want; go_big_quiet_op; go_big_quiet_on)))
                              refine wpQuiet_nil ?_
                              rintro _ ⟨p, rfl⟩
                              have HS7 := hide (HS6.out.later p.below)
                              clear m0 m1 m2 m3 m4 hne
                              generalize p.val = w7 at *
                              go_wp2
                              go_roundw
                              case rel => exact ⟨j3 + 1, false, by omega, by go_num, rfl, HD2, HS7.out⟩
                              case measure => simp [intOf]; omega
                          · have HD2 : Hid (false = (xs.take (j3 + 1)).any (hit V kd Q)) := by show _ = _; rw [← HD1.out]; simp [hvV]
                            subst hE
                            have b2 : (v.toList == V.toList) = false := bne_lists hvV
                            clear HD1 hvV
                            go_wp2
                            refine wp_region_later (by kernel_rfl) (by kernel_rfl) ?_
                            (repeat (first | go_big_quiet_skip | (go_big_quiet_want; go_big_quiet_op; go_big_quiet_on)))
                            refine wpQuiet_nil ?_
                            rintro _ ⟨p, rfl⟩
                            have HS7 := hide (HS6.out.later p.below)
                            clear m0 m1 m2 m3 m4 hne
                            generalize p.val = w7 at *
                            go_wp2
                            go_roundw
                            case rel => exact ⟨j3 + 1, false, by omega, by go_num, rfl, HD2, HS7.out⟩
                            case measure => simp [intOf]; omega
                        · have HD2 : Hid (false = (xs.take (j3 + 1)).any (hit V kd Q)) := by show _ = _; rw [← HD1.out]; simp [hE]
                          have b1 : (E == 0) = false := by rw [beq_eq_false_iff_ne]; exact hE
                          clear HD1 hE
                          go_wp2
                          refine wp_region_later (by kernel_rfl) (by kernel_rfl) ?_
                          (repeat (first | go_big_quiet_skip | (go_big_quiet_want; go_big_quiet_op; go_big_quiet_on)))
                          refine wpQuiet_nil ?_
                          rintro _ ⟨p, rfl⟩
                          have HS7 := hide (HS6.out.later p.below)
                          clear m0 m1 m2 m3 m4 hne
                          generalize p.val = w7 at *
                          go_wp2
                          go_roundw
                          case rel => exact ⟨j3 + 1, false, by omega, by go_num, rfl, HD2, HS7.out⟩
                          case measure => simp [intOf]; omega
                    · obtain rfl : D = B := by
                        have h1 := HD.out
                        rw [List.take_of_length_le (by have := HL.out; omega)] at h1
                        rw [h1, HIS.out]
                      have d1 := hs5.z
                      have lP := hs5.lt
                      have HS5 := hide hs5
                      clear HD hs5
                      by_cases hkz : kd = Z
                      · have b1 : (kd == Z) = true := by rw [beq_iff_eq]; exact hkz
                        by_cases hF0 : F = 0
                        · obtain rfl : D = true := by
                            rw [HIS.out, List.any_eq_true]
                            refine ⟨_, HMEM.out, ?_⟩
                            unfold hit okN
                            simp only
                            rw [HF.out]
                            simp [hF0, hkz]
                          subst hF0
                          clear HIS hkz
                          go_wp2
                          go_roundw
                          case rel => exact ⟨kd + 1, by omega, by omega, by go_num, HS5.out⟩
                          case measure => simp [intOf]; omega
                        · have b2 : (F == 0) = false := by rw [beq_eq_false_iff_ne]; exact hF0
                          clear HIS hkz hF0
                          cases D with
                          | true =>
                            go_wp2
                            go_roundw
                            case rel => exact ⟨kd + 1, by omega, by omega, by go_num, HS5.out⟩
                            case measure => simp [intOf]; omega
                          | false =>
                            go_wp2
                            go_roundw
                            case rel => exact ⟨kd + 1, by omega, by omega, by go_num, HS5.out⟩
                            case measure => simp [intOf]; omega
                      · have b1 : (kd == Z) = false := by rw [beq_eq_false_iff_ne]; exact hkz
                        clear HIS hkz
                        cases D with
                        | true =>
                          go_wp2
                          go_roundw
                          case rel => exact ⟨kd + 1, by omega, by omega, by go_num, HS5.out⟩
                          case measure => simp [intOf]; omega
                        | false =>
                          go_wp2
                          go_roundw
                          case rel => exact ⟨kd + 1, by omega, by omega, by go_num, HS5.out⟩
                          case measure => simp [intOf]; omega
            · have HB := hide hs.below
              clear hs
              go_wp2_with fail
              refine (awake_any _ (T.later HB.out)).mono ?_
              rintro e w9 ⟨rfl, hb9⟩
              go_wp2
              go_ret
              exact ⟨rfl, HB.out.trans (hb9.mono HB.out.size)⟩

end Wi
end Go.Proofs.YtnfakgdgjkgekaaDoor
