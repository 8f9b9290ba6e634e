/- The sectors of a span that are nowhere. -/
import Derived.Test.YtjbgojccfkmlnaaYa
import Derived.Test.YtjbgojccfkmlnaaSp
namespace Go.Proofs.Ytjbgojccfkmlnaa
open Go.RowKit
namespace Wi

/-- The spans of extents. -/
def spansX (l : List Xt) : List (Int × Int) := l.map fun x => ((x.at_ : Int), (x.len : Int))
theorem wi_cons (x : Int × Int) (r : List (Int × Int)) (i : Int) : Sp.wi (x :: r) i = (decide (x.1 ≤ i) && decide (i < x.1 + x.2) || Sp.wi r i) := rfl
theorem wi_spans : ∀ {l : List Xt} {i : Int}, Sp.wi (spansX l) i = true ↔ ∃ j : Nat, i = (j : Int) ∧ spot l j ≠ none
  | [], i => by simp [spansX, Sp.wi, spot]
  | x :: r, i => by
    have ih := wi_spans (l := r) (i := i)
    show Sp.wi (((x.at_ : Int), (x.len : Int)) :: spansX r) i = true ↔ _
    rw [wi_cons, Bool.or_eq_true, ih, Bool.and_eq_true, decide_eq_true_eq, decide_eq_true_eq]
    constructor
    · rintro (⟨h1, h2⟩ | ⟨j, h1, h2⟩)
      · refine ⟨i.toNat, by omega, ?_⟩
        rw [spot_in (x := x) (r := r) (i := i.toNat) (by simp only at h1; omega) (by unfold Xt.fin; simp only at h1 h2; omega)]
        simp
      · refine ⟨j, h1, ?_⟩
        rw [spot]
        split
        · simp
        · exact h2
    · rintro ⟨j, rfl, h⟩
      rw [spot] at h
      split at h
      · rename_i hx
        left
        unfold Xt.fin at hx
        constructor
        · show (x.at_ : Int) ≤ j; omega
        · show (j : Int) < (x.at_ : Int) + (x.len : Int); omega
      · exact .inr ⟨j, rfl, h⟩
theorem spansX_all {l : List Xt} (h : ∀ x ∈ l, 1 ≤ x.len ∧ x.fin ≤ 65536) : Sp.allB (spansX l) = true := by
  unfold Sp.allB spansX
  rw [List.all_eq_true]
  intro y hy
  obtain ⟨x, hx, rfl⟩ := List.mem_map.1 hy
  have h2 := h x hx
  unfold Xt.fin at h2
  exact Sp.mayB_ok ⟨by show (0 : Int) ≤ x.at_; omega, by show (1 : Int) ≤ x.len; omega, by show (x.at_ : Int) + x.len ≤ 65536; omega⟩
theorem spansX_take {l : List Xt} {k : Nat} {x : Xt} (h : l[k]? = some x) : spansX (l.take (k + 1)) = spansX (l.take k) ++ [((x.at_ : Int), (x.len : Int))] := by
  unfold spansX
  have hk : k < l.length := (List.getElem?_eq_some_iff.1 h).1
  have hx : l[k] = x := (List.getElem?_eq_some_iff.1 h).2
  rw [List.take_succ_eq_append_getElem hk, List.map_append, hx]
  rfl
theorem spansX_len (l : List Xt) (k : Nat) (h : k ≤ l.length) : (spansX (l.take k)).length = k := by
  unfold spansX
  rw [List.length_map, List.length_take]
  omega
theorem sl_one {w : World} {k : Nat} {x : Int × Int} (hf : Sp.Fit x) (h : w.heap[k]? = some (.cells #[.int .i64 x.1, .int .i64 x.2] 38 (0, 0))) : Sp.Sl w (some ⟨k, 0, none⟩) 1 [x] :=
  ⟨rfl, by omega, fun y hy => by simp at hy; subst hy; exact hf, fun i hi => by
    have hi0 : i = 0 := by simp at hi; exact hi
    subst hi0
    refine ⟨k, 0, rfl, lt_of_block h, ?_, ?_⟩
    · rw [cell_of_row _ _ _ _ _ _ h]; rfl
    · rw [cell_of_row _ _ _ _ _ _ h]; rfl⟩
theorem setB_one {x : Int × Int} (h : Sp.mayB x = true) : Sp.setB [x] = true := Sp.setB_true fun k hk => by
  have hk0 : k = 0 := by simp at hk; exact hk
  subst hk0
  exact Sp.okAt_zero h
theorem holes_no {w : World} {b : Nat} {v : Value} {l : List Xt} (h : RawM w b v l) (a n : Int) (ha : I64 a) (hn : I64 n) (hm : mayS a n = false) : Calls Try.prog 29 #[.pointer (some ⟨b, 0, none⟩), .agg #[.int .i64 a, .int .i64 n]] w fun e w' => e = .returned (.tuple #[.slice none 0 0, .int .i64 1]) ∧ Below w.heap.size w w' := by
  have hb := below_alloc w (.cells #[.int .i64 a, .int .i64 n] 38)
  have hc := find_no (h.later hb) a n ha hn hm
  have HB := hide hb
  clear h hm hb
  go_enter Try.func29, Try.ntmps29
  go_wp2_with fail
  refine hc.mono ?_
  rintro e w1 ⟨rfl, hb1⟩
  have HB1 := hide (HB.out.trans (hb1.mono HB.out.size))
  clear hc hb1
  go_wp2
  go_ret2
  exact ⟨rfl, HB1.out⟩
/-- What Holes answers: a set of the call's own. -/
def HolesPost (l : List Xt) (a n : Nat) (w : World) (e : Ending) (w' : World) : Prop :=
  ∃ v ys, e = .returned (.tuple #[v, .int .i64 0]) ∧ Sp.Own w' v ys ∧ From w.heap.size v ∧ Sp.setB ys = true ∧ (∀ i, Sp.wi ys i = true ↔ ∃ j : Nat, i = (j : Int) ∧ a ≤ j ∧ j < a + n ∧ spot l j = none) ∧ Below w.heap.size w w'

set_option maxRecDepth 100000 in
set_option maxHeartbeats 4000000 in
theorem holes_ok {w : World} {b : Nat} {v : Value} {l : List Xt} (h : RawM w b v l) (hF : Fit l) (a n : Nat) (h1 : 1 ≤ n) (h2 : a + n ≤ 65536) : Calls Try.prog 29 #[.pointer (some ⟨b, 0, none⟩), .agg #[.int .i64 (a : Nat), .int .i64 (n : Nat)]] w (HolesPost l a n w) := by
  have hb := below_alloc w (.cells #[.int .i64 (a : Nat), .int .i64 (n : Nat)] 38)
  have hc := find_ok (h.later hb) hF a n h1 h2
  obtain ⟨W0, hW0⟩ : ∃ W0, W0 = w.alloc (.cells #[.int .i64 (a : Nat), .int .i64 (n : Nat)] 38) := ⟨_, rfl⟩
  have HBX : Hid (∀ w', Below W0.heap.size W0 w' → w'.cell? ⟨w.heap.size, 0, none⟩ = some (.int .i64 (a : Nat)) ∧ w'.cell? ⟨w.heap.size, 1, none⟩ = some (.int .i64 (n : Nat))) := fun w' hb' => by
    have hh := heap_alloc_new w (.cells #[.int .i64 (a : Nat), .int .i64 (n : Nat)] 38)
    rw [← hW0] at hh
    have hl := lt_of_block hh
    refine ⟨?_, ?_⟩ <;> (rw [hb'.cell hl, cell_of_row _ _ _ _ _ _ hh]; rfl)
  have HIN : Hid (∀ x ∈ wasL l a (a + n), 1 ≤ x.len ∧ x.fin ≤ 65536) := fun x hx => by
    have := was_in hF.can.ris x hx
    omega
  have HSP : Hid (∀ j : Nat, spot (wasL l a (a + n)) j = if a ≤ j ∧ j < a + n then spot l j else none) := fun j => was_spot hF.can.ris j
  have HLN : Hid ((wasL l a (a + n)).length ≤ 65536) := Nat.le_trans (was_len _ _ _) hF.len
  have HB0 : Hid (Below w.heap.size w W0) := by show Below _ _ _; rw [hW0]; exact hb
  rw [← hW0] at hc
  have HW0 := hide hW0
  clear h hF hb hW0
  go_enter Try.func29, Try.ntmps29
  go_wp2_with fail
  rw [← HW0.out]
  refine hc.mono ?_
  rintro e w1 ⟨f, rfl, hf, hfn, hb1⟩
  have HB1 := hide hb1
  clear hc hb1 hfn
  generalize hLL : wasL l a (a + n) = L at *
  obtain ⟨fa, fc, rfl, hfl, hfm⟩ := hf.len
  obtain ⟨m, hL⟩ : ∃ m, L.length = m := ⟨_, rfl⟩
  have HL := hide hL
  have HX := hide hf
  rw [hL] at HX hfl
  rw [hL]
  have hmn : m ≤ 65536 := by have := HLN.out; rw [hL] at this; exact this
  clear hf hL hLL
  go_wp2
  go_loopw [8, 22] (fun s i wr => ∃ k : Nat, k ≤ m ∧ i = .int .i64 k ∧ Sp.Own wr s (spansX (L.take k)) ∧ From w1.heap.size s ∧ Below w1.heap.size w1 wr) (fun _ i _ => m - (intOf i).toNat)
  case atStart => exact ⟨0, Nat.zero_le _, rfl, Sp.Own.nil _, From.nil _ _ _, Below.refl _ _⟩
  case round =>
    obtain ⟨k, hk, rfl, hown, hfrom, hbr⟩ := hrel
    by_cases hlt : k < m
    · obtain ⟨x, hx⟩ : ∃ x, L[k]? = some x := ⟨_, List.getElem?_eq_getElem (by rw [HL.out]; exact hlt)⟩
      obtain ⟨hxx, hat⟩ := Xs.at (n := m) (by have := HX.out; exact this)
      clear hxx
      obtain ⟨g, off, rfl, hX⟩ := hat k x hx
      obtain ⟨d0, d1, d2, d3, _, _⟩ := hX.later hbr
      have HT := hide (spansX_take hx)
      have HTL := hide (spansX_len L k (by rw [HL.out]; exact hk))
      have hkk : ∀ o o', ((wr.alloc o).alloc o').ownsRow 0 38 2 u8 k (Sp.enc2 (spansX (L.take k))) := fun o o' => by
        have := Sp.Own.later hown (((Below.refl wr.heap.size wr).alloc (Nat.le_refl _) o).alloc (by simp) o')
        unfold Sp.Own at this
        rwa [HTL.out] at this
      obtain ⟨i0, hi, hz0, hz1, hz2⟩ := info_parts Sp.info27
      obtain ⟨xa, xl, xq, xt⟩ := x
      simp only at *
      have HBR := hide hbr
      have HFR := hide hfrom
      clear hX hat hx hown hbr hfrom
      go_wp2_with (at_builtin; refine wpList_append_moved rfl (.tmp 26) (.tmp 29) 59 rfl 38 i0 _ 2 16 Try.underlying59 hi hz0 hz1 hz2 rfl (by decide) _ _ _ rfl (hkk _ _) ⟨wr.heap.size + 1, 0, none⟩ 1 1 [.int .i64 (xa : Nat), .int .i64 (xl : Nat)] rfl rfl (Sp.cells_two (by simp) (by simp)) (Sp.enc2_oneCell [((xa : Int), (xl : Int))]) (by unfold maxLen; omega) (by omega) ?_; intro v' w' g1 g2 g3; replace g1 := hide g1; replace g2 := hide g2; replace g3 := hide g3)
      have hb2 := HBR.out.alloc HBR.out.size (.cells #[.int .i64 (xa : Nat), .int .i64 (xl : Nat), .int .i64 (xq : Nat), .int .i64 (xt : Nat)] 40)
      have hb3 := hb2.alloc hb2.size (.cells #[.int .i64 (xa : Nat), .int .i64 (xl : Nat)] 38)
      have R2 := hide (below_grown hb3 g2.out hb3.size HFR.out)
      have R3 := hide (HFR.out.moved g3.out hb3.size)
      have R4 : Hid (Sp.Own w' v' (spansX (L.take (k + 1)))) := by
        show Sp.Own w' v' _
        rw [HT.out]
        unfold Sp.Own
        rw [Sp.enc2_append, List.length_append, HTL.out]
        exact g1.out
      clear g1 g2 g3 hkk hb2 hb3
      go_wp2
      go_roundw
      case rel => exact ⟨k + 1, by omega, by go_num, R4.out, R3.out, R2.out⟩
      case measure => simp [intOf]; omega
    · obtain rfl : k = m := by omega
      have hfin : L.take k = L := List.take_of_length_le (by rw [HL.out]; exact Nat.le_refl _)
      rw [hfin] at hown
      have hb2 := below_alloc wr (.cells #[.int .i64 (a : Nat), .int .i64 (n : Nat)] 38)
      obtain ⟨va, vc, rfl, hvc, hsl⟩ := (Sp.Own.later hown hb2).sl' (fun x hx => Sp.Fit.of_may (by have := spansX_all HIN.out; unfold Sp.allB at this; rw [List.all_eq_true] at this; exact this x hx))
      have hmay : Sp.mayB ((a : Int), (n : Int)) = true := Sp.mayB_ok ⟨by show (0 : Int) ≤ a; omega, by show (1 : Int) ≤ n; omega, by show (a : Int) + n ≤ 65536; omega⟩
      have hone := sl_one (Sp.Fit.of_may hmay) (heap_alloc_new wr (.cells #[.int .i64 (a : Nat), .int .i64 (n : Nat)] 38))
      have hlen : (spansX L).length = k := by have := spansX_len L k (by rw [HL.out]; exact hk); rwa [hfin] at this
      have hc2 := Sp.cut_ok (some ⟨wr.heap.size, 0, none⟩) va 1 (spansX L).length 1 vc [((a : Int), (n : Int))] (spansX L) _ hone hsl (setB_one hmay) (spansX_all HIN.out) (by omega)
      rw [hlen] at hc2
      have c01 := HBX.out wr (HB1.out.trans (hbr.mono HB1.out.size))
      obtain ⟨c0, c1⟩ := c01
      have HBB := hide (HB0.out.trans ((HB1.out.trans ((hbr.trans (hb2.mono hbr.size)).mono HB1.out.size)).mono HB0.out.size))
      rw [hlen]
      clear hown hfrom hbr hb2 hsl hone hmay hlt hk
      go_wp2_with fail
      refine hc2.mono ?_
      rintro e w3 ⟨v3, ys, rfl, ho, hfr, hs, hw, hb3⟩
      have HO := hide ho
      have HS := hide hs
      have HWI : Hid (∀ i, Sp.wi ys i = true ↔ ∃ j : Nat, i = (j : Int) ∧ a ≤ j ∧ j < a + n ∧ spot l j = none) := fun i => by
        rw [hw i]
        show (Sp.wi [((a : Int), (n : Int))] i = true ∧ ¬ Sp.wi (spansX L) i = true) ↔ _
        rw [wi_spans, show Sp.wi [((a : Int), (n : Int))] i = (decide ((a : Int) ≤ i) && decide (i < (a : Int) + n)) by simp [Sp.wi], Bool.and_eq_true, decide_eq_true_eq, decide_eq_true_eq]
        constructor
        · rintro ⟨⟨q1, q2⟩, q3⟩
          refine ⟨i.toNat, by omega, by omega, by omega, ?_⟩
          cases hq : spot l i.toNat with
          | none => rfl
          | some y =>
            exact absurd ⟨i.toNat, by omega, by rw [HSP.out, if_pos ⟨by omega, by omega⟩, hq]; simp⟩ q3
        · rintro ⟨j, rfl, q1, q2, q3⟩
          refine ⟨⟨by omega, by omega⟩, ?_⟩
          rintro ⟨j', e, q4⟩
          have : j = j' := by omega
          subst this
          rw [HSP.out, if_pos ⟨q1, q2⟩] at q4
          exact q4 q3
      have HFR2 : Hid (From w.heap.size v3) := fun q hq => Nat.le_trans HBB.out.size (hfr q hq)
      have HB3 := hide (HBB.out.trans (hb3.mono HBB.out.size))
      clear hc2 ho hfr hs hw hb3 c0 c1
      go_wp2
      go_ret2
      exact ⟨v3, ys, rfl, HO.out, HFR2.out, HS.out, HWI.out, HB3.out⟩

end Wi
end Go.Proofs.Ytjbgojccfkmlnaa
