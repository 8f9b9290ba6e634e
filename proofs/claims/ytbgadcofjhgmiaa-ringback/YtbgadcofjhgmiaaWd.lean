/- Positions that are taken. -/
import Derived.Test.YtbgadcofjhgmiaaWc
namespace Go.Proofs.Ytbgadcofjhgmiaa
open Go.RowKit
namespace Sp

/-- A box, and a result's place. -/
theorem two_boxes (w : World) (s h t : Int) : Below w.heap.size w ((w.alloc (.cells #[.int .i64 s, .int .i64 h, .int .i64 t] 23)).alloc (.cells #[.int .i64 0, .int .i64 0, .int .i64 0] 23)) ∧ ∀ w', Below ((w.alloc (.cells #[.int .i64 s, .int .i64 h, .int .i64 t] 23)).alloc (.cells #[.int .i64 0, .int .i64 0, .int .i64 0] 23)).heap.size ((w.alloc (.cells #[.int .i64 s, .int .i64 h, .int .i64 t] 23)).alloc (.cells #[.int .i64 0, .int .i64 0, .int .i64 0] 23)) w' → Rc w' w.heap.size s h t ∧ Rc w' (w.heap.size + 1) 0 0 0 ∧ (∀ j, w'.frozen? ⟨w.heap.size, j, none⟩ = false) ∧ (∀ j, w'.frozen? ⟨w.heap.size + 1, j, none⟩ = false) := by
  have hs1 : (w.alloc (.cells #[.int .i64 s, .int .i64 h, .int .i64 t] 23)).heap.size = w.heap.size + 1 := by simp
  have hs2 : ((w.alloc (.cells #[.int .i64 s, .int .i64 h, .int .i64 t] 23)).alloc (.cells #[.int .i64 0, .int .i64 0, .int .i64 0] 23)).heap.size = w.heap.size + 1 + 1 := by simp
  refine ⟨(below_alloc w (.cells #[.int .i64 s, .int .i64 h, .int .i64 t] 23)).alloc (below_alloc w (.cells #[.int .i64 s, .int .i64 h, .int .i64 t] 23)).size _, fun w' hb => ?_⟩
  have r1 := (Rc.new w s h t).later (below_alloc _ (.cells #[.int .i64 0, .int .i64 0, .int .i64 0] 23))
  have r2 := Rc.new (w.alloc (.cells #[.int .i64 s, .int .i64 h, .int .i64 t] 23)) 0 0 0
  have h1 := heap_alloc_new w (.cells #[.int .i64 s, .int .i64 h, .int .i64 t] 23)
  have h2 := heap_alloc_new (w.alloc (.cells #[.int .i64 s, .int .i64 h, .int .i64 t] 23)) (.cells #[.int .i64 0, .int .i64 0, .int .i64 0] 23)
  have h3 := (below_alloc (w.alloc (.cells #[.int .i64 s, .int .i64 h, .int .i64 t] 23)) (.cells #[.int .i64 0, .int .i64 0, .int .i64 0] 23)).block w.heap.size (by rw [hs1]; omega)
  have h4 := hb.block w.heap.size (by rw [hs2]; omega)
  have h5 := hb.block (w.heap.size + 1) (by rw [hs2]; omega)
  rw [hs1] at r2 h2
  exact ⟨r1.later hb, r2.later hb, fun j => frozen_of_row _ _ _ _ _ (h4.trans (h3.trans h1)), fun j => frozen_of_row _ _ _ _ _ (h5.trans h2)⟩

theorem own_setCell {w : World} {v : Value} {L : List (Int × Int)} {g i : Nat} {u : Value} (h : Own w v L) (hne : ¬ v.ownBlock = some g) : Own (w.setCell ⟨g, i, none⟩ u) v L := by
  rcases id h with ⟨hx, ⟨hv, hn⟩ | ⟨b, cap, cur, hv, hB, hg, hnc, hcm, hcs, htake⟩⟩
  · exact ⟨hx, .inl ⟨hv, hn⟩⟩
  · refine ⟨hx, .inr ⟨b, cap, cur, hv, hB, ?_, hnc, hcm, hcs, htake⟩⟩
    rw [Below.heap_setCell w ⟨g, i, none⟩ u b (fun e => hne (by rw [hv, e]; rfl))]
    exact hg

set_option maxRecDepth 100000 in
set_option maxHeartbeats 4000000 in
theorem push_no (s h t n : Int) (hh : I64 h) (ht : I64 t) (hno : mayR s h t = false ∨ n < 0 ∨ 1099511627776 - h ≤ n) (w : World) :
    Calls Try.prog 18 #[.agg #[.int .i64 s, .int .i64 h, .int .i64 t], .int .i64 n] w fun e w' => e = .returned (.tuple #[.agg #[.int .i64 s, .int .i64 h, .int .i64 t], .slice none 0 0, .int .i64 1]) ∧ Below w.heap.size w w' := by
  obtain ⟨hbb, HR0⟩ := two_boxes w s h t
  have HR := hide HR0
  have HB := hide hbb
  have hs1 : (w.alloc (.cells #[.int .i64 s, .int .i64 h, .int .i64 t] 23)).heap.size = w.heap.size + 1 := by simp
  clear HR0 hbb
  obtain ⟨⟨c0, c1, c2, cl⟩, ⟨d0, d1, d2, dl⟩, cf, df⟩ := HR.out _ (Below.refl _ _)
  have hc := check_any s h t hh ht ((w.alloc (.cells #[.int .i64 s, .int .i64 h, .int .i64 t] 23)).alloc (.cells #[.int .i64 0, .int .i64 0, .int .i64 0] 23))
  cases hm : mayR s h t with
  | false =>
    rw [hm, show erB false = 1 from rfl] at hc
    clear hm hno hs1
    go_enter Try.func18, Try.ntmps18
    go_wp2_with fail
    refine hc.mono ?_
    rintro e w1 ⟨rfl, hb1⟩
    have HB1 := hide (HB.out.trans (hb1.mono HB.out.size))
    clear c0 c1 c2 cl d0 d1 d2 dl cf df
    obtain ⟨⟨c0, c1, c2, cl⟩, ⟨d0, d1, d2, dl⟩, cf, df⟩ := HR.out _ hb1
    have k0 := df 0
    have k1 := df 1
    have k2 := df 2
    clear hc hb1 cf df
    go_wp2
    refine bodyPost_ret (v := .tuple #[.agg #[.int .i64 s, .int .i64 h, .int .i64 t], .slice none 0 0, .int .i64 1]) (by simp [results, Try.results18, go_sem, d0, d1, d2]) rfl ⟨rfl, ?_⟩
    exact (((HB1.out.setCell (by simp) _).setCell (by simp) _).setCell (by simp) _)
  | true =>
    rw [hm, show erB true = 0 from rfl] at hc
    obtain ⟨m1, m2, m3, m4, m5, m6⟩ := mayR_get hm
    have hno2 : n < 0 ∨ 1099511627776 - h ≤ n := by
      rcases hno with e | e
      · rw [hm] at e; cases e
      · exact e
    have hw : IntKind.i64.wrap (1099511627776 - h) = 1099511627776 - h := by rw [IntKind.wrap_i64]; omega
    clear hm hno hs1
    by_cases g1 : n < 0
    · go_enter Try.func18, Try.ntmps18
      go_wp2_with fail
      refine hc.mono ?_
      rintro e w1 ⟨rfl, hb1⟩
      have HB1 := hide (HB.out.trans (hb1.mono HB.out.size))
      clear c0 c1 c2 cl d0 d1 d2 dl cf df
      obtain ⟨⟨c0, c1, c2, cl⟩, ⟨d0, d1, d2, dl⟩, cf, df⟩ := HR.out _ hb1
      have k0 := df 0
      have k1 := df 1
      have k2 := df 2
      clear hc hb1 cf df hno2
      go_wp2
      refine bodyPost_ret (v := .tuple #[.agg #[.int .i64 s, .int .i64 h, .int .i64 t], .slice none 0 0, .int .i64 1]) (by simp [results, Try.results18, go_sem, d0, d1, d2]) rfl ⟨rfl, ?_⟩
      exact (((HB1.out.setCell (by simp) _).setCell (by simp) _).setCell (by simp) _)
    · by_cases g2 : 1099511627776 - h ≤ n
      · go_enter Try.func18, Try.ntmps18
        go_wp2_with fail
        refine hc.mono ?_
        rintro e w1 ⟨rfl, hb1⟩
        have HB1 := hide (HB.out.trans (hb1.mono HB.out.size))
        clear c0 c1 c2 cl d0 d1 d2 dl cf df
        obtain ⟨⟨c0, c1, c2, cl⟩, ⟨d0, d1, d2, dl⟩, cf, df⟩ := HR.out _ hb1
        have k0 := df 0
        have k1 := df 1
        have k2 := df 2
        clear hc hb1 cf df hno2
        go_wp2
        refine bodyPost_ret (v := .tuple #[.agg #[.int .i64 s, .int .i64 h, .int .i64 t], .slice none 0 0, .int .i64 1]) (by simp [results, Try.results18, go_sem, d0, d1, d2]) rfl ⟨rfl, ?_⟩
        exact (((HB1.out.setCell (by simp) _).setCell (by simp) _).setCell (by simp) _)
      · exact absurd hno2 (by omega)

set_option maxRecDepth 100000 in
set_option maxHeartbeats 4000000 in
theorem push_full (s h t n : Int) (hh : I64 h) (ht : I64 t) (hm : mayR s h t = true) (hn : 0 ≤ n) (hn2 : n < 1099511627776 - h) (hf : s - (h - t) < n) (w : World) :
    Calls Try.prog 18 #[.agg #[.int .i64 s, .int .i64 h, .int .i64 t], .int .i64 n] w fun e w' => e = .returned (.tuple #[.agg #[.int .i64 s, .int .i64 h, .int .i64 t], .slice none 0 0, .int .i64 32]) ∧ Below w.heap.size w w' := by
  obtain ⟨hbb, HR0⟩ := two_boxes w s h t
  have HR := hide HR0
  have HB := hide hbb
  have hs1 : (w.alloc (.cells #[.int .i64 s, .int .i64 h, .int .i64 t] 23)).heap.size = w.heap.size + 1 := by simp
  clear HR0 hbb
  obtain ⟨⟨c0, c1, c2, cl⟩, ⟨d0, d1, d2, dl⟩, cf, df⟩ := HR.out _ (Below.refl _ _)
  have hc := check_any s h t hh ht ((w.alloc (.cells #[.int .i64 s, .int .i64 h, .int .i64 t] 23)).alloc (.cells #[.int .i64 0, .int .i64 0, .int .i64 0] 23))
  rw [hm, show erB true = 0 from rfl] at hc
  have HC2 : Hid (∀ w' : World, _) := fun w' => free_any s h t hh ht w'
  rw [show freeR s h t = s - (h - t) by unfold freeR; rw [hm]; rfl] at HC2
  obtain ⟨m1, m2, m3, m4, m5, m6⟩ := mayR_get hm
  have hw : IntKind.i64.wrap (1099511627776 - h) = 1099511627776 - h := by rw [IntKind.wrap_i64]; omega
  clear hm hs1
  go_enter Try.func18, Try.ntmps18
  go_wp2_with fail
  refine hc.mono ?_
  rintro e w1 ⟨rfl, hb1⟩
  have HB1 := hide (HB.out.trans (hb1.mono HB.out.size))
  clear c0 c1 c2 cl d0 d1 d2 dl cf df
  obtain ⟨⟨c0, c1, c2, cl⟩, ⟨d0, d1, d2, dl⟩, cf, df⟩ := HR.out _ hb1
  have hc2 := HC2.out w1
  have HBB := hide hb1
  clear hc hb1
  go_wp2_with fail
  refine hc2.mono ?_
  rintro e w2 ⟨rfl, hb2⟩
  have HB2 := hide (HB1.out.trans (hb2.mono HB1.out.size))
  have hb3 := HBB.out.trans (hb2.mono HBB.out.size)
  clear c0 c1 c2 cl d0 d1 d2 dl cf df
  obtain ⟨⟨c0, c1, c2, cl⟩, ⟨d0, d1, d2, dl⟩, cf, df⟩ := HR.out _ hb3
  have k0 := df 0
  have k1 := df 1
  have k2 := df 2
  clear hc2 hb2 hb3 cf df
  replace HB1 := HB2
  go_wp2
  refine bodyPost_ret (v := .tuple #[.agg #[.int .i64 s, .int .i64 h, .int .i64 t], .slice none 0 0, .int .i64 32]) (by simp [results, Try.results18, go_sem, d0, d1, d2]) rfl ⟨rfl, ?_⟩
  exact (((HB1.out.setCell (by simp) _).setCell (by simp) _).setCell (by simp) _)

set_option maxRecDepth 100000 in
set_option maxHeartbeats 8000000 in
theorem push_ok (s h t n : Nat) (hm : mayR s h t = true) (hn : h + n < 1099511627776) (hf : n ≤ s - (h - t)) (w : World) :
    Calls Try.prog 18 #[.agg #[.int .i64 (s : Nat), .int .i64 (h : Nat), .int .i64 (t : Nat)], .int .i64 (n : Nat)] w fun e w' => ∃ v, e = .returned (.tuple #[.agg #[.int .i64 (s : Nat), .int .i64 ((h : Int) + (n : Int)), .int .i64 (t : Nat)], v, .int .i64 0]) ∧ Own w' v (secL s h n) ∧ From w.heap.size v ∧ Below w.heap.size w w' := by
  obtain ⟨hbb, HR0⟩ := two_boxes w (s : Nat) (h : Nat) (t : Nat)
  have HR := hide HR0
  have HB := hide hbb
  have hs1 : (w.alloc (.cells #[.int .i64 (s : Nat), .int .i64 (h : Nat), .int .i64 (t : Nat)] 23)).heap.size = w.heap.size + 1 := by simp
  clear HR0 hbb
  obtain ⟨⟨c0, c1, c2, cl⟩, ⟨d0, d1, d2, dl⟩, cf, df⟩ := HR.out _ (Below.refl _ _)
  obtain ⟨m1, m2, m3, m4, m5, m6⟩ := mayR_get hm
  have hc := check_any s h t ⟨by omega, by omega⟩ ⟨by omega, by omega⟩ ((w.alloc (.cells #[.int .i64 (s : Nat), .int .i64 (h : Nat), .int .i64 (t : Nat)] 23)).alloc (.cells #[.int .i64 0, .int .i64 0, .int .i64 0] 23))
  rw [hm, show erB true = 0 from rfl] at hc
  have HC2 : Hid (∀ w' : World, _) := fun w' => free_any s h t ⟨by omega, by omega⟩ ⟨by omega, by omega⟩ w'
  rw [show freeR s h t = (s : Int) - ((h : Int) - (t : Int)) by unfold freeR; rw [hm]; rfl] at HC2
  have HC3 : Hid (∀ w' : World, _) := fun w' => sectors_any s h n (h : Nat) (t : Nat) (by omega) (by omega) (by omega) (by omega) w'
  have hw : IntKind.i64.wrap (1099511627776 - (h : Int)) = 1099511627776 - (h : Int) := by rw [IntKind.wrap_i64]; omega
  have hw2 : IntKind.i64.wrap ((h : Int) + (n : Int)) = (h : Int) + (n : Int) := by rw [IntKind.wrap_i64]; omega
  have hq1 : decide (1099511627776 - (h : Int) ≤ (n : Int)) = false := decide_eq_false (by omega)
  have hq2 : decide ((n : Int) < 0) = false := decide_eq_false (by omega)
  have hq3 : decide ((s : Int) - ((h : Int) - (t : Int)) < (n : Int)) = false := decide_eq_false (by omega)
  clear hm hs1 m1 m2 m3 m4 m5 m6 hn hf
  go_enter Try.func18, Try.ntmps18
  go_wp2_with fail
  refine hc.mono ?_
  rintro e w1 ⟨rfl, hb1⟩
  have HB1 := hide (HB.out.trans (hb1.mono HB.out.size))
  clear c0 c1 c2 cl d0 d1 d2 dl cf df
  obtain ⟨⟨c0, c1, c2, cl⟩, ⟨d0, d1, d2, dl⟩, cf, df⟩ := HR.out _ hb1
  have hc2 := HC2.out w1
  have HBB := hide hb1
  clear hc hb1
  go_wp2_with fail
  refine hc2.mono ?_
  rintro e w2 ⟨rfl, hb2⟩
  have HB2 := hide (HB1.out.trans (hb2.mono HB1.out.size))
  have hb3 := HBB.out.trans (hb2.mono HBB.out.size)
  clear c0 c1 c2 cl d0 d1 d2 dl cf df
  obtain ⟨⟨c0, c1, c2, cl⟩, ⟨d0, d1, d2, dl⟩, cf, df⟩ := HR.out _ hb3
  have HBC := hide hb3
  have hc3 := HC3.out w2
  clear hc2 hb2 hb3
  go_wp2_with fail
  refine hc3.mono ?_
  rintro e w3 ⟨v, rfl, ho, hfr, hb4⟩
  have HB3 := hide (HB2.out.trans (hb4.mono HB2.out.size))
  have hb5 := HBC.out.trans (hb4.mono HBC.out.size)
  clear c0 c1 c2 cl d0 d1 d2 dl cf df
  obtain ⟨⟨c0, c1, c2, cl⟩, ⟨d0, d1, d2, dl⟩, cf, df⟩ := HR.out _ hb5
  have k0 := df 0
  have k1 := df 1
  have k2 := df 2
  have j1 := cf 1
  have j2 := cf 2
  have HO := hide ho
  have HF : Hid (From w.heap.size v) := fun k hk => Nat.le_trans HB2.out.size (hfr k hk)
  have HAP : Hid (∀ k, v.ownBlock = some k → w.heap.size + 1 < k) := fun k hk => by
    have h1 := hfr k hk
    have h2 := HBC.out.size
    have h3 : ((w.alloc (.cells #[.int .i64 (s : Nat), .int .i64 (h : Nat), .int .i64 (t : Nat)] 23)).alloc (.cells #[.int .i64 0, .int .i64 0, .int .i64 0] 23)).heap.size = w.heap.size + 1 + 1 := by simp
    omega
  have HOW : Hid (∀ (w4 : World) (i : Nat) (u : Value), Own w4 v (secL s h n) → Own (w4.setCell ⟨w.heap.size, i, none⟩ u) v (secL s h n) ∧ Own (w4.setCell ⟨w.heap.size + 1, i, none⟩ u) v (secL s h n)) := fun w4 i u ho4 => ⟨own_setCell ho4 (fun e => by have := HAP.out _ e; omega), own_setCell ho4 (fun e => by have := HAP.out _ e; omega)⟩
  clear hc3 ho hfr hb4 hb5 cf df
  go_wp2
  refine bodyPost_ret (v := .tuple #[.agg #[.int .i64 (s : Nat), .int .i64 ((h : Int) + (n : Int)), .int .i64 (t : Nat)], v, .int .i64 0]) (by simp [results, Try.results18, go_sem, d0, d1, d2]) rfl ⟨v, rfl, ?_, HF.out, ?_⟩
  · exact (HOW.out _ _ _ (HOW.out _ _ _ (HOW.out _ _ _ (HOW.out _ _ _ HO.out).1).2).2).2
  · exact ((((HB3.out.setCell (by simp) _).setCell (by simp) _).setCell (by simp) _).setCell (by simp) _)

end Sp
end Go.Proofs.Ytbgadcofjhgmiaa
