/- Positions that are let go. -/
import Derived.Test.YtbgadcofjhgmiaaWd
namespace Go.Proofs.Ytbgadcofjhgmiaa
open Go.RowKit
namespace Sp

set_option maxRecDepth 100000 in
set_option maxHeartbeats 4000000 in
theorem pop_no (s h t n : Int) (hh : I64 h) (ht : I64 t) (hno : mayR s h t = false ∨ n < 0) (w : World) :
    Calls Try.prog 19 #[.agg #[.int .i64 s, .int .i64 h, .int .i64 t], .int .i64 n] w fun e w' => e = .returned (.tuple #[.agg #[.int .i64 s, .int .i64 h, .int .i64 t], .slice none 0 0, .int .i64 1]) ∧ Below w.heap.size w w' := by
  obtain ⟨hbb, HR0⟩ := two_boxes w s h t
  have HR := hide HR0
  have HB := hide hbb
  have hs1 : (w.alloc (.cells #[.int .i64 s, .int .i64 h, .int .i64 t] 23)).heap.size = w.heap.size + 1 := by simp
  clear HR0 hbb
  obtain ⟨⟨c0, c1, c2, cl⟩, ⟨d0, d1, d2, dl⟩, cf, df⟩ := HR.out _ (Below.refl _ _)
  have hc := check_any s h t hh ht ((w.alloc (.cells #[.int .i64 s, .int .i64 h, .int .i64 t] 23)).alloc (.cells #[.int .i64 0, .int .i64 0, .int .i64 0] 23))
  cases hm : mayR s h t with
  | false =>
    rw [hm, show erB false = 1 from rfl] at hc
    clear hm hno hs1
    go_enter Try.func19, Try.ntmps19
    go_wp2_with fail
    refine hc.mono ?_
    rintro e w1 ⟨rfl, hb1⟩
    have HB1 := hide (HB.out.trans (hb1.mono HB.out.size))
    clear c0 c1 c2 cl d0 d1 d2 dl cf df
    obtain ⟨⟨c0, c1, c2, cl⟩, ⟨d0, d1, d2, dl⟩, cf, df⟩ := HR.out _ hb1
    have k0 := df 0
    have k1 := df 1
    have k2 := df 2
    clear hc hb1 cf df
    go_wp2
    refine bodyPost_ret (v := .tuple #[.agg #[.int .i64 s, .int .i64 h, .int .i64 t], .slice none 0 0, .int .i64 1]) (by simp [results, Try.results19, go_sem, d0, d1, d2]) rfl ⟨rfl, ?_⟩
    exact (((HB1.out.setCell (by simp) _).setCell (by simp) _).setCell (by simp) _)
  | true =>
    rw [hm, show erB true = 0 from rfl] at hc
    obtain ⟨m1, m2, m3, m4, m5, m6⟩ := mayR_get hm
    have hno2 : n < 0 := by
      rcases hno with e | e
      · rw [hm] at e; cases e
      · exact e
    have hw : IntKind.i64.wrap (1099511627776 - h) = 1099511627776 - h := by rw [IntKind.wrap_i64]; omega
    clear hm hno hs1
    by_cases g1 : n < 0
    · go_enter Try.func19, Try.ntmps19
      go_wp2_with fail
      refine hc.mono ?_
      rintro e w1 ⟨rfl, hb1⟩
      have HB1 := hide (HB.out.trans (hb1.mono HB.out.size))
      clear c0 c1 c2 cl d0 d1 d2 dl cf df
      obtain ⟨⟨c0, c1, c2, cl⟩, ⟨d0, d1, d2, dl⟩, cf, df⟩ := HR.out _ hb1
      have k0 := df 0
      have k1 := df 1
      have k2 := df 2
      clear hc hb1 cf df hno2
      go_wp2
      refine bodyPost_ret (v := .tuple #[.agg #[.int .i64 s, .int .i64 h, .int .i64 t], .slice none 0 0, .int .i64 1]) (by simp [results, Try.results19, go_sem, d0, d1, d2]) rfl ⟨rfl, ?_⟩
      exact (((HB1.out.setCell (by simp) _).setCell (by simp) _).setCell (by simp) _)
    · exact absurd hno2 (by omega)

set_option maxRecDepth 100000 in
set_option maxHeartbeats 4000000 in
theorem pop_full (s h t n : Int) (hh : I64 h) (ht : I64 t) (hm : mayR s h t = true) (hn : 0 ≤ n) (hf : h - t < n) (w : World) :
    Calls Try.prog 19 #[.agg #[.int .i64 s, .int .i64 h, .int .i64 t], .int .i64 n] w fun e w' => e = .returned (.tuple #[.agg #[.int .i64 s, .int .i64 h, .int .i64 t], .slice none 0 0, .int .i64 31]) ∧ Below w.heap.size w w' := by
  obtain ⟨hbb, HR0⟩ := two_boxes w s h t
  have HR := hide HR0
  have HB := hide hbb
  have hs1 : (w.alloc (.cells #[.int .i64 s, .int .i64 h, .int .i64 t] 23)).heap.size = w.heap.size + 1 := by simp
  clear HR0 hbb
  obtain ⟨⟨c0, c1, c2, cl⟩, ⟨d0, d1, d2, dl⟩, cf, df⟩ := HR.out _ (Below.refl _ _)
  have hc := check_any s h t hh ht ((w.alloc (.cells #[.int .i64 s, .int .i64 h, .int .i64 t] 23)).alloc (.cells #[.int .i64 0, .int .i64 0, .int .i64 0] 23))
  rw [hm, show erB true = 0 from rfl] at hc
  have HC2 : Hid (∀ w' : World, _) := fun w' => used_any s h t hh ht w'
  rw [show usedR s h t = h - t by unfold usedR; rw [hm]; rfl] at HC2
  obtain ⟨m1, m2, m3, m4, m5, m6⟩ := mayR_get hm
  have hw : IntKind.i64.wrap (1099511627776 - h) = 1099511627776 - h := by rw [IntKind.wrap_i64]; omega
  clear hm hs1
  go_enter Try.func19, Try.ntmps19
  go_wp2_with fail
  refine hc.mono ?_
  rintro e w1 ⟨rfl, hb1⟩
  have HB1 := hide (HB.out.trans (hb1.mono HB.out.size))
  clear c0 c1 c2 cl d0 d1 d2 dl cf df
  obtain ⟨⟨c0, c1, c2, cl⟩, ⟨d0, d1, d2, dl⟩, cf, df⟩ := HR.out _ hb1
  have hc2 := HC2.out w1
  have HBB := hide hb1
  clear hc hb1
  go_wp2_with fail
  refine hc2.mono ?_
  rintro e w2 ⟨rfl, hb2⟩
  have HB2 := hide (HB1.out.trans (hb2.mono HB1.out.size))
  have hb3 := HBB.out.trans (hb2.mono HBB.out.size)
  clear c0 c1 c2 cl d0 d1 d2 dl cf df
  obtain ⟨⟨c0, c1, c2, cl⟩, ⟨d0, d1, d2, dl⟩, cf, df⟩ := HR.out _ hb3
  have k0 := df 0
  have k1 := df 1
  have k2 := df 2
  clear hc2 hb2 hb3 cf df
  replace HB1 := HB2
  go_wp2
  refine bodyPost_ret (v := .tuple #[.agg #[.int .i64 s, .int .i64 h, .int .i64 t], .slice none 0 0, .int .i64 31]) (by simp [results, Try.results19, go_sem, d0, d1, d2]) rfl ⟨rfl, ?_⟩
  exact (((HB1.out.setCell (by simp) _).setCell (by simp) _).setCell (by simp) _)

set_option maxRecDepth 100000 in
set_option maxHeartbeats 8000000 in
theorem pop_ok (s h t n : Nat) (hm : mayR s h t = true) (hf : n ≤ h - t) (w : World) :
    Calls Try.prog 19 #[.agg #[.int .i64 (s : Nat), .int .i64 (h : Nat), .int .i64 (t : Nat)], .int .i64 (n : Nat)] w fun e w' => ∃ v, e = .returned (.tuple #[.agg #[.int .i64 (s : Nat), .int .i64 (h : Nat), .int .i64 ((t : Int) + (n : Int))], v, .int .i64 0]) ∧ Own w' v (secL s t n) ∧ From w.heap.size v ∧ Below w.heap.size w w' := by
  obtain ⟨hbb, HR0⟩ := two_boxes w (s : Nat) (h : Nat) (t : Nat)
  have HR := hide HR0
  have HB := hide hbb
  have hs1 : (w.alloc (.cells #[.int .i64 (s : Nat), .int .i64 (h : Nat), .int .i64 (t : Nat)] 23)).heap.size = w.heap.size + 1 := by simp
  clear HR0 hbb
  obtain ⟨⟨c0, c1, c2, cl⟩, ⟨d0, d1, d2, dl⟩, cf, df⟩ := HR.out _ (Below.refl _ _)
  obtain ⟨m1, m2, m3, m4, m5, m6⟩ := mayR_get hm
  have hc := check_any s h t ⟨by omega, by omega⟩ ⟨by omega, by omega⟩ ((w.alloc (.cells #[.int .i64 (s : Nat), .int .i64 (h : Nat), .int .i64 (t : Nat)] 23)).alloc (.cells #[.int .i64 0, .int .i64 0, .int .i64 0] 23))
  rw [hm, show erB true = 0 from rfl] at hc
  have HC2 : Hid (∀ w' : World, _) := fun w' => used_any s h t ⟨by omega, by omega⟩ ⟨by omega, by omega⟩ w'
  rw [show usedR s h t = (h : Int) - (t : Int) by unfold usedR; rw [hm]; rfl] at HC2
  have HC3 : Hid (∀ w' : World, _) := fun w' => sectors_any s t n (h : Nat) (t : Nat) (by omega) (by omega) (by omega) (by omega) w'
  have hw : IntKind.i64.wrap (1099511627776 - (h : Int)) = 1099511627776 - (h : Int) := by rw [IntKind.wrap_i64]; omega
  have hw2 : IntKind.i64.wrap ((t : Int) + (n : Int)) = (t : Int) + (n : Int) := by rw [IntKind.wrap_i64]; omega
  have hq2 : decide ((n : Int) < 0) = false := decide_eq_false (by omega)
  have hq3 : decide ((h : Int) - (t : Int) < (n : Int)) = false := decide_eq_false (by omega)
  clear hm hs1 m1 m2 m3 m4 m5 m6 hf
  go_enter Try.func19, Try.ntmps19
  go_wp2_with fail
  refine hc.mono ?_
  rintro e w1 ⟨rfl, hb1⟩
  have HB1 := hide (HB.out.trans (hb1.mono HB.out.size))
  clear c0 c1 c2 cl d0 d1 d2 dl cf df
  obtain ⟨⟨c0, c1, c2, cl⟩, ⟨d0, d1, d2, dl⟩, cf, df⟩ := HR.out _ hb1
  have hc2 := HC2.out w1
  have HBB := hide hb1
  clear hc hb1
  go_wp2_with fail
  refine hc2.mono ?_
  rintro e w2 ⟨rfl, hb2⟩
  have HB2 := hide (HB1.out.trans (hb2.mono HB1.out.size))
  have hb3 := HBB.out.trans (hb2.mono HBB.out.size)
  clear c0 c1 c2 cl d0 d1 d2 dl cf df
  obtain ⟨⟨c0, c1, c2, cl⟩, ⟨d0, d1, d2, dl⟩, cf, df⟩ := HR.out _ hb3
  have HBC := hide hb3
  have hc3 := HC3.out w2
  clear hc2 hb2 hb3
  go_wp2_with fail
  refine hc3.mono ?_
  rintro e w3 ⟨v, rfl, ho, hfr, hb4⟩
  have HB3 := hide (HB2.out.trans (hb4.mono HB2.out.size))
  have hb5 := HBC.out.trans (hb4.mono HBC.out.size)
  clear c0 c1 c2 cl d0 d1 d2 dl cf df
  obtain ⟨⟨c0, c1, c2, cl⟩, ⟨d0, d1, d2, dl⟩, cf, df⟩ := HR.out _ hb5
  have k0 := df 0
  have k1 := df 1
  have k2 := df 2
  have j1 := cf 1
  have j2 := cf 2
  have HO := hide ho
  have HF : Hid (From w.heap.size v) := fun k hk => Nat.le_trans HB2.out.size (hfr k hk)
  have HAP : Hid (∀ k, v.ownBlock = some k → w.heap.size + 1 < k) := fun k hk => by
    have h1 := hfr k hk
    have h2 := HBC.out.size
    have h3 : ((w.alloc (.cells #[.int .i64 (s : Nat), .int .i64 (h : Nat), .int .i64 (t : Nat)] 23)).alloc (.cells #[.int .i64 0, .int .i64 0, .int .i64 0] 23)).heap.size = w.heap.size + 1 + 1 := by simp
    omega
  have HOW : Hid (∀ (w4 : World) (i : Nat) (u : Value), Own w4 v (secL s t n) → Own (w4.setCell ⟨w.heap.size, i, none⟩ u) v (secL s t n) ∧ Own (w4.setCell ⟨w.heap.size + 1, i, none⟩ u) v (secL s t n)) := fun w4 i u ho4 => ⟨own_setCell ho4 (fun e => by have := HAP.out _ e; omega), own_setCell ho4 (fun e => by have := HAP.out _ e; omega)⟩
  clear hc3 ho hfr hb4 hb5 cf df
  go_wp2
  refine bodyPost_ret (v := .tuple #[.agg #[.int .i64 (s : Nat), .int .i64 (h : Nat), .int .i64 ((t : Int) + (n : Int))], v, .int .i64 0]) (by simp [results, Try.results19, go_sem, d0, d1, d2]) rfl ⟨v, rfl, ?_, HF.out, ?_⟩
  · exact (HOW.out _ _ _ (HOW.out _ _ _ (HOW.out _ _ _ (HOW.out _ _ _ HO.out).1).2).2).2
  · exact ((((HB3.out.setCell (by simp) _).setCell (by simp) _).setCell (by simp) _).setCell (by simp) _)

end Sp
end Go.Proofs.Ytbgadcofjhgmiaa
