/- Package bucket: a copy of a bucket. -/
import Derived.Test.YthnhapjjgaicdaaRk
import Derived.Test.YthnhapjjgaicdaaLg
namespace Go.Proofs.Ythnhapjjgaicdaa
open Go.RowKit
namespace Wi

theorem Fresh.grew {w w' : World} {e : TypeId} {size n : Nat} {xs : List Value} {v : Value} (h : Fresh w e size n xs w' v) (u : Value) : Grew w e size u n xs w' v := ⟨h.row, Keep.of_below h.below, .inr h.new⟩
theorem below_set {w w1 : World} {R i : Nat} (hb : Below w.heap.size w w1) (hR : w.heap.size ≤ R) (v : Value) : Below w.heap.size w (w1.setCell ⟨R, i, none⟩ v) :=
  hb.trans ((Keep.setCell (X := fun j => j = R) w1 ⟨R, i, none⟩ v rfl).below hb.size fun k hk e => by omega)
set_option maxHeartbeats 4000000 in
theorem copy_any {w : World} {b : Nat} {X : Nat → Prop} {d : Bk} (h : bkT b d w X) (ho : d.objs.length ≤ 1000000) (hf : d.fates.length ≤ 1000000) (hl : d.late.length ≤ 1000000) : Calls Try.prog 18 #[.pointer (some ⟨b, 0, none⟩)] w fun e w' => e = .returned (.pointer (some ⟨w.heap.size, 0, none⟩)) ∧ (∃ Y, bkT w.heap.size d w' Y ∧ ∀ k, Y k → w.heap.size ≤ k) ∧ Below w.heap.size w w' := by
  obtain ⟨ov, fv, lv, h, rfl⟩ := h
  obtain ⟨c0, c1, c2, c3, c4⟩ := h.raw.c
  obtain ⟨oa, oc, rfl⟩ := h.raw.os.form
  obtain ⟨fa, fc, rfl⟩ := h.raw.fs.form
  obtain ⟨la, lc, rfl⟩ := h.raw.ls.form
  have HH := hide h.raw
  have HOK := hide h.ok
  have lB := h.raw.lt
  clear h
  generalize hTO : total d.objs = TO at *
  have HTO := hide hTO
  clear hTO
  have hb0 := below_alloc w (.cells #[.slice oa d.objs.length oc, .int .i64 (TO : Nat), .int .i64 (d.quota : Nat), .slice fa d.fates.length fc, .slice la d.late.length lc] 69)
  have hN0 := heap_alloc_new w (.cells #[.slice oa d.objs.length oc, .int .i64 (TO : Nat), .int .i64 (d.quota : Nat), .slice fa d.fates.length fc, .slice la d.late.length lc] 69)
  have h0 := HH.out.later hb0
  obtain ⟨w0, hw0⟩ : ∃ w0, w0 = w.alloc (.cells #[.slice oa d.objs.length oc, .int .i64 (TO : Nat), .int .i64 (d.quota : Nat), .slice fa d.fates.length fc, .slice la d.late.length lc] 69) := ⟨_, rfl⟩
  rw [← hw0] at hb0 hN0 h0
  have HW0 := hide hw0
  have hlR : w.heap.size < w0.heap.size := lt_of_block hN0
  have HT0 : Hid (RawB w0 w.heap.size (.slice oa d.objs.length oc) (.slice fa d.fates.length fc) (.slice la d.late.length lc) (TO : Nat) (d.quota : Nat) d.objs d.fates d.late) := ⟨hN0, h0.os, h0.fs, h0.ls, fun e => Nat.lt_irrefl _ (HH.out.os.lt _ e), fun e => Nat.lt_irrefl _ (HH.out.fs.lt _ e), fun e => Nat.lt_irrefl _ (HH.out.ls.lt _ e), h0.nof, h0.nol, h0.nfl⟩
  have hcl1 := clone39 h0.os (encOs_one _) ho
  have HB0 := hide hb0
  clear hw0 hN0 h0 hb0
  go_enter Try.func18, Try.ntmps18
  go_wp2_with fail
  rw [← HW0.out]
  refine hcl1.mono ?_
  rintro e w1 ⟨v1, rfl, hF1⟩
  obtain ⟨a1, n1, k1, rfl⟩ := hF1.row.own_form
  have hT1 := (HT0.out.putObjs (hF1.grew _)).1
  have hb1 := HB0.out.trans (hF1.below.mono HB0.out.size)
  have hb1' := below_set (i := 0) hb1 (Nat.le_refl _) (.slice a1 n1 k1)
  have hn1 : From w.heap.size (.slice a1 n1 k1) := fun k hk => Nat.le_trans (Nat.le_of_lt hlR) (hF1.new k hk)
  have hcl2 := clone40 (HH.out.fs.later hb1') (encF_one _) hf
  have x3 := (hb1'.cell (p := ⟨b, 3, none⟩) lB).trans c3
  have y0 := (hF1.below.cell (p := ⟨w.heap.size, 0, none⟩) hlR).trans HT0.out.c.1
  have z0 := (hF1.below.frozen (p := ⟨w.heap.size, 0, none⟩) hlR).trans (HT0.out.fr 0)
  have HT1 := hide hT1
  have HB1 := hide hb1'
  have HN1 := hide hn1
  obtain ⟨w2, hw2⟩ : ∃ w2, w2 = w1.setCell ⟨w.heap.size, 0, none⟩ (.slice a1 n1 k1) := ⟨_, rfl⟩
  rw [← hw2] at hcl2 HT1 HB1
  have HW2 := hide hw2
  clear hw2 hcl1 hF1 hT1 hb1 hb1' hn1 HT0 HB0
  go_wp2_with fail
  rw [← HW2.out]
  refine hcl2.mono ?_
  rintro e w3 ⟨v2, rfl, hF2⟩
  obtain ⟨a2, n2, k2, rfl⟩ := hF2.row.own_form
  have hT2 := (HT1.out.putFates (hF2.grew _)).1
  have hlR2 : w.heap.size < w2.heap.size := HT1.out.lt
  have hb2 := HB1.out.trans (hF2.below.mono HB1.out.size)
  have hb2' := below_set (i := 3) hb2 (Nat.le_refl _) (.slice a2 n2 k2)
  have hn2 : From w.heap.size (.slice a2 n2 k2) := fun k hk => Nat.le_trans (Nat.le_of_lt hlR2) (hF2.new k hk)
  have hcl3 := clone41 (HH.out.ls.later hb2') (encLs_one _) hl
  have x4 := (hb2'.cell (p := ⟨b, 4, none⟩) lB).trans c4
  have y3 := (hF2.below.cell (p := ⟨w.heap.size, 3, none⟩) hlR2).trans HT1.out.c.2.2.2.1
  have z3 := (hF2.below.frozen (p := ⟨w.heap.size, 3, none⟩) hlR2).trans (HT1.out.fr 3)
  have HT2 := hide hT2
  have HB2 := hide hb2'
  have HN2 := hide hn2
  obtain ⟨w4, hw4⟩ : ∃ w4, w4 = w3.setCell ⟨w.heap.size, 3, none⟩ (.slice a2 n2 k2) := ⟨_, rfl⟩
  rw [← hw4] at hcl3 HT2 HB2
  have HW4 := hide hw4
  clear hw4 hcl2 hF2 hT2 hb2 hb2' hn2 HT1 HB1 x3 y0 z0
  go_wp2_with fail
  rw [← HW4.out]
  refine hcl3.mono ?_
  rintro e w5 ⟨v3, rfl, hF3⟩
  obtain ⟨a3, n3, k3, rfl⟩ := hF3.row.own_form
  have hT3 := (HT2.out.putLate (hF3.grew _)).1
  have hlR4 : w.heap.size < w4.heap.size := HT2.out.lt
  have hb3 := HB2.out.trans (hF3.below.mono HB2.out.size)
  have HB3 := hide (below_set (i := 4) hb3 (Nat.le_refl _) (.slice a3 n3 k3))
  have HN3 : Hid (From w.heap.size (.slice a3 n3 k3)) := fun k hk => Nat.le_trans (Nat.le_of_lt hlR4) (hF3.new k hk)
  have y4 := (hF3.below.cell (p := ⟨w.heap.size, 4, none⟩) hlR4).trans HT2.out.c.2.2.2.2
  have z4 := (hF3.below.frozen (p := ⟨w.heap.size, 4, none⟩) hlR4).trans (HT2.out.fr 4)
  have HT3 := hide hT3
  clear hcl3 hF3 hT3 hb3 HT2 HB2 x4 y3 z3
  go_wp2
  go_ret
  refine ⟨rfl, ⟨xB w.heap.size (.slice a1 n1 k1) (.slice a2 n2 k2) (.slice a3 n3 k3), ⟨_, _, _, ⟨?_, HOK.out⟩, rfl⟩, fun k hk => ?_⟩, HB3.out⟩
  · rw [HTO.out]
    exact HT3.out
  · rcases hk with e | e | e | e
    · omega
    · exact HN1.out k e
    · exact HN2.out k e
    · exact HN3.out k e

end Wi
end Go.Proofs.Ythnhapjjgaicdaa
