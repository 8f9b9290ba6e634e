/- The sectors of a span that are nowhere in the map of the document; two lists of spans that are the same. -/
import Derived.Test.YtjbgojccfkmlnaaYb
import Derived.Test.YtjbgojccfkmlnaaRe
import Derived.Test.YtjbgojccfkmlnaaSp
namespace Go.Proofs.Ytjbgojccfkmlnaa
open Go.RowKit
namespace Wi

theorem RefM.keep {X : Nat → Prop} {w w' : World} {r gi gs n : Nat} {d : Rf} (h : RefM w r gi gs n d) (k : Keep X w w') (h1 : ¬ X r) (h2 : ¬ X gi) (h3 : ¬ X gs) : RefM w' r gi gs n d :=
  ⟨(k.block r (lt_of_block h.blk) h1).trans h.blk, (k.block gi (lt_of_block h.is_) h2).trans h.is_, (k.block gs (lt_of_block h.sp_) h3).trans h.sp_, h.n1, h.n2, h.n3⟩
/-- The sectors of a span that are nowhere, up to one. -/
def noF (d : Rf) (a p : Nat) : Nat → Bool := fun j => decide (a ≤ j ∧ j < p) && !d.is j
theorem noF_zero (d : Rf) (a : Nat) : noF d a a = fun _ => false := by
  funext j
  unfold noF
  rw [decide_eq_false (by omega), Bool.false_and]
theorem noF_succ (d : Rf) (a p : Nat) (h : a ≤ p) : (fun j => if j = p then !d.is p else noF d a p j) = noF d a (p + 1) := by
  funext j
  unfold noF
  by_cases e : j = p
  · subst e
    rw [if_pos rfl, decide_eq_true (by omega), Bool.true_and]
  · rw [if_neg e]
    congr 1
    apply decide_eq_decide.2
    omega
theorem encBs_sb {w : World} {g n : Nat} {f : Nat → Bool} (h : w.heap[g]? = some (.cells (encBs n f).toArray 4 (0, 0))) (hn : n ≤ 65536) : Sp.Sb w (some ⟨g, 0, none⟩) n f :=
  ⟨hn, fun i hi => ⟨g, 0, rfl, lt_of_block h, by
    rw [Nat.zero_add, cell_of_row _ _ _ _ _ _ h, List.getElem?_toArray]
    exact encBs_get f hi⟩⟩
/-- Two sets of the same sectors are the same. -/
theorem so_holes {d : Rf} {a m n : Nat} {ys zs : List (Int × Int)} {l : List Xt} (h : Sp.SO (noF d a (a + m)) n ys) (ham : a + m ≤ n) (hz : Sp.setB zs = true) (hr : Rel l d n) (hw : ∀ i, Sp.wi zs i = true ↔ ∃ j : Nat, i = (j : Int) ∧ a ≤ j ∧ j < a + m ∧ spot l j = none) : zs = ys :=
  Sp.set_ext hz h.set fun i => by
    rw [hw i, h.mem i]
    constructor
    · rintro ⟨j, e, h1, h2, h3⟩
      refine ⟨j, by omega, e, ?_⟩
      rw [hr j] at h3
      unfold noF
      rw [decide_eq_true ⟨h1, h2⟩, Bool.true_and]
      cases hd : d.is j with
      | false => rfl
      | true => rw [if_pos ⟨by omega, hd⟩] at h3; cases h3
    · rintro ⟨j, h1, e, h2⟩
      unfold noF at h2
      rw [Bool.and_eq_true, decide_eq_true_eq] at h2
      refine ⟨j, e, h2.1.1, h2.1.2, ?_⟩
      rw [hr j, if_neg]
      rintro ⟨_, h4⟩
      rw [h4] at h2
      exact absurd h2.2 (by decide)

set_option maxRecDepth 100000 in
set_option maxHeartbeats 4000000 in
theorem refholes_any {w : World} {r gi gs n : Nat} {d : Rf} (h : RefM w r gi gs n d) (hn : n ≤ 65536) (a m : Nat) (ham : a + m ≤ n) :
    Calls Try.prog 37 #[.pointer (some ⟨r, 0, none⟩), .agg #[.int .i64 (a : Nat), .int .i64 (m : Nat)]] w fun e w' => ∃ f ys, e = .returned f ∧ Sp.Own w' f ys ∧ From w.heap.size f ∧ Sp.SO (noF d a (a + m)) n ys ∧ Below w.heap.size w w' := by
  have hrl := lt_of_block h.blk
  have hgi := lt_of_block h.is_
  have hgs := lt_of_block h.sp_
  have hmk : ∀ w, (Instr.makeSlice 45 (.int .i64 (n : Int)) (.int .i64 (n : Int))).run Try.prog w = .ok (.slice (some ⟨w.heap.size, 0, none⟩) n n) (w.alloc (.cells (encBs n fun _ => false).toArray 4)) := fun w => make45 (by omega) w
  have hb1 := below_alloc w (.cells #[.int .i64 (a : Nat), .int .i64 (m : Nat)] 38)
  have hb2 := hb1.alloc hb1.size (.cells (encBs n fun _ => false).toArray 4)
  obtain ⟨W1, hW1⟩ : ∃ W1, W1 = w.alloc (.cells #[.int .i64 (a : Nat), .int .i64 (m : Nat)] 38) := ⟨_, rfl⟩
  have hs1 : W1.heap.size = w.heap.size + 1 := by rw [hW1]; simp
  have c0 := (h.later hb1).c0
  have HI : Hid (∀ W2, W2 = (w.alloc (.cells #[.int .i64 (a : Nat), .int .i64 (m : Nat)] 38)).alloc (.cells (encBs n fun _ => false).toArray 4) → RefM W2 r gi gs n d ∧ (W2.cell? ⟨w.heap.size, 0, none⟩ = some (.int .i64 (a : Nat)) ∧ W2.cell? ⟨w.heap.size, 1, none⟩ = some (.int .i64 (m : Nat))) ∧ W2.heap[w.heap.size + 1]? = some (.cells (encBs n (noF d a a)).toArray 4 (0, 0)) ∧ Below w.heap.size w W2) := fun W2 e => by
    subst e
    rw [noF_zero]
    have hh := heap_alloc_new w (.cells #[.int .i64 (a : Nat), .int .i64 (m : Nat)] 38)
    have hx := below_alloc (w.alloc (.cells #[.int .i64 (a : Nat), .int .i64 (m : Nat)] 38)) (.cells (encBs n fun _ => false).toArray 4)
    have hl := lt_of_block hh
    refine ⟨h.later hb2, ⟨?_, ?_⟩, ?_, hb2⟩
    · rw [hx.cell hl, cell_of_row _ _ _ _ _ _ hh]; rfl
    · rw [hx.cell hl, cell_of_row _ _ _ _ _ _ hh]; rfl
    · have := heap_alloc_new (w.alloc (.cells #[.int .i64 (a : Nat), .int .i64 (m : Nat)] 38)) (.cells (encBs n fun _ => false).toArray 4)
      rw [← hW1, hs1] at this
      rw [hW1] at this
      exact this
  have hwr : IntKind.i64.wrap ((a : Int) + (m : Int)) = (a : Int) + (m : Int) := by rw [IntKind.wrap_i64]; omega
  clear h hb1 hb2 hW1 hs1
  go_enter Try.func37, Try.ntmps37
  go_wp2
  go_loopw [6] (fun i wr => ∃ p : Nat, a ≤ p ∧ p ≤ a + m ∧ i = .int .i64 p ∧ RefM wr r gi gs n d ∧ (wr.cell? ⟨w.heap.size, 0, none⟩ = some (.int .i64 (a : Nat)) ∧ wr.cell? ⟨w.heap.size, 1, none⟩ = some (.int .i64 (m : Nat))) ∧ wr.heap[w.heap.size + 1]? = some (.cells (encBs n (noF d a p)).toArray 4 (0, 0)) ∧ Below w.heap.size w wr) (fun i _ => a + m - (intOf i).toNat)
  case atStart =>
    obtain ⟨q1, q2, q3, q4⟩ := HI.out _ rfl
    exact ⟨a, Nat.le_refl _, Nat.le_add_right _ _, rfl, q1, q2, q3, q4⟩
  case round =>
    clear HI c0
    obtain ⟨p, hp1, hp2, rfl, hR, ⟨c0, c1⟩, hG, hb⟩ := hrel
    by_cases hlt : p < a + m
    · have d0 := hR.c0
      have d1 := hR.b (i := p) (by omega)
      have hGl := lt_of_block hG
      have hfr := frozen_of_row wr (w.heap.size + 1) p _ _ hG
      have hcg : wr.cell? ⟨w.heap.size + 1, p, none⟩ = some (.bool (noF d a p p)) := by
        rw [cell_of_row _ _ _ _ _ _ hG, List.getElem?_toArray]
        exact encBs_get _ (by omega)
      have hlt2 : (p : Int) < (a : Int) + (m : Int) := by omega
      have hk := Keep.setCell (X := fun k => k = w.heap.size + 1) wr ⟨w.heap.size + 1, p, none⟩ (.bool (!d.is p)) rfl
      have HR := hide (hR.keep hk (by omega) (by omega) (by omega))
      have HC : Hid ((wr.setCell ⟨w.heap.size + 1, p, none⟩ (.bool (!d.is p))).cell? ⟨w.heap.size, 0, none⟩ = some (.int .i64 (a : Nat)) ∧ (wr.setCell ⟨w.heap.size + 1, p, none⟩ (.bool (!d.is p))).cell? ⟨w.heap.size, 1, none⟩ = some (.int .i64 (m : Nat))) := ⟨(keep_cell hk (by omega) (by omega)).trans c0, (keep_cell hk (by omega) (by omega)).trans c1⟩
      have HG : Hid ((wr.setCell ⟨w.heap.size + 1, p, none⟩ (.bool (!d.is p))).heap[w.heap.size + 1]? = some (.cells (encBs n (noF d a (p + 1))).toArray 4 (0, 0))) := by
        show _ = _
        rw [setCell_blk hG, encBs_set, noF_succ d a p hp1]
      have HB := hide (hb.trans (hk.below (B := w.heap.size) hb.size (fun k hk he => by omega)))
      clear hR hG hb hk
      go_wp2
      go_roundw
      case rel => exact ⟨p + 1, by omega, by omega, by go_num, HR.out, HC.out, HG.out, HB.out⟩
      case measure => simp [intOf]; omega
    · obtain rfl : p = a + m := by omega
      have hc := Sp.set_any (some ⟨w.heap.size + 1, 0, none⟩) n n _ wr (encBs_sb hG hn)
      have hlt2 : ¬ (((a + m : Nat) : Int)) < (a : Int) + (m : Int) := by omega
      have HB := hide hb
      clear hR hG hb hlt
      go_wp2_with fail
      refine hc.mono ?_
      rintro e w3 ⟨ys, hso, v, rfl, ho, hfr, hb3⟩
      have HSO := hide hso
      have HO := hide ho
      have HFR : Hid (From w.heap.size v) := fun q hq => Nat.le_trans HB.out.size (hfr q hq)
      have HB3 := hide (HB.out.trans (hb3.mono HB.out.size))
      clear hc hso ho hfr hb3
      go_wp2
      go_ret
      exact ⟨v, ys, rfl, HO.out, HFR.out, HSO.out, HB3.out⟩

end Wi
end Go.Proofs.Ytjbgojccfkmlnaa
