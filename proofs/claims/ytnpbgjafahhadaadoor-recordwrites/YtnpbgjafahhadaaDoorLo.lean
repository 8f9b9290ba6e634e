/- How a record that is handed in is read. -/
import Derived.Test.YtnpbgjafahhadaaDoorLw
import Derived.Test.YtnpbgjafahhadaaDoorLr
namespace Go.Proofs.YtnpbgjafahhadaaDoor
open Go.RowKit
namespace Re
open Cr
open Go.ChangeShapes Go.WideShapes Go.ChangeAt Go.Deep
set_option maxRecDepth 100000
section
variable {H : Type} {enc : TypeId × Value → H} {W : World}
theorem array6 {α : Type} {cs : Array α} (h : cs.size = 6) : ∃ c0 c1 c2 c3 c4 c5, cs = #[c0, c1, c2, c3, c4, c5] := by
  obtain ⟨l⟩ := cs
  match l, h with
  | [c0, c1, c2, c3, c4, c5], _ => exact ⟨c0, c1, c2, c3, c4, c5, rfl⟩
theorem cellsR : Tryd.prog.cellsOf 24 = 6 := by kernel_rfl
theorem cellsS : Tryd.prog.cellsOf 39 = 2 := by kernel_rfl
theorem cellsL : Tryd.prog.cellsOf 22 = 1 := by kernel_rfl
theorem open_span_cells {fuel : Nat} {cs : List Value} {x : DataW H × List MemPlace} (h : DataW.trod enc Tryd.prog W 0 (fun _ => true) true fuel 39 cs = some x) : ∃ s : Int × Int, cs = [.int .i64 s.1, .int .i64 s.2] ∧ Fit s := by
  obtain ⟨y0, y1, n, _, hl, h0, h1⟩ := trod_struct2 Tryd.underlying39 h
  rw [cellsS] at hl
  match cs, hl with
  | [c0, c1], _ =>
    simp only [cells3] at h0 h1
    obtain ⟨a, e0, _, wa⟩ := DataW.trod_int Tryd.underlying3 h0
    obtain ⟨b, e1, _, wb⟩ := DataW.trod_int Tryd.underlying3 h1
    simp at e0 e1
    exact ⟨(a, b), by rw [e0, e1], wf_i64 wa, wf_i64 wb⟩
theorem open_spans_cells {fuel : Nat} {cs : List Value} {x : DataW H × List MemPlace} (hf : DataW.trod enc Tryd.prog W 0 (fun _ => true) true fuel 22 cs = some x) : ∃ a len cap xs, cs = [.slice a len cap] ∧ Sl W a len xs := by
  rcases open_slice Tryd.underlying22 hf with ⟨hcs, _⟩ | ⟨ad, len, cap, m, n, D, Pl, hcs, hb, hl, hmx, hm, _, hel⟩
  · exact ⟨none, 0, 0, [], hcs, sl_nil W 0⟩
  · refine ⟨some ad, len, cap, ?_⟩
    simp only [if_true] at hm
    subst hm
    rw [cellsS] at hel
    obtain ⟨V, hV⟩ := choose_lt (α := Int × Int) (n := len) (p := fun i s => W.cells? 0 (ad.add (i * 2)) 2 = some [.int .i64 s.1, .int .i64 s.2] ∧ Fit s) (fun i hi => by
      obtain ⟨cs', h1, h2⟩ := hel i (by omega)
      obtain ⟨s, rfl, hs⟩ := open_span_cells h2
      exact ⟨s, h1, hs⟩)
    have hn : ∀ i, i < len → nth ((List.range len).map V) i = V i := fun i hi => by simp [nth, hi]
    refine ⟨(List.range len).map V, hcs, by simp, Nat.le_trans hl (by simpa [maxLen] using hmx), fun x hx => ?_, fun i hi => ?_⟩
    · simp only [List.mem_map, List.mem_range] at hx
      obtain ⟨i, hi, rfl⟩ := hx
      exact (hV i hi).2
    · simp only [List.length_map, List.length_range] at hi
      have h1 := (hV i hi).1
      have hblk := World.cells?_block h1 (by omega)
      obtain ⟨_, _, hcell⟩ := World.cells?_some h1
      have g0 := hcell 0 (by omega)
      have g1 := hcell 1 (by omega)
      obtain ⟨b, off, spot⟩ := ad
      have hspot : spot = none := by
        have k1 := (hV 0 (by omega)).1
        have k0 := (World.cells?_some k1).2.2 0 (by omega)
        have : W.cell? ⟨b, off, spot⟩ = some (.int .i64 (V 0).1) := by simpa [Addr.add] using k0
        exact World.cell?_spot this
      subst hspot
      rw [hn i hi]
      refine ⟨b, off, rfl, by simpa [Addr.add_lit] using hblk, ?_, ?_⟩
      · simpa [Addr.add_lit] using g0
      · simpa [Addr.add_lit] using g1
theorem open_rec {v : Value} {d : DataW H} {p : List MemPlace} {base : Nat} (hv : Value.okWide Tryd.prog W .any base 24 v) (h : DataW.Trod enc Tryd.prog W 0 (fun _ => true) true 24 v d p) : ∃ (ep nu ki : Int) (a : Option Addr) (n cap : Nat) (xs : List (Int × Int)) (da tx : ByteArray),
    v = .agg #[.int .i64 ep, .int .i64 nu, .int .i64 ki, .slice a n cap, .string da, .string tx] ∧ Sl W a n xs ∧ da.size ≤ 9223372036854775807 ∧ tx.size ≤ 9223372036854775807 ∧ I64 ep ∧ I64 nu ∧ I64 ki := by
  obtain ⟨cs, rfl, hsz⟩ := okWide_struct Tryd.underlying24 hv
  obtain ⟨c0, c1, c2, c3, c4, c5, rfl⟩ := array6 (hsz.trans cellsR)
  obtain ⟨fuel, hf⟩ := h
  obtain ⟨xs, n, _, _, _, hlen, hel⟩ := DataW.trod_struct Tryd.underlying24 hf
  have h0 := hel 0 _ rfl
  have h1 := hel 1 _ rfl
  have h2 := hel 2 _ rfl
  have h3 := hel 3 _ rfl
  have h4 := hel 4 _ rfl
  have h5 := hel 5 _ rfl
  have hlen6 : xs.length = 6 := hlen
  clear hel hf hv hlen
  match xs, hlen6 with
  | [y0, y1, y2, y3, y4, y5], _ =>
    obtain ⟨a0, e0, _, w0⟩ := DataW.trod_int Tryd.underlying3 h0
    obtain ⟨a1, e1, _, w1⟩ := DataW.trod_int Tryd.underlying3 h1
    obtain ⟨a2, e2, _, w2⟩ := DataW.trod_int Tryd.underlying3 h2
    obtain ⟨a, len, cap, ys, e3, hS⟩ := open_spans_cells h3
    obtain ⟨s4, e4, _, w4⟩ := DataW.trod_string Tryd.underlying9 h4
    obtain ⟨s5, e5, _, w5⟩ := DataW.trod_string Tryd.underlying9 h5
    simp [cells3, cells9, cellsL, Value.cells] at e0 e1 e2 e3 e4 e5
    subst e0 e1 e2 e3 e4 e5
    exact ⟨a0, a1, a2, a, len, cap, ys, s4, s5, rfl, hS, most_of w4, most_of w5, wf_i64 w0, wf_i64 w1, wf_i64 w2⟩
end
end Re
end Go.Proofs.YtnpbgjafahhadaaDoor
