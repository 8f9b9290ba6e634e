/- A part of the proofs about package span: what its functions answer, call by call. -/
import Derived.Test.YthbgniclplfpgaaLk
import Derived.Test.YthbgniclplfpgaaRows
import Derived.ProofKit
import Derived.Deep.Slices
import Derived.ChangeOld
import Derived.OpenShut
import Derived.Lib.SmallJoins
namespace Go.Proofs.Ythbgniclplfpgaa
open Go.RowKit
namespace Sp

open Go.ChangeShapes Go.WideShapes Go.ChangeAt Go.Deep
theorem cells27 : Try.prog.cellsOf 27 = 2 := by kernel_rfl
theorem cells3 : Try.prog.cellsOf 3 = 1 := by kernel_rfl
theorem own : ownKnob Try.prog.godebug = none := by kernel_rfl
theorem laidOut : laidOutB Try.prog = true := by kernel_rfl
theorem wf_i64 {n : Int} (h : (Lit.int .i64 n).wf = true) : -9223372036854775808 ≤ n ∧ n ≤ 9223372036854775807 := by
  simpa [Lit.wf, IntKind.min, IntKind.max, IntKind.bits, IntKind.signed] using h
section
variable {H : Type} {enc : TypeId × Value → H} {W : World}

theorem open_span_cells {fuel : Nat} {cs : List Value} {x : DataW H × List MemPlace} (h : DataW.trod enc Try.prog W 0 (fun _ => true) true fuel 27 cs = some x) : ∃ s : Int × Int, cs = [.int .i64 s.1, .int .i64 s.2] ∧ Fit s := by
  obtain ⟨y0, y1, n, _, hl, h0, h1⟩ := trod_struct2 Try.underlying27 h
  rw [cells27] at hl
  match cs, hl with
  | [c0, c1], _ =>
    simp only [cells3] at h0 h1
    obtain ⟨a, e0, _, wa⟩ := DataW.trod_int Try.underlying3 h0
    obtain ⟨b, e1, _, wb⟩ := DataW.trod_int Try.underlying3 h1
    simp at e0 e1
    exact ⟨(a, b), by rw [e0, e1], wf_i64 wa, wf_i64 wb⟩

theorem open_spans {a : Option Addr} {len cap : Nat} {d : DataW H} {p : List MemPlace} (h : DataW.Trod enc Try.prog W 0 (fun _ => true) true 22 (.slice a len cap) d p) : Cap a len cap ∧ ∃ xs, Sl W a len xs := by
  obtain ⟨fuel, hf⟩ := h
  rcases open_slice Try.underlying22 hf with ⟨hcs, _⟩ | ⟨ad, l, c, m, n, D, Pl, hcs, hb, hl, hmx, hm, _, hel⟩
  · simp [Value.cells] at hcs
    obtain ⟨rfl, rfl, rfl⟩ := hcs
    exact ⟨⟨Nat.le_refl _, fun _ => rfl⟩, [], rfl, by omega, by simp, fun i hi => by simp at hi⟩
  · simp [Value.cells] at hcs
    obtain ⟨rfl, rfl, rfl⟩ := hcs
    refine ⟨⟨hl, fun h => by simp at h⟩, ?_⟩
    simp only [if_true] at hm
    subst hm
    rw [cells27] at hel
    obtain ⟨V, hV⟩ := choose_lt (α := Int × Int) (n := len) (p := fun i s => W.cells? 0 (ad.add (i * 2)) 2 = some [.int .i64 s.1, .int .i64 s.2] ∧ Fit s) (fun i hi => by
      obtain ⟨cs', h1, h2⟩ := hel i (by omega)
      obtain ⟨s, rfl, hs⟩ := open_span_cells h2
      exact ⟨s, h1, hs⟩)
    have hn : ∀ i, i < len → nth ((List.range len).map V) i = V i := fun i hi => by simp [nth, hi]
    refine ⟨(List.range len).map V, by simp, Nat.le_trans hl (by simpa [maxLen] using hmx), fun x hx => ?_, fun i hi => ?_⟩
    · simp only [List.mem_map, List.mem_range] at hx
      obtain ⟨i, hi, rfl⟩ := hx
      exact (hV i hi).2
    · simp only [List.length_map, List.length_range] at hi
      have h1 := (hV i hi).1
      have hblk := World.cells?_block h1 (by omega)
      obtain ⟨_, _, hcell⟩ := World.cells?_some h1
      have g0 := hcell 0 (by omega)
      have g1 := hcell 1 (by omega)
      obtain ⟨b, off, spot⟩ := ad
      have hspot : spot = none := by
        have k1 := (hV 0 (by omega)).1
        have k0 := (World.cells?_some k1).2.2 0 (by omega)
        have : W.cell? ⟨b, off, spot⟩ = some (.int .i64 (V 0).1) := by simpa [Addr.add] using k0
        exact World.cell?_spot this
      subst hspot
      rw [hn i hi]
      refine ⟨b, off, rfl, by simpa [Addr.add_lit] using hblk, ?_, ?_⟩
      · simpa [Addr.add_lit] using g0
      · simpa [Addr.add_lit] using g1

theorem open_span {v : Value} {d : DataW H} {p : List MemPlace} {base : Nat} (hv : Value.okWide Try.prog W .any base 27 v) (h : DataW.Trod enc Try.prog W 0 (fun _ => true) true 27 v d p) : ∃ s : Int × Int, v = .agg #[.int .i64 s.1, .int .i64 s.2] ∧ Fit s := by
  obtain ⟨c0, c1, y0, y1, m, rfl, rfl, rfl, hy0, hy1⟩ := Go.Joins.open_agg2 Try.underlying27 (by kernel_rfl) cells27 hv h
  obtain ⟨a, e0, _, wa⟩ := DataW.trod_int Try.underlying3 hy0
  obtain ⟨b, e1, _, wb⟩ := DataW.trod_int Try.underlying3 hy1
  simp at e0 e1
  subst e0 e1
  exact ⟨(a, b), rfl, wf_i64 wa, wf_i64 wb⟩

theorem okWide_arr {n : Nat} {e t : TypeId} {r : Reach} {b0 : Nat} {v : Value} (ht : Try.prog.underlying t = some (.array n e)) (h : Value.okWide Try.prog W r b0 t v) : ∃ cs, v = .agg cs ∧ cs.size = Try.prog.cellsOf t := by
  simp only [Value.okWide, ht] at h
  cases v <;> simp_all
theorem open_arr2 {v : Value} {d : DataW H} {p : List MemPlace} {base : Nat} (hv : Value.okWide Try.prog W .any base 47 v) (h : DataW.Trod enc Try.prog W 0 (fun _ => true) true 47 v d p) : ∃ s : Int × Int, v = .agg #[.int .i64 s.1, .int .i64 s.2] ∧ Fit s := by
  obtain ⟨cs, rfl, hsz⟩ := okWide_arr Try.underlying47 hv
  have h47 : Try.prog.cellsOf 47 = 2 := by kernel_rfl
  obtain ⟨c0, c1, rfl⟩ := Go.Joins.array2 (hsz.trans h47)
  obtain ⟨fuel, hf⟩ := h
  obtain ⟨xs, m, _, _, _, _, hel⟩ := DataW.trod_array Try.underlying47 hf
  have h0 := hel 0 (by omega)
  have h1 := hel 1 (by omega)
  simp only [cells3, Value.cells] at h0 h1
  have g0 : ∃ x, xs[0]? = some x := by rw [List.getElem?_eq_getElem (by omega)]; exact ⟨_, rfl⟩
  have g1 : ∃ x, xs[1]? = some x := by rw [List.getElem?_eq_getElem (by omega)]; exact ⟨_, rfl⟩
  obtain ⟨x0, g0⟩ := g0
  obtain ⟨x1, g1⟩ := g1
  rw [g0] at h0
  rw [g1] at h1
  obtain ⟨a, e0, _, wa⟩ := DataW.trod_int Try.underlying3 h0
  obtain ⟨b, e1, _, wb⟩ := DataW.trod_int Try.underlying3 h1
  simp at e0 e1
  subst e0 e1
  exact ⟨(a, b), rfl, wf_i64 wa, wf_i64 wb⟩
end

end Sp
end Go.Proofs.Ythbgniclplfpgaa
