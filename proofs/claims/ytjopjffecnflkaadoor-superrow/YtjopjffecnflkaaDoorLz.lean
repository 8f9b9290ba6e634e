/- How a slice of pairs of ints that is handed in is read. -/
import Derived.Test.YtjopjffecnflkaaDoorLw
import Derived.Test.YtjopjffecnflkaaDoorLg
namespace Go.Proofs.YtjopjffecnflkaaDoor
open Go.RowKit
namespace Su
open Cr
open Go.ChangeShapes Go.WideShapes Go.ChangeAt Go.Deep
section
variable {H : Type} {enc : TypeId × Value → H} {W : World}
theorem cellsP : Tryd.prog.cellsOf 49 = 2 := by kernel_rfl
theorem open_pair_cells {fuel : Nat} {cs : List Value} {x : DataW H × List MemPlace} (hl : cs.length = 2) (h : DataW.trod enc Tryd.prog W 0 (fun _ => true) true fuel 49 cs = some x) : ∃ o : Int × Int, cs = [.int .i64 o.1, .int .i64 o.2] ∧ I64 o.1 ∧ I64 o.2 := by
  obtain ⟨xs, m, _, _, _, _, hel⟩ := DataW.trod_array Tryd.underlying49 h
  have h0 := hel 0 (by omega)
  have h1 := hel 1 (by omega)
  match cs, hl with
  | [c0, c1], _ =>
    simp only [cells3] at h0 h1
    have g0 : ∃ x, xs[0]? = some x := by rw [List.getElem?_eq_getElem (by omega)]; exact ⟨_, rfl⟩
    have g1 : ∃ x, xs[1]? = some x := by rw [List.getElem?_eq_getElem (by omega)]; exact ⟨_, rfl⟩
    obtain ⟨x0, g0⟩ := g0
    obtain ⟨x1, g1⟩ := g1
    rw [g0] at h0
    rw [g1] at h1
    obtain ⟨a, e0, _, wa⟩ := DataW.trod_int Tryd.underlying3 h0
    obtain ⟨b, e1, _, wb⟩ := DataW.trod_int Tryd.underlying3 h1
    simp at e0 e1
    exact ⟨⟨a, b⟩, by rw [e0, e1], wf_i64 wa, wf_i64 wb⟩
theorem open_pairs {a : Option Addr} {len cap : Nat} {d : DataW H} {p : List MemPlace} (h : DataW.Trod enc Tryd.prog W 0 (fun _ => true) true 52 (.slice a len cap) d p) : ∃ xs, Ps W a len xs ∧ len ≤ 9223372036854775807 := by
  obtain ⟨fuel, hf⟩ := h
  rcases open_slice Tryd.underlying52 hf with ⟨hcs, _⟩ | ⟨ad, l, c, m, n, D, Pl, hcs, hb, hl, hmx, hm, _, hel⟩
  · simp [Value.cells] at hcs
    obtain ⟨rfl, rfl, rfl⟩ := hcs
    exact ⟨[], ⟨rfl, by simp, fun i o hi => by simp at hi⟩, by omega⟩
  · simp [Value.cells] at hcs
    obtain ⟨rfl, rfl, rfl⟩ := hcs
    simp only [if_true] at hm
    subst hm
    rw [cellsP] at hel
    have hex : ∀ i, i < len → ∃ o : Int × Int, W.cells? 0 (ad.add (i * 2)) 2 = some [.int .i64 o.1, .int .i64 o.2] ∧ I64 o.1 ∧ I64 o.2 := fun i hi => by
      obtain ⟨cs', h1, h2⟩ := hel i (by omega)
      obtain ⟨s, rfl, hs⟩ := open_pair_cells (World.cells?_some h1).2.1 h2
      exact ⟨s, h1, hs⟩
    obtain ⟨V, hV⟩ : ∃ V : Nat → Int × Int, ∀ i, i < len → W.cells? 0 (ad.add (i * 2)) 2 = some [.int .i64 (V i).1, .int .i64 (V i).2] ∧ I64 (V i).1 ∧ I64 (V i).2 :=
      ⟨fun i => if hi : i < len then Classical.choose (hex i hi) else (0, 0), fun i hi => by
        simp only [hi, dif_pos]
        exact Classical.choose_spec (hex i hi)⟩
    refine ⟨(List.range len).map V, ⟨by simp, fun o ho => ?_, fun i o hi => ?_⟩, most_of (Nat.le_trans hl hmx)⟩
    · simp only [List.mem_map, List.mem_range] at ho
      obtain ⟨i, hi, rfl⟩ := ho
      exact (hV i hi).2
    · have hil : i < len := by
        have := (List.getElem?_eq_some_iff.1 hi).1
        simpa using this
      simp [hil] at hi
      subst hi
      have h1 := (hV i hil).1
      have hblk := World.cells?_block h1 (by omega)
      obtain ⟨_, _, hcell⟩ := World.cells?_some h1
      have g0 := hcell 0 (by omega)
      have g1 := hcell 1 (by omega)
      obtain ⟨b, off, spot⟩ := ad
      have hspot : spot = none := by
        have k1 := (hV 0 (by omega)).1
        have k0 := (World.cells?_some k1).2.2 0 (by omega)
        have : W.cell? ⟨b, off, spot⟩ = some (.int .i64 (V 0).1) := by simpa [Addr.add] using k0
        exact World.cell?_spot this
      subst hspot
      refine ⟨b, off, rfl, by simpa [Addr.add_lit] using hblk, ?_, ?_⟩
      · simpa [Addr.add_lit] using g0
      · simpa [Addr.add_lit] using g1
end
end Su
end Go.Proofs.YtjopjffecnflkaaDoor
