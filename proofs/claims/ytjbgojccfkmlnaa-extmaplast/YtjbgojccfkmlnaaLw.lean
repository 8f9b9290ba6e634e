/- What is handed to a law is read as data. -/
import Derived.Test.YtjbgojccfkmlnaaLb
import Derived.Test.YtjbgojccfkmlnaaRows
import Derived.ProofKit
import Derived.Deep.Slices
import Derived.Deep.Strs
import Derived.ChangeOld
import Derived.OpenShut
import Derived.Lib.SmallJoins
namespace Go.Proofs.Ytjbgojccfkmlnaa
open Go.RowKit
namespace Wi

open Go.ChangeShapes Go.WideShapes Go.ChangeAt Go.Deep
theorem cells3 : Try.prog.cellsOf 3 = 1 := by kernel_rfl
theorem cells30 : Try.prog.cellsOf 30 = 1 := by kernel_rfl
theorem cells38 : Try.prog.cellsOf 38 = 2 := by kernel_rfl
theorem cells32 : Try.prog.cellsOf 32 = 2 := by kernel_rfl
theorem cells40 : Try.prog.cellsOf 40 = 4 := by kernel_rfl
theorem cells34 : Try.prog.cellsOf 34 = 4 := by kernel_rfl
theorem own : ownKnob Try.prog.godebug = none := by kernel_rfl
theorem laidOut : laidOutB Try.prog = true := by kernel_rfl
theorem wf_i64 {n : Int} (h : (Lit.int .i64 n).wf = true) : I64 n := by
  simpa [I64, Lit.wf, IntKind.min, IntKind.max, IntKind.bits, IntKind.signed] using h
theorem most_of {n : Nat} (h : n ≤ maxLen) : n ≤ 9223372036854775807 := Nat.le_trans h (by simp [maxLen])
section
variable {H : Type} {enc : TypeId × Value → H} {W : World}
set_option maxRecDepth 100000 in
theorem open_span_cells {fuel : Nat} {cs : List Value} {x : DataW H × List MemPlace} (h : DataW.trod enc Try.prog W 0 (fun _ => true) true fuel 38 cs = some x) : ∃ a b : Int, cs = [.int .i64 a, .int .i64 b] ∧ I64 a ∧ I64 b := by
  obtain ⟨xs, n, _, _, hl, hlen, hf⟩ := DataW.trod_struct Try.underlying38 h
  have hl2 : cs.length = 2 := by rw [hl, cells38]
  match cs, hl2 with
  | [c0, c1], _ =>
    have h0 : DataW.trod enc Try.prog W 0 (fun _ => true) true n 3 [c0] = xs[0]? := by simpa [cells3] using hf 0 _ rfl
    have h1 : DataW.trod enc Try.prog W 0 (fun _ => true) true n 3 [c1] = xs[1]? := by simpa [cells3] using hf 1 _ rfl
    have g : ∀ i, i < 2 → ∃ y, xs[i]? = some y := fun i hi => ⟨_, List.getElem?_eq_getElem (by rw [hlen]; exact hi)⟩
    obtain ⟨y0, g0⟩ := g 0 (by omega)
    obtain ⟨y1, g1⟩ := g 1 (by omega)
    rw [g0] at h0
    rw [g1] at h1
    obtain ⟨a, e0, _, wa⟩ := DataW.trod_int Try.underlying3 h0
    obtain ⟨b, e1, _, wb⟩ := DataW.trod_int Try.underlying3 h1
    simp at e0 e1
    exact ⟨a, b, by rw [e0, e1], wf_i64 wa, wf_i64 wb⟩
set_option maxRecDepth 100000 in
theorem open_spot_cells {fuel : Nat} {cs : List Value} {x : DataW H × List MemPlace} (h : DataW.trod enc Try.prog W 0 (fun _ => true) true fuel 32 cs = some x) : ∃ a b : Int, cs = [.int .i64 a, .int .i64 b] ∧ I64 a ∧ I64 b := by
  obtain ⟨xs, n, _, _, hl, hlen, hf⟩ := DataW.trod_struct Try.underlying32 h
  have hl2 : cs.length = 2 := by rw [hl, cells32]
  match cs, hl2 with
  | [c0, c1], _ =>
    have h0 : DataW.trod enc Try.prog W 0 (fun _ => true) true n 3 [c0] = xs[0]? := by simpa [cells3] using hf 0 _ rfl
    have h1 : DataW.trod enc Try.prog W 0 (fun _ => true) true n 3 [c1] = xs[1]? := by simpa [cells3] using hf 1 _ rfl
    have g : ∀ i, i < 2 → ∃ y, xs[i]? = some y := fun i hi => ⟨_, List.getElem?_eq_getElem (by rw [hlen]; exact hi)⟩
    obtain ⟨y0, g0⟩ := g 0 (by omega)
    obtain ⟨y1, g1⟩ := g 1 (by omega)
    rw [g0] at h0
    rw [g1] at h1
    obtain ⟨a, e0, _, wa⟩ := DataW.trod_int Try.underlying3 h0
    obtain ⟨b, e1, _, wb⟩ := DataW.trod_int Try.underlying3 h1
    simp at e0 e1
    exact ⟨a, b, by rw [e0, e1], wf_i64 wa, wf_i64 wb⟩
def Ix.cells (x : Ix) : List Value := [.int .i64 x.a, .int .i64 x.n, .int .i64 x.q, .int .i64 x.t]
set_option maxRecDepth 100000 in
theorem open_x_cells {fuel : Nat} {cs : List Value} {x : DataW H × List MemPlace} (h : DataW.trod enc Try.prog W 0 (fun _ => true) true fuel 40 cs = some x) : ∃ y : Ix, cs = y.cells ∧ y.Rng := by
  obtain ⟨xs, n, _, _, hl, hlen, hf⟩ := DataW.trod_struct Try.underlying40 h
  have hl4 : cs.length = 4 := by rw [hl, cells40]
  match cs, hl4 with
  | [c0, c1, c2, c3], _ =>
    have h0 : DataW.trod enc Try.prog W 0 (fun _ => true) true n 38 [c0, c1] = xs[0]? := by simpa [cells38, cells32] using hf 0 _ rfl
    have h1 : DataW.trod enc Try.prog W 0 (fun _ => true) true n 32 [c2, c3] = xs[1]? := by simpa [cells38, cells32] using hf 1 _ rfl
    have g : ∀ i, i < 2 → ∃ y, xs[i]? = some y := fun i hi => ⟨_, List.getElem?_eq_getElem (by rw [hlen]; exact hi)⟩
    obtain ⟨y0, g0⟩ := g 0 (by omega)
    obtain ⟨y1, g1⟩ := g 1 (by omega)
    rw [g0] at h0
    rw [g1] at h1
    obtain ⟨a, b, e0, wa, wb⟩ := open_span_cells h0
    obtain ⟨c, d, e1, wc, wd⟩ := open_spot_cells h1
    simp at e0 e1
    obtain ⟨rfl, rfl⟩ := e0
    obtain ⟨rfl, rfl⟩ := e1
    exact ⟨⟨a, b, c, d⟩, rfl, wa, wb, wc, wd⟩
set_option maxRecDepth 100000 in
theorem open_xs_cells {fuel : Nat} {cs : List Value} {x : DataW H × List MemPlace} (h : DataW.trod enc Try.prog W 0 (fun _ => true) true fuel 30 cs = some x) : ∃ a len cap xs, cs = [.slice a len cap] ∧ Es W a len xs ∧ len ≤ cap := by
  rcases open_slice Try.underlying30 h with ⟨hcs, _⟩ | ⟨ad, l, c, m, n, D, Pl, hcs, hb, hl, hmx, hm, _, hel⟩
  · exact ⟨none, 0, 0, [], hcs, ⟨rfl, by omega, by simp, fun i o hi => by simp at hi⟩, Nat.le_refl _⟩
  · simp only [if_true] at hm
    subst hm
    rw [cells40] at hel
    have hex : ∀ i, i < l → ∃ o : Ix, W.cells? 0 (ad.add (i * 4)) 4 = some o.cells ∧ o.Rng := fun i hi => by
      obtain ⟨cs', h1, h2⟩ := hel i (by omega)
      obtain ⟨s, rfl, hs⟩ := open_x_cells h2
      exact ⟨s, h1, hs⟩
    obtain ⟨V, hV⟩ : ∃ V : Nat → Ix, ∀ i, i < l → W.cells? 0 (ad.add (i * 4)) 4 = some (V i).cells ∧ (V i).Rng :=
      ⟨fun i => if hi : i < l then Classical.choose (hex i hi) else ⟨0, 0, 0, 0⟩, fun i hi => by
        simp only [hi, dif_pos]
        exact Classical.choose_spec (hex i hi)⟩
    refine ⟨_, _, _, (List.range l).map V, hcs, ⟨by simp, most_of (Nat.le_trans hl hmx), fun o ho => ?_, fun i o hi => ?_⟩, hl⟩
    · simp only [List.mem_map, List.mem_range] at ho
      obtain ⟨i, hi, rfl⟩ := ho
      exact (hV i hi).2
    · have hil : i < l := by
        have := (List.getElem?_eq_some_iff.1 hi).1
        simpa using this
      simp [hil] at hi
      subst hi
      have h1 := (hV i hil).1
      have hblk := World.cells?_block h1 (by omega)
      obtain ⟨_, _, hcell⟩ := World.cells?_some h1
      obtain ⟨b, off, spot⟩ := ad
      have hspot : spot = none := by
        have k1 := (hV 0 (by omega)).1
        have k0 := (World.cells?_some k1).2.2 0 (by omega)
        have : W.cell? ⟨b, off, spot⟩ = some (.int .i64 (V 0).a) := by simpa [Addr.add, Ix.cells] using k0
        exact World.cell?_spot this
      subst hspot
      have hh : ∀ j v, (V i).cells[j]? = some v → W.cell? ⟨b, off + i * 4 + j, none⟩ = some v := fun j v hv => by
        have hj : j < 4 := by
          have := (List.getElem?_eq_some_iff.1 hv).1
          simpa [Ix.cells] using this
        have := hcell j hj
        rw [hv] at this
        simpa [Addr.add_lit] using this
      exact ⟨b, off, rfl, by simpa [Addr.add_lit] using hblk, hh 0 _ rfl, hh 1 _ rfl, hh 2 _ rfl, hh 3 _ rfl⟩
set_option maxRecDepth 100000 in
theorem open_op_cells {fuel : Nat} {cs : List Value} {x : DataW H × List MemPlace} (h : DataW.trod enc Try.prog W 0 (fun _ => true) true fuel 34 cs = some x) : ∃ o : OpV, cs = o.cells ∧ OpOk W o := by
  obtain ⟨xs, n, _, _, hl, hlen, hf⟩ := DataW.trod_struct Try.underlying34 h
  have hl4 : cs.length = 4 := by rw [hl, cells34]
  match cs, hl4 with
  | [c0, c1, c2, c3], _ =>
    have h0 : DataW.trod enc Try.prog W 0 (fun _ => true) true n 3 [c0] = xs[0]? := by simpa [cells3, cells30, cells32] using hf 0 _ rfl
    have h1 : DataW.trod enc Try.prog W 0 (fun _ => true) true n 30 [c1] = xs[1]? := by simpa [cells3, cells30, cells32] using hf 1 _ rfl
    have h2 : DataW.trod enc Try.prog W 0 (fun _ => true) true n 32 [c2, c3] = xs[2]? := by simpa [cells3, cells30, cells32] using hf 2 _ rfl
    have g : ∀ i, i < 3 → ∃ y, xs[i]? = some y := fun i hi => ⟨_, List.getElem?_eq_getElem (by rw [hlen]; exact hi)⟩
    obtain ⟨y0, g0⟩ := g 0 (by omega)
    obtain ⟨y1, g1⟩ := g 1 (by omega)
    obtain ⟨y2, g2⟩ := g 2 (by omega)
    rw [g0] at h0
    rw [g1] at h1
    rw [g2] at h2
    obtain ⟨a, e0, _, wa⟩ := DataW.trod_int Try.underlying3 h0
    obtain ⟨ka, kn, kc, ks, e1, hk, hkc⟩ := open_xs_cells h1
    obtain ⟨c, d, e2, wc, wd⟩ := open_spot_cells h2
    simp at e0 e1 e2
    obtain ⟨rfl, rfl⟩ := e2
    exact ⟨⟨a, ka, kn, kc, c, d, ks⟩, by rw [e0, e1]; rfl, wf_i64 wa, wc, wd, hk, hkc⟩
set_option maxRecDepth 100000 in
theorem open_op {v : Value} {d : DataW H} {p : List MemPlace} {base : Nat} (hv : Value.okWide Try.prog W .any base 34 v) (h : DataW.Trod enc Try.prog W 0 (fun _ => true) true 34 v d p) : ∃ o : OpV, v = .agg o.cells.toArray ∧ OpOk W o := by
  obtain ⟨cs, rfl, hsz⟩ := okWide_struct Try.underlying34 hv
  obtain ⟨fuel, hf⟩ := h
  obtain ⟨o, ho, hok⟩ := open_op_cells hf
  refine ⟨o, ?_, hok⟩
  rw [← ho]
  simp [Value.cells]
set_option maxRecDepth 100000 in
theorem open_x {v : Value} {d : DataW H} {p : List MemPlace} {base : Nat} (hv : Value.okWide Try.prog W .any base 40 v) (h : DataW.Trod enc Try.prog W 0 (fun _ => true) true 40 v d p) : ∃ x : Ix, v = .agg #[.int .i64 x.a, .int .i64 x.n, .int .i64 x.q, .int .i64 x.t] ∧ x.Rng := by
  obtain ⟨cs, rfl, hsz⟩ := okWide_struct Try.underlying40 hv
  obtain ⟨fuel, hf⟩ := h
  obtain ⟨o, ho, hok⟩ := open_x_cells hf
  refine ⟨o, ?_, hok⟩
  show Value.agg cs = .agg o.cells.toArray
  rw [← ho]
  simp [Value.cells]
set_option maxRecDepth 100000 in
theorem open_spot {v : Value} {d : DataW H} {p : List MemPlace} {base : Nat} (hv : Value.okWide Try.prog W .any base 32 v) (h : DataW.Trod enc Try.prog W 0 (fun _ => true) true 32 v d p) : ∃ a b : Int, v = .agg #[.int .i64 a, .int .i64 b] ∧ I64 a ∧ I64 b := by
  obtain ⟨cs, rfl, hsz⟩ := okWide_struct Try.underlying32 hv
  obtain ⟨fuel, hf⟩ := h
  obtain ⟨a, b, ho, hok⟩ := open_spot_cells hf
  refine ⟨a, b, ?_, hok⟩
  show Value.agg cs = .agg [.int .i64 a, .int .i64 b].toArray
  rw [← ho]
  simp [Value.cells]
set_option maxRecDepth 100000 in
theorem open_xs {a : Option Addr} {len cap : Nat} {d : DataW H} {p : List MemPlace} (h : DataW.Trod enc Try.prog W 0 (fun _ => true) true 30 (.slice a len cap) d p) : ∃ xs, Es W a len xs ∧ len ≤ cap := by
  obtain ⟨fuel, hf⟩ := h
  obtain ⟨a', n', c', ks, hcs, hk, hkc⟩ := open_xs_cells hf
  simp [Value.cells] at hcs
  obtain ⟨rfl, rfl, rfl⟩ := hcs
  exact ⟨ks, hk, hkc⟩
set_option maxRecDepth 100000 in
theorem open_ops {a : Option Addr} {len cap : Nat} {d : DataW H} {p : List MemPlace} (h : DataW.Trod enc Try.prog W 0 (fun _ => true) true 22 (.slice a len cap) d p) : ∃ xs, Os W a len xs ∧ len ≤ cap := by
  obtain ⟨fuel, hf⟩ := h
  rcases open_slice Try.underlying22 hf with ⟨hcs, _⟩ | ⟨ad, l, c, m, n, D, Pl, hcs, hb, hl, hmx, hm, _, hel⟩
  · simp [Value.cells] at hcs
    obtain ⟨rfl, rfl, rfl⟩ := hcs
    exact ⟨[], ⟨rfl, by omega, by simp, fun i o hi => by simp at hi⟩, Nat.le_refl _⟩
  · simp [Value.cells] at hcs
    obtain ⟨rfl, rfl, rfl⟩ := hcs
    simp only [if_true] at hm
    subst hm
    rw [cells34] at hel
    have hex : ∀ i, i < len → ∃ o : OpV, W.cells? 0 (ad.add (i * 4)) 4 = some o.cells ∧ OpOk W o := fun i hi => by
      obtain ⟨cs', h1, h2⟩ := hel i (by omega)
      obtain ⟨s, rfl, hs⟩ := open_op_cells h2
      exact ⟨s, h1, hs⟩
    obtain ⟨V, hV⟩ : ∃ V : Nat → OpV, ∀ i, i < len → W.cells? 0 (ad.add (i * 4)) 4 = some (V i).cells ∧ OpOk W (V i) :=
      ⟨fun i => if hi : i < len then Classical.choose (hex i hi) else ⟨0, none, 0, 0, 0, 0, []⟩, fun i hi => by
        simp only [hi, dif_pos]
        exact Classical.choose_spec (hex i hi)⟩
    refine ⟨(List.range len).map V, ⟨by simp, most_of (Nat.le_trans hl hmx), fun o ho => ?_, fun i o hi => ?_⟩, hl⟩
    · simp only [List.mem_map, List.mem_range] at ho
      obtain ⟨i, hi, rfl⟩ := ho
      exact (hV i hi).2
    · have hil : i < len := by
        have := (List.getElem?_eq_some_iff.1 hi).1
        simpa using this
      simp [hil] at hi
      subst hi
      have h1 := (hV i hil).1
      have hblk := World.cells?_block h1 (by omega)
      obtain ⟨_, _, hcell⟩ := World.cells?_some h1
      obtain ⟨b, off, spot⟩ := ad
      have hspot : spot = none := by
        have k1 := (hV 0 (by omega)).1
        have k0 := (World.cells?_some k1).2.2 0 (by omega)
        have : W.cell? ⟨b, off, spot⟩ = some (.int .i64 (V 0).ask) := by simpa [Addr.add, OpV.cells] using k0
        exact World.cell?_spot this
      subst hspot
      refine ⟨b, off, rfl, by simpa [Addr.add_lit] using hblk, fun j v hv => ?_⟩
      have hj : j < 4 := by
        have := (List.getElem?_eq_some_iff.1 hv).1
        simpa [OpV.cells] using this
      have := hcell j hj
      rw [hv] at this
      simpa [Addr.add_lit] using this
end

end Wi
end Go.Proofs.Ytjbgojccfkmlnaa
