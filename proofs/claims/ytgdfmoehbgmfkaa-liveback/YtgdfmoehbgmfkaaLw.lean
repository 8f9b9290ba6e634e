/- What is handed to a law is read as data. -/
import Derived.Test.YtgdfmoehbgmfkaaLh
import Derived.Test.YtgdfmoehbgmfkaaRows
import Derived.ProofKit
import Derived.Deep.Slices
import Derived.Deep.Strs
import Derived.ChangeOld
import Derived.OpenShut
import Derived.Lib.SmallJoins
namespace Go.Proofs.Ytgdfmoehbgmfkaa
open Go.RowKit
namespace Li
open Go.ChangeShapes Go.WideShapes Go.ChangeAt Go.Deep
theorem cells3 : Try.prog.cellsOf 3 = 1 := by kernel_rfl
theorem cells30 : Try.prog.cellsOf 30 = 1 := by kernel_rfl
theorem cells31 : Try.prog.cellsOf 31 = 1 := by kernel_rfl
theorem cells49 : Try.prog.cellsOf 49 = 2 := by kernel_rfl
theorem cells47 : Try.prog.cellsOf 47 = 2 := by kernel_rfl
theorem cells51 : Try.prog.cellsOf 51 = 4 := by kernel_rfl
theorem cells58 : Try.prog.cellsOf 58 = 3 := by kernel_rfl
theorem cells33 : Try.prog.cellsOf 33 = 5 := by kernel_rfl
theorem own : ownKnob Try.prog.godebug = none := by kernel_rfl
theorem laidOut : laidOutB Try.prog = true := by kernel_rfl
theorem wf_i64 {n : Int} (h : (Lit.int .i64 n).wf = true) : I64 n := by
  simpa [I64, Lit.wf, IntKind.min, IntKind.max, IntKind.bits, IntKind.signed] using h
theorem most_of {n : Nat} (h : n ≤ maxLen) : n ≤ 9223372036854775807 := Nat.le_trans h (by simp [maxLen])
section
variable {H : Type} {enc : TypeId × Value → H} {W : World}
set_option maxRecDepth 100000 in
theorem open_span_cells {fuel : Nat} {cs : List Value} {x : DataW H × List MemPlace} (h : DataW.trod enc Try.prog W 0 (fun _ => true) true fuel 49 cs = some x) : ∃ a b : Int, cs = [.int .i64 a, .int .i64 b] ∧ I64 a ∧ I64 b := by
  obtain ⟨xs, n, _, _, hl, hlen, hf⟩ := DataW.trod_struct Try.underlying49 h
  have hl2 : cs.length = 2 := by rw [hl, cells49]
  match cs, hl2 with
  | [c0, c1], _ =>
    have h0 : DataW.trod enc Try.prog W 0 (fun _ => true) true n 3 [c0] = xs[0]? := by simpa [cells3] using hf 0 _ rfl
    have h1 : DataW.trod enc Try.prog W 0 (fun _ => true) true n 3 [c1] = xs[1]? := by simpa [cells3] using hf 1 _ rfl
    have g : ∀ i, i < 2 → ∃ y, xs[i]? = some y := fun i hi => ⟨_, List.getElem?_eq_getElem (by rw [hlen]; exact hi)⟩
    obtain ⟨y0, g0⟩ := g 0 (by omega)
    obtain ⟨y1, g1⟩ := g 1 (by omega)
    rw [g0] at h0
    rw [g1] at h1
    obtain ⟨a, e0, _, wa⟩ := DataW.trod_int Try.underlying3 h0
    obtain ⟨b, e1, _, wb⟩ := DataW.trod_int Try.underlying3 h1
    simp at e0 e1
    exact ⟨a, b, by rw [e0, e1], wf_i64 wa, wf_i64 wb⟩
set_option maxRecDepth 100000 in
theorem open_spot_cells {fuel : Nat} {cs : List Value} {x : DataW H × List MemPlace} (h : DataW.trod enc Try.prog W 0 (fun _ => true) true fuel 47 cs = some x) : ∃ a b : Int, cs = [.int .i64 a, .int .i64 b] ∧ I64 a ∧ I64 b := by
  obtain ⟨xs, n, _, _, hl, hlen, hf⟩ := DataW.trod_struct Try.underlying47 h
  have hl2 : cs.length = 2 := by rw [hl, cells47]
  match cs, hl2 with
  | [c0, c1], _ =>
    have h0 : DataW.trod enc Try.prog W 0 (fun _ => true) true n 3 [c0] = xs[0]? := by simpa [cells3] using hf 0 _ rfl
    have h1 : DataW.trod enc Try.prog W 0 (fun _ => true) true n 3 [c1] = xs[1]? := by simpa [cells3] using hf 1 _ rfl
    have g : ∀ i, i < 2 → ∃ y, xs[i]? = some y := fun i hi => ⟨_, List.getElem?_eq_getElem (by rw [hlen]; exact hi)⟩
    obtain ⟨y0, g0⟩ := g 0 (by omega)
    obtain ⟨y1, g1⟩ := g 1 (by omega)
    rw [g0] at h0
    rw [g1] at h1
    obtain ⟨a, e0, _, wa⟩ := DataW.trod_int Try.underlying3 h0
    obtain ⟨b, e1, _, wb⟩ := DataW.trod_int Try.underlying3 h1
    simp at e0 e1
    exact ⟨a, b, by rw [e0, e1], wf_i64 wa, wf_i64 wb⟩
def Ix.cells (x : Ix) : List Value := [.int .i64 x.a, .int .i64 x.n, .int .i64 x.q, .int .i64 x.t]
set_option maxRecDepth 100000 in
theorem open_x_cells {fuel : Nat} {cs : List Value} {x : DataW H × List MemPlace} (h : DataW.trod enc Try.prog W 0 (fun _ => true) true fuel 51 cs = some x) : ∃ y : Ix, cs = y.cells ∧ y.Rng := by
  obtain ⟨xs, n, _, _, hl, hlen, hf⟩ := DataW.trod_struct Try.underlying51 h
  have hl4 : cs.length = 4 := by rw [hl, cells51]
  match cs, hl4 with
  | [c0, c1, c2, c3], _ =>
    have h0 : DataW.trod enc Try.prog W 0 (fun _ => true) true n 49 [c0, c1] = xs[0]? := by simpa [cells49, cells47] using hf 0 _ rfl
    have h1 : DataW.trod enc Try.prog W 0 (fun _ => true) true n 47 [c2, c3] = xs[1]? := by simpa [cells49, cells47] using hf 1 _ rfl
    have g : ∀ i, i < 2 → ∃ y, xs[i]? = some y := fun i hi => ⟨_, List.getElem?_eq_getElem (by rw [hlen]; exact hi)⟩
    obtain ⟨y0, g0⟩ := g 0 (by omega)
    obtain ⟨y1, g1⟩ := g 1 (by omega)
    rw [g0] at h0
    rw [g1] at h1
    obtain ⟨a, b, e0, wa, wb⟩ := open_span_cells h0
    obtain ⟨c, d, e1, wc, wd⟩ := open_spot_cells h1
    simp at e0 e1
    obtain ⟨rfl, rfl⟩ := e0
    obtain ⟨rfl, rfl⟩ := e1
    exact ⟨⟨a, b, c, d⟩, rfl, wa, wb, wc, wd⟩
set_option maxRecDepth 100000 in
theorem open_xs_cells {fuel : Nat} {cs : List Value} {x : DataW H × List MemPlace} (h : DataW.trod enc Try.prog W 0 (fun _ => true) true fuel 31 cs = some x) : ∃ a len cap xs, cs = [.slice a len cap] ∧ Ex W a len xs ∧ len ≤ cap := by
  rcases open_slice Try.underlying31 h with ⟨hcs, _⟩ | ⟨ad, l, c, m, n, D, Pl, hcs, hb, hl, hmx, hm, _, hel⟩
  · exact ⟨none, 0, 0, [], hcs, ⟨rfl, by omega, by simp, fun i o hi => by simp at hi⟩, Nat.le_refl _⟩
  · simp only [if_true] at hm
    subst hm
    rw [cells51] at hel
    have hex : ∀ i, i < l → ∃ o : Ix, W.cells? 0 (ad.add (i * 4)) 4 = some o.cells ∧ o.Rng := fun i hi => by
      obtain ⟨cs', h1, h2⟩ := hel i (by omega)
      obtain ⟨s, rfl, hs⟩ := open_x_cells h2
      exact ⟨s, h1, hs⟩
    obtain ⟨V, hV⟩ : ∃ V : Nat → Ix, ∀ i, i < l → W.cells? 0 (ad.add (i * 4)) 4 = some (V i).cells ∧ (V i).Rng :=
      ⟨fun i => if hi : i < l then Classical.choose (hex i hi) else ⟨0, 0, 0, 0⟩, fun i hi => by
        simp only [hi, dif_pos]
        exact Classical.choose_spec (hex i hi)⟩
    refine ⟨_, _, _, (List.range l).map V, hcs, ⟨by simp, most_of (Nat.le_trans hl hmx), fun o ho => ?_, fun i o hi => ?_⟩, hl⟩
    · simp only [List.mem_map, List.mem_range] at ho
      obtain ⟨i, hi, rfl⟩ := ho
      exact (hV i hi).2
    · have hil : i < l := by
        have := (List.getElem?_eq_some_iff.1 hi).1
        simpa using this
      simp [hil] at hi
      subst hi
      have h1 := (hV i hil).1
      have hblk := World.cells?_block h1 (by omega)
      obtain ⟨_, _, hcell⟩ := World.cells?_some h1
      obtain ⟨b, off, spot⟩ := ad
      have hspot : spot = none := by
        have k1 := (hV 0 (by omega)).1
        have k0 := (World.cells?_some k1).2.2 0 (by omega)
        have : W.cell? ⟨b, off, spot⟩ = some (.int .i64 (V 0).a) := by simpa [Addr.add, Ix.cells] using k0
        exact World.cell?_spot this
      subst hspot
      have hh : ∀ j v, (V i).cells[j]? = some v → W.cell? ⟨b, off + i * 4 + j, none⟩ = some v := fun j v hv => by
        have hj : j < 4 := by
          have := (List.getElem?_eq_some_iff.1 hv).1
          simpa [Ix.cells] using this
        have := hcell j hj
        rw [hv] at this
        simpa [Addr.add_lit] using this
      exact ⟨b, off, rfl, by simpa [Addr.add_lit] using hblk, hh 0 _ rfl, hh 1 _ rfl, hh 2 _ rfl, hh 3 _ rfl⟩
set_option maxRecDepth 100000 in
theorem open_row_cells {fuel : Nat} {cs : List Value} {x : DataW H × List MemPlace} (h : DataW.trod enc Try.prog W 0 (fun _ => true) true fuel 58 cs = some x) : ∃ r : Ro, cs = rc r ∧ I64 r.1 ∧ I64 r.2.1 ∧ I64 r.2.2 := by
  obtain ⟨xs, n, _, _, hl, hlen, hf⟩ := DataW.trod_struct Try.underlying58 h
  have hl3 : cs.length = 3 := by rw [hl, cells58]
  match cs, hl3 with
  | [c0, c1, c2], _ =>
    have h0 : DataW.trod enc Try.prog W 0 (fun _ => true) true n 3 [c0] = xs[0]? := by simpa [cells3] using hf 0 _ rfl
    have h1 : DataW.trod enc Try.prog W 0 (fun _ => true) true n 3 [c1] = xs[1]? := by simpa [cells3] using hf 1 _ rfl
    have h2 : DataW.trod enc Try.prog W 0 (fun _ => true) true n 3 [c2] = xs[2]? := by simpa [cells3] using hf 2 _ rfl
    have g : ∀ i, i < 3 → ∃ y, xs[i]? = some y := fun i hi => ⟨_, List.getElem?_eq_getElem (by rw [hlen]; exact hi)⟩
    obtain ⟨y0, g0⟩ := g 0 (by omega)
    obtain ⟨y1, g1⟩ := g 1 (by omega)
    obtain ⟨y2, g2⟩ := g 2 (by omega)
    rw [g0] at h0
    rw [g1] at h1
    rw [g2] at h2
    obtain ⟨a, e0, _, wa⟩ := DataW.trod_int Try.underlying3 h0
    obtain ⟨b, e1, _, wb⟩ := DataW.trod_int Try.underlying3 h1
    obtain ⟨c, e2, _, wc⟩ := DataW.trod_int Try.underlying3 h2
    simp at e0 e1 e2
    exact ⟨(a, b, c), by rw [e0, e1, e2]; rfl, wf_i64 wa, wf_i64 wb, wf_i64 wc⟩
set_option maxRecDepth 100000 in
theorem open_rs_cells {fuel : Nat} {cs : List Value} {x : DataW H × List MemPlace} (h : DataW.trod enc Try.prog W 0 (fun _ => true) true fuel 30 cs = some x) : ∃ a len cap xs, cs = [.slice a len cap] ∧ Er W a len xs ∧ len ≤ cap ∧ len ≤ 9223372036854775807 := by
  rcases open_slice Try.underlying30 h with ⟨hcs, _⟩ | ⟨ad, l, c, m, n, D, Pl, hcs, hb, hl, hmx, hm, _, hel⟩
  · exact ⟨none, 0, 0, [], hcs, ⟨rfl, by simp, fun i o hi => by simp at hi⟩, Nat.le_refl _, by omega⟩
  · simp only [if_true] at hm
    subst hm
    rw [cells58] at hel
    have hex : ∀ i, i < l → ∃ o : Ro, W.cells? 0 (ad.add (i * 3)) 3 = some (rc o) ∧ I64 o.1 ∧ I64 o.2.1 ∧ I64 o.2.2 := fun i hi => by
      obtain ⟨cs', h1, h2⟩ := hel i (by omega)
      obtain ⟨s, rfl, hs⟩ := open_row_cells h2
      exact ⟨s, h1, hs⟩
    obtain ⟨V, hV⟩ : ∃ V : Nat → Ro, ∀ i, i < l → W.cells? 0 (ad.add (i * 3)) 3 = some (rc (V i)) ∧ I64 (V i).1 ∧ I64 (V i).2.1 ∧ I64 (V i).2.2 :=
      ⟨fun i => if hi : i < l then Classical.choose (hex i hi) else (0, 0, 0), fun i hi => by
        simp only [hi, dif_pos]
        exact Classical.choose_spec (hex i hi)⟩
    refine ⟨_, _, _, (List.range l).map V, hcs, ⟨by simp, fun o ho => ?_, fun i o hi => ?_⟩, hl, most_of (Nat.le_trans hl hmx)⟩
    · simp only [List.mem_map, List.mem_range] at ho
      obtain ⟨i, hi, rfl⟩ := ho
      exact (hV i hi).2
    · have hil : i < l := by
        have := (List.getElem?_eq_some_iff.1 hi).1
        simpa using this
      simp [hil] at hi
      subst hi
      have h1 := (hV i hil).1
      have hblk := World.cells?_block h1 (by omega)
      obtain ⟨_, _, hcell⟩ := World.cells?_some h1
      obtain ⟨b, off, spot⟩ := ad
      have hspot : spot = none := by
        have k1 := (hV 0 (by omega)).1
        have k0 := (World.cells?_some k1).2.2 0 (by omega)
        have : W.cell? ⟨b, off, spot⟩ = some (.int .i64 (V 0).1) := by simpa [Addr.add, rc] using k0
        exact World.cell?_spot this
      subst hspot
      have hh : ∀ j v, (rc (V i))[j]? = some v → W.cell? ⟨b, off + i * 3 + j, none⟩ = some v := fun j v hv => by
        have hj : j < 3 := by
          have := (List.getElem?_eq_some_iff.1 hv).1
          simpa [rc] using this
        have := hcell j hj
        rw [hv] at this
        simpa [Addr.add_lit] using this
      exact ⟨b, off, rfl, by simpa [Addr.add_lit] using hblk, hh 0 _ rfl, hh 1 _ rfl, hh 2 _ rfl⟩
set_option maxRecDepth 100000 in
theorem open_op_cells {fuel : Nat} {cs : List Value} {x : DataW H × List MemPlace} (h : DataW.trod enc Try.prog W 0 (fun _ => true) true fuel 33 cs = some x) : ∃ o : OpV, cs = o.vals ∧ OpOk W o := by
  obtain ⟨xs, n, _, _, hl, hlen, hf⟩ := DataW.trod_struct Try.underlying33 h
  have hl5 : cs.length = 5 := by rw [hl, cells33]
  match cs, hl5 with
  | [c0, c1, c2, c3, c4], _ =>
    have h0 : DataW.trod enc Try.prog W 0 (fun _ => true) true n 3 [c0] = xs[0]? := by simpa [cells3, cells30, cells31] using hf 0 _ rfl
    have h1 : DataW.trod enc Try.prog W 0 (fun _ => true) true n 3 [c1] = xs[1]? := by simpa [cells3, cells30, cells31] using hf 1 _ rfl
    have h2 : DataW.trod enc Try.prog W 0 (fun _ => true) true n 30 [c2] = xs[2]? := by simpa [cells3, cells30, cells31] using hf 2 _ rfl
    have h3 : DataW.trod enc Try.prog W 0 (fun _ => true) true n 31 [c3] = xs[3]? := by simpa [cells3, cells30, cells31] using hf 3 _ rfl
    have h4 : DataW.trod enc Try.prog W 0 (fun _ => true) true n 31 [c4] = xs[4]? := by simpa [cells3, cells30, cells31] using hf 4 _ rfl
    have g : ∀ i, i < 5 → ∃ y, xs[i]? = some y := fun i hi => ⟨_, List.getElem?_eq_getElem (by rw [hlen]; exact hi)⟩
    obtain ⟨y0, g0⟩ := g 0 (by omega)
    obtain ⟨y1, g1⟩ := g 1 (by omega)
    obtain ⟨y2, g2⟩ := g 2 (by omega)
    obtain ⟨y3, g3⟩ := g 3 (by omega)
    obtain ⟨y4, g4⟩ := g 4 (by omega)
    rw [g0] at h0
    rw [g1] at h1
    rw [g2] at h2
    rw [g3] at h3
    rw [g4] at h4
    obtain ⟨a, e0, _, wa⟩ := DataW.trod_int Try.underlying3 h0
    obtain ⟨b, e1, _, wb⟩ := DataW.trod_int Try.underlying3 h1
    obtain ⟨ra, rn, rc, rs, e2, hr, hrc, hrm⟩ := open_rs_cells h2
    obtain ⟨ma, mn, mc, ms, e3, hm, hmc⟩ := open_xs_cells h3
    obtain ⟨la, ln, lc, ls, e4, hls, hlc⟩ := open_xs_cells h4
    simp at e0 e1 e2 e3 e4
    exact ⟨⟨a, b, ra, rn, rc, ma, mn, mc, la, ln, lc, rs, ms, ls⟩, by rw [e0, e1, e2, e3, e4]; rfl, wf_i64 wa, wf_i64 wb, hr, hrc, hrm, hm, hmc, hls, hlc⟩
set_option maxRecDepth 100000 in
theorem open_op {v : Value} {d : DataW H} {p : List MemPlace} {base : Nat} (hv : Value.okWide Try.prog W .any base 33 v) (h : DataW.Trod enc Try.prog W 0 (fun _ => true) true 33 v d p) : ∃ o : OpV, v = .agg o.vals.toArray ∧ OpOk W o := by
  obtain ⟨cs, rfl, hsz⟩ := okWide_struct Try.underlying33 hv
  obtain ⟨fuel, hf⟩ := h
  obtain ⟨o, ho, hok⟩ := open_op_cells hf
  refine ⟨o, ?_, hok⟩
  rw [← ho]
  simp [Value.cells]
set_option maxRecDepth 100000 in
theorem open_row {v : Value} {d : DataW H} {p : List MemPlace} {base : Nat} (hv : Value.okWide Try.prog W .any base 58 v) (h : DataW.Trod enc Try.prog W 0 (fun _ => true) true 58 v d p) : ∃ r : Ro, v = .agg #[.int .i64 r.1, .int .i64 r.2.1, .int .i64 r.2.2] ∧ I64 r.1 ∧ I64 r.2.1 ∧ I64 r.2.2 := by
  obtain ⟨cs, rfl, hsz⟩ := okWide_struct Try.underlying58 hv
  obtain ⟨fuel, hf⟩ := h
  obtain ⟨o, ho, hok⟩ := open_row_cells hf
  refine ⟨o, ?_, hok⟩
  show Value.agg cs = .agg (rc o).toArray
  rw [← ho]
  simp [Value.cells]
set_option maxRecDepth 100000 in
theorem open_xs {a : Option Addr} {len cap : Nat} {d : DataW H} {p : List MemPlace} (h : DataW.Trod enc Try.prog W 0 (fun _ => true) true 31 (.slice a len cap) d p) : ∃ xs, Ex W a len xs ∧ len ≤ cap := by
  obtain ⟨fuel, hf⟩ := h
  obtain ⟨a', n', c', ks, hcs, hk, hkc⟩ := open_xs_cells hf
  simp [Value.cells] at hcs
  obtain ⟨rfl, rfl, rfl⟩ := hcs
  exact ⟨ks, hk, hkc⟩
set_option maxRecDepth 100000 in
theorem open_ops {a : Option Addr} {len cap : Nat} {d : DataW H} {p : List MemPlace} (h : DataW.Trod enc Try.prog W 0 (fun _ => true) true 22 (.slice a len cap) d p) : ∃ xs, Os W a len xs ∧ (∀ o ∈ xs, OpOk W o) ∧ len ≤ cap := by
  obtain ⟨fuel, hf⟩ := h
  rcases open_slice Try.underlying22 hf with ⟨hcs, _⟩ | ⟨ad, l, c, m, n, D, Pl, hcs, hb, hl, hmx, hm, _, hel⟩
  · simp [Value.cells] at hcs
    obtain ⟨rfl, rfl, rfl⟩ := hcs
    exact ⟨[], ⟨rfl, by omega, by simp, fun i o hi => by simp at hi⟩, by simp, Nat.le_refl _⟩
  · simp [Value.cells] at hcs
    obtain ⟨rfl, rfl, rfl⟩ := hcs
    simp only [if_true] at hm
    subst hm
    rw [cells33] at hel
    have hex : ∀ i, i < len → ∃ o : OpV, W.cells? 0 (ad.add (i * 5)) 5 = some o.vals ∧ OpOk W o := fun i hi => by
      obtain ⟨cs', h1, h2⟩ := hel i (by omega)
      obtain ⟨s, rfl, hs⟩ := open_op_cells h2
      exact ⟨s, h1, hs⟩
    obtain ⟨V, hV⟩ : ∃ V : Nat → OpV, ∀ i, i < len → W.cells? 0 (ad.add (i * 5)) 5 = some (V i).vals ∧ OpOk W (V i) :=
      ⟨fun i => if hi : i < len then Classical.choose (hex i hi) else ⟨0, 0, none, 0, 0, none, 0, 0, none, 0, 0, [], [], []⟩, fun i hi => by
        simp only [hi, dif_pos]
        exact Classical.choose_spec (hex i hi)⟩
    refine ⟨(List.range len).map V, ⟨by simp, most_of (Nat.le_trans hl hmx), fun o ho => ?_, fun i o hi => ?_⟩, fun o ho => ?_, hl⟩
    · simp only [List.mem_map, List.mem_range] at ho
      obtain ⟨i, hi, rfl⟩ := ho
      exact (hV i hi).2.big
    · have hil : i < len := by
        have := (List.getElem?_eq_some_iff.1 hi).1
        simpa using this
      simp [hil] at hi
      subst hi
      have h1 := (hV i hil).1
      have hblk := World.cells?_block h1 (by omega)
      obtain ⟨_, _, hcell⟩ := World.cells?_some h1
      obtain ⟨b, off, spot⟩ := ad
      have hspot : spot = none := by
        have k1 := (hV 0 (by omega)).1
        have k0 := (World.cells?_some k1).2.2 0 (by omega)
        have : W.cell? ⟨b, off, spot⟩ = some (.int .i64 (V 0).ask) := by simpa [Addr.add, OpV.vals] using k0
        exact World.cell?_spot this
      subst hspot
      have hh : ∀ j v, (V i).vals[j]? = some v → W.cell? ⟨b, off + i * 5 + j, none⟩ = some v := fun j v hv => by
        have hj : j < 5 := by
          have := (List.getElem?_eq_some_iff.1 hv).1
          simpa [OpV.vals] using this
        have := hcell j hj
        rw [hv] at this
        simpa [Addr.add_lit] using this
      exact ⟨b, off, rfl, by simpa [Addr.add_lit] using hblk, hh 0 _ rfl, hh 1 _ rfl, hh 2 _ rfl, hh 3 _ rfl, hh 4 _ rfl⟩
    · simp only [List.mem_map, List.mem_range] at ho
      obtain ⟨i, hi, rfl⟩ := ho
      exact (hV i hi).2
end
end Li
end Go.Proofs.Ytgdfmoehbgmfkaa
