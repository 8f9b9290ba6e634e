/- What is handed to a law is read as data. -/
import Derived.Test.YthnhapjjgaicdaaWv
import Derived.Test.YthnhapjjgaicdaaLw
namespace Go.Proofs.Ythnhapjjgaicdaa
open Go.RowKit
namespace Wi

open Go.ChangeShapes Go.WideShapes Go.ChangeAt Go.Deep
theorem cells41 : Try.prog.cellsOf 41 = 6 := by kernel_rfl
section
variable {H : Type} {enc : TypeId × Value → H} {W : World}
theorem open_keep_cells {fuel : Nat} {cs : List Value} {x : DataW H × List MemPlace} (h : DataW.trod enc Try.prog W 0 (fun _ => true) true fuel 31 cs = some x) : ∃ a n cap keep, cs = [.slice a n cap] ∧ Is W (fun _ => False) a n keep := by
  rcases open_slice1 Try.underlying31 cells3 h with ⟨hcs, _⟩ | ⟨ad, l, c, m, n, V, D, Pl, hcs, hb, hl, hmx, hm, _, hel⟩
  · exact ⟨_, _, _, [], hcs, rfl, by omega, by simp, by simp⟩
  · simp only [if_true] at hm
    subst hm
    have hex : ∀ i, i < l → ∃ x : Int, W.cell? (ad.add i) = some (.int .i64 x) ∧ Num x := fun i hi => by
      obtain ⟨h1, h2⟩ := hel i (by omega)
      obtain ⟨b, e1, _, wb⟩ := DataW.trod_int Try.underlying3 h2
      simp at e1
      exact ⟨b, by rw [h1, e1], wf_i64 wb⟩
    obtain ⟨N, hN⟩ : ∃ N : Nat → Int, ∀ i, i < l → W.cell? (ad.add i) = some (.int .i64 (N i)) ∧ Num (N i) :=
      ⟨fun i => if hi : i < l then Classical.choose (hex i hi) else 0, fun i hi => by
        simp only [hi, dif_pos]
        exact Classical.choose_spec (hex i hi)⟩
    refine ⟨_, _, _, (List.range l).map N, hcs, by simp, most_of (Nat.le_trans hl hmx), fun s hs => ?_, fun i s hi => ?_⟩
    · simp only [List.mem_map, List.mem_range] at hs
      obtain ⟨i, hi, rfl⟩ := hs
      exact (hN i hi).2
    · have hil : i < l := by
        have := (List.getElem?_eq_some_iff.1 hi).1
        simpa using this
      simp [hil] at hi
      subst hi
      have hc := (hN i hil).1
      obtain ⟨b, off, spot⟩ := ad
      have hspot : spot = none := by
        have : W.cell? ⟨b, off, spot⟩ = some (.int .i64 (N 0)) := by simpa [Addr.add] using (hN 0 (by omega)).1
        exact World.cell?_spot this
      subst hspot
      have hc' : W.cell? ⟨b, off + i, none⟩ = some (.int .i64 (N i)) := by simpa [Addr.add_lit] using hc
      exact ⟨b, off, rfl, block_lt_of_cell hc', id, hc'⟩
theorem open_keep {a : Option Addr} {len cap : Nat} {d : DataW H} {p : List MemPlace} (h : DataW.Trod enc Try.prog W 0 (fun _ => true) true 31 (.slice a len cap) d p) : ∃ keep, Is W (fun _ => False) a len keep := by
  obtain ⟨fuel, hf⟩ := h
  obtain ⟨a', n', c', keep, hcs, hk⟩ := open_keep_cells hf
  simp [Value.cells] at hcs
  obtain ⟨rfl, rfl, rfl⟩ := hcs
  exact ⟨keep, hk⟩
set_option maxRecDepth 20000 in
theorem open_op_cells {fuel : Nat} {cs : List Value} {x : DataW H × List MemPlace} (h : DataW.trod enc Try.prog W 0 (fun _ => true) true fuel 41 cs = some x) : ∃ o : OpV, cs = o.cells ∧ OpOk W (fun _ => False) o := by
  obtain ⟨xs, n, _, _, hl, hlen, hf⟩ := DataW.trod_struct Try.underlying41 h
  have hl6 : cs.length = 6 := by rw [hl, cells41]
  match cs, hl6 with
  | [c0, c1, c2, c3, c4, c5], _ =>
    have h0 : DataW.trod enc Try.prog W 0 (fun _ => true) true n 3 [c0] = xs[0]? := by simpa [cells3, cells9, cells31] using hf 0 _ rfl
    have h1 : DataW.trod enc Try.prog W 0 (fun _ => true) true n 9 [c1] = xs[1]? := by simpa [cells3, cells9, cells31] using hf 1 _ rfl
    have h2 : DataW.trod enc Try.prog W 0 (fun _ => true) true n 9 [c2] = xs[2]? := by simpa [cells3, cells9, cells31] using hf 2 _ rfl
    have h3 : DataW.trod enc Try.prog W 0 (fun _ => true) true n 3 [c3] = xs[3]? := by simpa [cells3, cells9, cells31] using hf 3 _ rfl
    have h4 : DataW.trod enc Try.prog W 0 (fun _ => true) true n 3 [c4] = xs[4]? := by simpa [cells3, cells9, cells31] using hf 4 _ rfl
    have h5 : DataW.trod enc Try.prog W 0 (fun _ => true) true n 31 [c5] = xs[5]? := by simpa [cells3, cells9, cells31] using hf 5 _ rfl
    have g : ∀ i, i < 6 → ∃ y, xs[i]? = some y := fun i hi => ⟨_, List.getElem?_eq_getElem (by rw [hlen]; exact hi)⟩
    obtain ⟨y0, g0⟩ := g 0 (by omega)
    obtain ⟨y1, g1⟩ := g 1 (by omega)
    obtain ⟨y2, g2⟩ := g 2 (by omega)
    obtain ⟨y3, g3⟩ := g 3 (by omega)
    obtain ⟨y4, g4⟩ := g 4 (by omega)
    obtain ⟨y5, g5⟩ := g 5 (by omega)
    rw [g0] at h0
    rw [g1] at h1
    rw [g2] at h2
    rw [g3] at h3
    rw [g4] at h4
    rw [g5] at h5
    obtain ⟨a, e0, _, wa⟩ := DataW.trod_int Try.underlying3 h0
    obtain ⟨s, e1, _, ws⟩ := DataW.trod_string Try.underlying9 h1
    obtain ⟨x, e2, _, wx⟩ := DataW.trod_string Try.underlying9 h2
    obtain ⟨b, e3, _, wb⟩ := DataW.trod_int Try.underlying3 h3
    obtain ⟨c, e4, _, wc⟩ := DataW.trod_int Try.underlying3 h4
    obtain ⟨ka, kn, kc, keep, e5, hk⟩ := open_keep_cells h5
    simp at e0 e1 e2 e3 e4 e5
    exact ⟨⟨a, s, x, b, c, ka, kn, kc, keep⟩, by rw [e0, e1, e2, e3, e4, e5]; rfl, wf_i64 wa, most_of ws, most_of wx, wf_i64 wb, wf_i64 wc, hk⟩
theorem open_op {v : Value} {d : DataW H} {p : List MemPlace} {base : Nat} (hv : Value.okWide Try.prog W .any base 41 v) (h : DataW.Trod enc Try.prog W 0 (fun _ => true) true 41 v d p) : ∃ o : OpV, v = .agg o.cells.toArray ∧ OpOk W (fun _ => False) o := by
  obtain ⟨cs, rfl, hsz⟩ := okWide_struct Try.underlying41 hv
  obtain ⟨fuel, hf⟩ := h
  obtain ⟨o, ho, hok⟩ := open_op_cells hf
  refine ⟨o, ?_, hok⟩
  rw [← ho]
  simp [Value.cells]
theorem open_ops {a : Option Addr} {len cap : Nat} {d : DataW H} {p : List MemPlace} (h : DataW.Trod enc Try.prog W 0 (fun _ => true) true 22 (.slice a len cap) d p) : ∃ xs, Os W a len xs := by
  obtain ⟨fuel, hf⟩ := h
  rcases open_slice Try.underlying22 hf with ⟨hcs, _⟩ | ⟨ad, l, c, m, n, D, Pl, hcs, hb, hl, hmx, hm, _, hel⟩
  · simp [Value.cells] at hcs
    obtain ⟨rfl, rfl, rfl⟩ := hcs
    exact ⟨[], rfl, by omega, by simp, fun i o hi => by simp at hi⟩
  · simp [Value.cells] at hcs
    obtain ⟨rfl, rfl, rfl⟩ := hcs
    simp only [if_true] at hm
    subst hm
    rw [cells41] at hel
    have hex : ∀ i, i < len → ∃ o : OpV, W.cells? 0 (ad.add (i * 6)) 6 = some o.cells ∧ OpOk W (fun _ => False) o := fun i hi => by
      obtain ⟨cs', h1, h2⟩ := hel i (by omega)
      obtain ⟨s, rfl, hs⟩ := open_op_cells h2
      exact ⟨s, h1, hs⟩
    obtain ⟨V, hV⟩ : ∃ V : Nat → OpV, ∀ i, i < len → W.cells? 0 (ad.add (i * 6)) 6 = some (V i).cells ∧ OpOk W (fun _ => False) (V i) :=
      ⟨fun i => if hi : i < len then Classical.choose (hex i hi) else ⟨0, ByteArray.empty, ByteArray.empty, 0, 0, none, 0, 0, []⟩, fun i hi => by
        simp only [hi, dif_pos]
        exact Classical.choose_spec (hex i hi)⟩
    refine ⟨(List.range len).map V, by simp, most_of (Nat.le_trans hl hmx), fun o ho => ?_, fun i o hi => ?_⟩
    · simp only [List.mem_map, List.mem_range] at ho
      obtain ⟨i, hi, rfl⟩ := ho
      exact (hV i hi).2
    · have hil : i < len := by
        have := (List.getElem?_eq_some_iff.1 hi).1
        simpa using this
      simp [hil] at hi
      subst hi
      have h1 := (hV i hil).1
      have hblk := World.cells?_block h1 (by omega)
      obtain ⟨_, _, hcell⟩ := World.cells?_some h1
      obtain ⟨b, off, spot⟩ := ad
      have hspot : spot = none := by
        have k1 := (hV 0 (by omega)).1
        have k0 := (World.cells?_some k1).2.2 0 (by omega)
        have : W.cell? ⟨b, off, spot⟩ = some (.int .i64 (V 0).ask) := by simpa [Addr.add, OpV.cells] using k0
        exact World.cell?_spot this
      subst hspot
      refine ⟨b, off, rfl, by simpa [Addr.add_lit] using hblk, fun j v hv => ?_⟩
      have hj : j < 6 := by
        have := (List.getElem?_eq_some_iff.1 hv).1
        simpa [OpV.cells] using this
      have := hcell j hj
      rw [hv] at this
      simpa [Addr.add_lit] using this
end

end Wi
end Go.Proofs.Ythnhapjjgaicdaa
