/- A part of the proofs about package wire: what its functions answer, call by call. -/
import Derived.Test.YtnpnghdjdelemaaWs
import Derived.Test.YtnpnghdjdelemaaRows
import Derived.ProofKit
import Derived.Deep.Slices
import Derived.Deep.Strs
import Derived.ChangeOld
import Derived.OpenShut
import Derived.Lib.SmallJoins
namespace Go.Proofs.Ytnpnghdjdelemaa
open Go.RowKit
namespace Wi

open Go.ChangeShapes Go.WideShapes Go.ChangeAt Go.Deep
theorem cells33 : Try.prog.cellsOf 33 = 4 := by kernel_rfl
theorem cells3 : Try.prog.cellsOf 3 = 1 := by kernel_rfl
theorem cells9 : Try.prog.cellsOf 9 = 1 := by kernel_rfl
theorem cells31 : Try.prog.cellsOf 31 = 1 := by kernel_rfl
theorem own : ownKnob Try.prog.godebug = none := by kernel_rfl
theorem laidOut : laidOutB Try.prog = true := by kernel_rfl
theorem wf_i64 {n : Int} (h : (Lit.int .i64 n).wf = true) : Num n := by
  simpa [Num, Lit.wf, IntKind.min, IntKind.max, IntKind.bits, IntKind.signed] using h
theorem wf_u64 {n : Int} (h : (Lit.int .u64 n).wf = true) : ∃ c : Nat, n = (c : Int) ∧ c < 18446744073709551616 := by
  have : 0 ≤ n ∧ n ≤ 18446744073709551615 := by simpa [Lit.wf, IntKind.min, IntKind.max, IntKind.bits, IntKind.signed] using h
  exact ⟨n.toNat, by omega, by omega⟩
theorem most_of {n : Nat} (h : n ≤ maxLen) : n ≤ 9223372036854775807 := Nat.le_trans h (by simp [maxLen])
/-- What fits into a call's fields. -/
def FitV (o : OpV) : Prop := Num o.k ∧ o.x < 18446744073709551616 ∧ o.s.size ≤ 9223372036854775807 ∧ Num o.n
section
variable {H : Type} {enc : TypeId × Value → H} {W : World}
theorem open_op_cells {fuel : Nat} {cs : List Value} {x : DataW H × List MemPlace} (h : DataW.trod enc Try.prog W 0 (fun _ => true) true fuel 33 cs = some x) : ∃ o : OpV, cs = [.int .i64 o.k, .int .u64 (o.x : Nat), .string o.s, .int .i64 o.n] ∧ FitV o := by
  obtain ⟨y0, y1, y2, y3, n, _, hl, h0, h1, h2, h3⟩ := Go.Joins.trod_struct4 Try.underlying33 h
  rw [cells33] at hl
  match cs, hl with
  | [c0, c1, c2, c3], _ =>
    simp only [cells3, cells31, cells9] at h0 h1 h2 h3
    obtain ⟨a, e0, _, wa⟩ := DataW.trod_int Try.underlying3 h0
    obtain ⟨b, e1, _, wb⟩ := DataW.trod_int Try.underlying31 h1
    obtain ⟨s, e2, _, ws⟩ := DataW.trod_string Try.underlying9 h2
    obtain ⟨d, e3, _, wd⟩ := DataW.trod_int Try.underlying3 h3
    obtain ⟨c, rfl, hc⟩ := wf_u64 wb
    simp at e0 e1 e2 e3
    exact ⟨⟨a, c, s, d⟩, by rw [e0, e1, e2, e3], wf_i64 wa, hc, most_of ws, wf_i64 wd⟩
theorem open_op {v : Value} {d : DataW H} {p : List MemPlace} {base : Nat} (hv : Value.okWide Try.prog W .any base 33 v) (h : DataW.Trod enc Try.prog W 0 (fun _ => true) true 33 v d p) : ∃ o : OpV, v = .agg #[.int .i64 o.k, .int .u64 (o.x : Nat), .string o.s, .int .i64 o.n] ∧ FitV o := by
  obtain ⟨c0, c1, c2, c3, y0, y1, y2, y3, m, rfl, _, _, h0, h1, h2, h3⟩ := Go.Joins.open_agg4 Try.underlying33 (by kernel_rfl) cells33 hv h
  obtain ⟨a, e0, _, wa⟩ := DataW.trod_int Try.underlying3 h0
  obtain ⟨b, e1, _, wb⟩ := DataW.trod_int Try.underlying31 h1
  obtain ⟨s, e2, _, ws⟩ := DataW.trod_string Try.underlying9 h2
  obtain ⟨e, e3, _, wd⟩ := DataW.trod_int Try.underlying3 h3
  obtain ⟨c, rfl, hc⟩ := wf_u64 wb
  simp at e0 e1 e2 e3
  exact ⟨⟨a, c, s, e⟩, by rw [e0, e1, e2, e3], wf_i64 wa, hc, most_of ws, wf_i64 wd⟩
theorem open_ops {a : Option Addr} {len cap : Nat} {d : DataW H} {p : List MemPlace} (h : DataW.Trod enc Try.prog W 0 (fun _ => true) true 22 (.slice a len cap) d p) : ∃ xs, Os W a len xs := by
  obtain ⟨fuel, hf⟩ := h
  rcases open_slice Try.underlying22 hf with ⟨hcs, _⟩ | ⟨ad, l, c, m, n, D, Pl, hcs, hb, hl, hmx, hm, _, hel⟩
  · simp [Value.cells] at hcs
    obtain ⟨rfl, rfl, rfl⟩ := hcs
    exact ⟨[], rfl, by omega, by simp, fun i o hi => by simp at hi⟩
  · simp [Value.cells] at hcs
    obtain ⟨rfl, rfl, rfl⟩ := hcs
    simp only [if_true] at hm
    subst hm
    rw [cells33] at hel
    have hex : ∀ i, i < len → ∃ o : OpV, W.cells? 0 (ad.add (i * 4)) 4 = some [.int .i64 o.k, .int .u64 (o.x : Nat), .string o.s, .int .i64 o.n] ∧ FitV o := fun i hi => by
      obtain ⟨cs', h1, h2⟩ := hel i (by omega)
      obtain ⟨s, rfl, hs⟩ := open_op_cells h2
      exact ⟨s, h1, hs⟩
    obtain ⟨V, hV⟩ : ∃ V : Nat → OpV, ∀ i, i < len → W.cells? 0 (ad.add (i * 4)) 4 = some [.int .i64 (V i).k, .int .u64 ((V i).x : Nat), .string (V i).s, .int .i64 (V i).n] ∧ FitV (V i) :=
      ⟨fun i => if hi : i < len then Classical.choose (hex i hi) else ⟨0, 0, ByteArray.empty, 0⟩, fun i hi => by
        simp only [hi, dif_pos]
        exact Classical.choose_spec (hex i hi)⟩
    refine ⟨(List.range len).map V, by simp, most_of (Nat.le_trans hl hmx), fun o ho => ?_, fun i o hi => ?_⟩
    · simp only [List.mem_map, List.mem_range] at ho
      obtain ⟨i, hi, rfl⟩ := ho
      exact (hV i hi).2
    · have hil : i < len := by
        have := (List.getElem?_eq_some_iff.1 hi).1
        simpa using this
      simp [hil] at hi
      subst hi
      have h1 := (hV i hil).1
      have hblk := World.cells?_block h1 (by omega)
      obtain ⟨_, _, hcell⟩ := World.cells?_some h1
      have g0 := hcell 0 (by omega)
      have g1 := hcell 1 (by omega)
      have g2 := hcell 2 (by omega)
      have g3 := hcell 3 (by omega)
      obtain ⟨b, off, spot⟩ := ad
      have hspot : spot = none := by
        have k1 := (hV 0 (by omega)).1
        have k0 := (World.cells?_some k1).2.2 0 (by omega)
        have : W.cell? ⟨b, off, spot⟩ = some (.int .i64 (V 0).k) := by simpa [Addr.add] using k0
        exact World.cell?_spot this
      subst hspot
      refine ⟨b, off, rfl, by simpa [Addr.add_lit] using hblk, ?_, ?_, ?_, ?_⟩
      · simpa [Addr.add_lit] using g0
      · simpa [Addr.add_lit] using g1
      · simpa [Addr.add_lit] using g2
      · simpa [Addr.add_lit] using g3
theorem open_texts {a : Option Addr} {len cap : Nat} {d : DataW H} {p : List MemPlace} (h : DataW.Trod enc Try.prog W 0 (fun _ => true) true 55 (.slice a len cap) d p) : ∃ xs, Ss W a len xs := by
  obtain ⟨fuel, hf⟩ := h
  rcases open_strs Try.underlying55 Try.underlying9 cells9 hf with ⟨hcs, _⟩ | ⟨ad, l, c, m, Sx, hcs, hb, hl, hmx, hm, _, hel⟩
  · simp [Value.cells] at hcs
    obtain ⟨rfl, rfl, rfl⟩ := hcs
    exact ⟨[], Ss.nil _ _⟩
  · simp [Value.cells] at hcs
    obtain ⟨rfl, rfl, rfl⟩ := hcs
    simp only [if_true] at hm
    subst hm
    refine ⟨(List.range len).map Sx, by simp, most_of (Nat.le_trans hl hmx), fun s hs => ?_, fun i s hi => ?_⟩
    · simp only [List.mem_map, List.mem_range] at hs
      obtain ⟨i, hi, rfl⟩ := hs
      exact most_of (hel i (by omega)).2
    · have hil : i < len := by
        have := (List.getElem?_eq_some_iff.1 hi).1
        simpa using this
      simp [hil] at hi
      subst hi
      have hc := (hel i (by omega)).1
      obtain ⟨b, off, spot⟩ := ad
      have hspot : spot = none := by
        have : W.cell? ⟨b, off, spot⟩ = some (.string (Sx 0)) := by simpa [Addr.add] using (hel 0 (by omega)).1
        exact World.cell?_spot this
      subst hspot
      have hc' : W.cell? ⟨b, off + i, none⟩ = some (.string (Sx i)) := by simpa [Addr.add_lit] using hc
      exact ⟨b, off, rfl, block_lt_of_cell hc', hc'⟩
theorem open_nums {a : Option Addr} {len cap : Nat} {d : DataW H} {p : List MemPlace} (h : DataW.Trod enc Try.prog W 0 (fun _ => true) true 54 (.slice a len cap) d p) : ∃ xs, Us W a len xs := by
  obtain ⟨fuel, hf⟩ := h
  rcases open_slice1 Try.underlying54 cells31 hf with ⟨hcs, _⟩ | ⟨ad, l, c, m, n, V, D, Pl, hcs, hb, hl, hmx, hm, _, hel⟩
  · simp [Value.cells] at hcs
    obtain ⟨rfl, rfl, rfl⟩ := hcs
    exact ⟨[], rfl, by omega, by simp, fun i o hi => by simp at hi⟩
  · simp [Value.cells] at hcs
    obtain ⟨rfl, rfl, rfl⟩ := hcs
    simp only [if_true] at hm
    subst hm
    have hex : ∀ i, i < len → ∃ x : Nat, W.cell? (ad.add i) = some (.int .u64 (x : Nat)) ∧ x < 18446744073709551616 := fun i hi => by
      obtain ⟨h1, h2⟩ := hel i (by omega)
      obtain ⟨b, e1, _, wb⟩ := DataW.trod_int Try.underlying31 h2
      obtain ⟨c, rfl, hc⟩ := wf_u64 wb
      simp at e1
      exact ⟨c, by rw [h1, e1], hc⟩
    obtain ⟨N, hN⟩ : ∃ N : Nat → Nat, ∀ i, i < len → W.cell? (ad.add i) = some (.int .u64 (N i : Nat)) ∧ N i < 18446744073709551616 :=
      ⟨fun i => if hi : i < len then Classical.choose (hex i hi) else 0, fun i hi => by
        simp only [hi, dif_pos]
        exact Classical.choose_spec (hex i hi)⟩
    refine ⟨(List.range len).map N, by simp, most_of (Nat.le_trans hl hmx), fun s hs => ?_, fun i s hi => ?_⟩
    · simp only [List.mem_map, List.mem_range] at hs
      obtain ⟨i, hi, rfl⟩ := hs
      exact (hN i hi).2
    · have hil : i < len := by
        have := (List.getElem?_eq_some_iff.1 hi).1
        simpa using this
      simp [hil] at hi
      subst hi
      have hc := (hN i hil).1
      obtain ⟨b, off, spot⟩ := ad
      have hspot : spot = none := by
        have : W.cell? ⟨b, off, spot⟩ = some (.int .u64 (N 0 : Nat)) := by simpa [Addr.add] using (hN 0 (by omega)).1
        exact World.cell?_spot this
      subst hspot
      have hc' : W.cell? ⟨b, off + i, none⟩ = some (.int .u64 (N i : Nat)) := by simpa [Addr.add_lit] using hc
      exact ⟨b, off, rfl, block_lt_of_cell hc', hc'⟩
end

end Wi
end Go.Proofs.Ytnpnghdjdelemaa
