/- A part of the proofs about package ssd: what its functions answer, call by call. -/
import Derived.Test.YtdcnjaomocehmaaWr
import Derived.Test.YtdcnjaomocehmaaRows
import Derived.ProofKit
import Derived.Deep.Slices
import Derived.Deep.Strs
import Derived.ChangeOld
import Derived.OpenShut
import Derived.Lib.SmallJoins
namespace Go.Proofs.Ytdcnjaomocehmaa
open Go.RowKit
namespace Wi

open Go.ChangeShapes Go.WideShapes Go.ChangeAt Go.Deep
theorem cells36 : Try.prog.cellsOf 36 = 5 := by kernel_rfl
theorem cells3 : Try.prog.cellsOf 3 = 1 := by kernel_rfl
theorem cells5 : Try.prog.cellsOf 5 = 1 := by kernel_rfl
theorem cells9 : Try.prog.cellsOf 9 = 1 := by kernel_rfl
theorem cells34 : Try.prog.cellsOf 34 = 1 := by kernel_rfl
theorem own : ownKnob Try.prog.godebug = none := by kernel_rfl
theorem laidOut : laidOutB Try.prog = true := by kernel_rfl
theorem wf_i64 {n : Int} (h : (Lit.int .i64 n).wf = true) : Num n := by
  simpa [Num, Lit.wf, IntKind.min, IntKind.max, IntKind.bits, IntKind.signed] using h
theorem wf_u8 {n : Int} (h : (Lit.int .u8 n).wf = true) : ∃ c : Nat, n = (c : Int) ∧ c < 256 := by
  have : 0 ≤ n ∧ n ≤ 255 := by simpa [Lit.wf, IntKind.min, IntKind.max, IntKind.bits, IntKind.signed] using h
  exact ⟨n.toNat, by omega, by omega⟩
theorem most_of {n : Nat} (h : n ≤ maxLen) : n ≤ 9223372036854775807 := Nat.le_trans h (by simp [maxLen])
/-- A slice's memory holds these bytes. -/
structure Bs (w : World) (a : Option Addr) (n : Nat) (xs : List Nat) : Prop where
  len : n = xs.length
  most : n ≤ 9223372036854775807
  num : ∀ x ∈ xs, x < 256
  cells : ∀ i x, xs[i]? = some x → ∃ g off, a = some ⟨g, off, none⟩ ∧ g < w.heap.size ∧ w.cell? ⟨g, off + i, none⟩ = some (.int .u8 (x : Nat))
section
variable {H : Type} {enc : TypeId × Value → H} {W : World}
theorem open_keep_cells {fuel : Nat} {cs : List Value} {x : DataW H × List MemPlace} (h : DataW.trod enc Try.prog W 0 (fun _ => true) true fuel 34 cs = some x) : ∃ a n cap keep, cs = [.slice a n cap] ∧ Ks W (fun _ => False) a n keep := by
  rcases open_slice1 Try.underlying34 cells3 h with ⟨hcs, _⟩ | ⟨ad, l, c, m, n, V, D, Pl, hcs, hb, hl, hmx, hm, _, hel⟩
  · exact ⟨_, _, _, [], hcs, rfl, by omega, by simp, by simp⟩
  · simp only [if_true] at hm
    subst hm
    have hex : ∀ i, i < l → ∃ x : Int, W.cell? (ad.add i) = some (.int .i64 x) ∧ Num x := fun i hi => by
      obtain ⟨h1, h2⟩ := hel i (by omega)
      obtain ⟨b, e1, _, wb⟩ := DataW.trod_int Try.underlying3 h2
      simp at e1
      exact ⟨b, by rw [h1, e1], wf_i64 wb⟩
    obtain ⟨N, hN⟩ : ∃ N : Nat → Int, ∀ i, i < l → W.cell? (ad.add i) = some (.int .i64 (N i)) ∧ Num (N i) :=
      ⟨fun i => if hi : i < l then Classical.choose (hex i hi) else 0, fun i hi => by
        simp only [hi, dif_pos]
        exact Classical.choose_spec (hex i hi)⟩
    refine ⟨_, _, _, (List.range l).map N, hcs, by simp, most_of (Nat.le_trans hl hmx), fun s hs => ?_, fun i s hi => ?_⟩
    · simp only [List.mem_map, List.mem_range] at hs
      obtain ⟨i, hi, rfl⟩ := hs
      exact (hN i hi).2
    · have hil : i < l := by
        have := (List.getElem?_eq_some_iff.1 hi).1
        simpa using this
      simp [hil] at hi
      subst hi
      have hc := (hN i hil).1
      obtain ⟨b, off, spot⟩ := ad
      have hspot : spot = none := by
        have : W.cell? ⟨b, off, spot⟩ = some (.int .i64 (N 0)) := by simpa [Addr.add] using (hN 0 (by omega)).1
        exact World.cell?_spot this
      subst hspot
      have hc' : W.cell? ⟨b, off + i, none⟩ = some (.int .i64 (N i)) := by simpa [Addr.add_lit] using hc
      exact ⟨b, off, rfl, block_lt_of_cell hc', id, hc'⟩
theorem open_keep {a : Option Addr} {len cap : Nat} {d : DataW H} {p : List MemPlace} (h : DataW.Trod enc Try.prog W 0 (fun _ => true) true 34 (.slice a len cap) d p) : ∃ keep, Ks W (fun _ => False) a len keep := by
  obtain ⟨fuel, hf⟩ := h
  obtain ⟨a', n', c', keep, hcs, hk⟩ := open_keep_cells hf
  simp [Value.cells] at hcs
  obtain ⟨rfl, rfl, rfl⟩ := hcs
  exact ⟨keep, hk⟩
theorem open_bytes {a : Option Addr} {len cap : Nat} {d : DataW H} {p : List MemPlace} (h : DataW.Trod enc Try.prog W 0 (fun _ => true) true 41 (.slice a len cap) d p) : ∃ xs, Bs W a len xs := by
  obtain ⟨fuel, hf⟩ := h
  rcases open_slice1 Try.underlying41 cells5 hf with ⟨hcs, _⟩ | ⟨ad, l, c, m, n, V, D, Pl, hcs, hb, hl, hmx, hm, _, hel⟩
  · simp [Value.cells] at hcs
    obtain ⟨rfl, rfl, rfl⟩ := hcs
    exact ⟨[], rfl, by omega, by simp, by simp⟩
  · simp [Value.cells] at hcs
    obtain ⟨rfl, rfl, rfl⟩ := hcs
    simp only [if_true] at hm
    subst hm
    have hex : ∀ i, i < len → ∃ x : Nat, W.cell? (ad.add i) = some (.int .u8 (x : Nat)) ∧ x < 256 := fun i hi => by
      obtain ⟨h1, h2⟩ := hel i (by omega)
      obtain ⟨b, e1, _, wb⟩ := DataW.trod_int Try.underlying5 h2
      obtain ⟨c, rfl, hc⟩ := wf_u8 wb
      simp at e1
      exact ⟨c, by rw [h1, e1], hc⟩
    obtain ⟨N, hN⟩ : ∃ N : Nat → Nat, ∀ i, i < len → W.cell? (ad.add i) = some (.int .u8 (N i : Nat)) ∧ N i < 256 :=
      ⟨fun i => if hi : i < len then Classical.choose (hex i hi) else 0, fun i hi => by
        simp only [hi, dif_pos]
        exact Classical.choose_spec (hex i hi)⟩
    refine ⟨(List.range len).map N, by simp, most_of (Nat.le_trans hl hmx), fun s hs => ?_, fun i s hi => ?_⟩
    · simp only [List.mem_map, List.mem_range] at hs
      obtain ⟨i, hi, rfl⟩ := hs
      exact (hN i hi).2
    · have hil : i < len := by
        have := (List.getElem?_eq_some_iff.1 hi).1
        simpa using this
      simp [hil] at hi
      subst hi
      have hc := (hN i hil).1
      obtain ⟨b, off, spot⟩ := ad
      have hspot : spot = none := by
        have : W.cell? ⟨b, off, spot⟩ = some (.int .u8 (N 0 : Nat)) := by simpa [Addr.add] using (hN 0 (by omega)).1
        exact World.cell?_spot this
      subst hspot
      have hc' : W.cell? ⟨b, off + i, none⟩ = some (.int .u8 (N i : Nat)) := by simpa [Addr.add_lit] using hc
      exact ⟨b, off, rfl, block_lt_of_cell hc', hc'⟩
theorem array5 {α : Type} {cs : Array α} (h : cs.size = 5) : ∃ c0 c1 c2 c3 c4, cs = #[c0, c1, c2, c3, c4] := by
  obtain ⟨l⟩ := cs
  match l, h with
  | [c0, c1, c2, c3, c4], _ => exact ⟨c0, c1, c2, c3, c4, rfl⟩
theorem open_op_cells {fuel : Nat} {cs : List Value} {x : DataW H × List MemPlace} (h : DataW.trod enc Try.prog W 0 (fun _ => true) true fuel 36 cs = some x) : ∃ o : OpV, cs = o.cells ∧ OpOk W (fun _ => False) o := by
  obtain ⟨xs, n, _, _, hl, hlen, hf⟩ := DataW.trod_struct Try.underlying36 h
  have hl5 : cs.length = 5 := by rw [hl, cells36]
  match cs, hl5 with
  | [c0, c1, c2, c3, c4], _ =>
    have h0 : DataW.trod enc Try.prog W 0 (fun _ => true) true n 3 [c0] = xs[0]? := by simpa [cells3, cells9, cells34] using hf 0 _ rfl
    have h1 : DataW.trod enc Try.prog W 0 (fun _ => true) true n 3 [c1] = xs[1]? := by simpa [cells3, cells9, cells34] using hf 1 _ rfl
    have h2 : DataW.trod enc Try.prog W 0 (fun _ => true) true n 3 [c2] = xs[2]? := by simpa [cells3, cells9, cells34] using hf 2 _ rfl
    have h3 : DataW.trod enc Try.prog W 0 (fun _ => true) true n 9 [c3] = xs[3]? := by simpa [cells3, cells9, cells34] using hf 3 _ rfl
    have h4 : DataW.trod enc Try.prog W 0 (fun _ => true) true n 34 [c4] = xs[4]? := by simpa [cells3, cells9, cells34] using hf 4 _ rfl
    have g : ∀ i, i < 5 → ∃ y, xs[i]? = some y := fun i hi => ⟨_, List.getElem?_eq_getElem (by rw [hlen]; exact hi)⟩
    obtain ⟨y0, g0⟩ := g 0 (by omega)
    obtain ⟨y1, g1⟩ := g 1 (by omega)
    obtain ⟨y2, g2⟩ := g 2 (by omega)
    obtain ⟨y3, g3⟩ := g 3 (by omega)
    obtain ⟨y4, g4⟩ := g 4 (by omega)
    rw [g0] at h0
    rw [g1] at h1
    rw [g2] at h2
    rw [g3] at h3
    rw [g4] at h4
    obtain ⟨a, e0, _, wa⟩ := DataW.trod_int Try.underlying3 h0
    obtain ⟨b, e1, _, wb⟩ := DataW.trod_int Try.underlying3 h1
    obtain ⟨c, e2, _, wc⟩ := DataW.trod_int Try.underlying3 h2
    obtain ⟨s, e3, _, ws⟩ := DataW.trod_string Try.underlying9 h3
    obtain ⟨ka, kn, kc, keep, e4, hk⟩ := open_keep_cells h4
    simp at e0 e1 e2 e3 e4
    exact ⟨⟨a, b, c, s, ka, kn, kc, keep⟩, by rw [e0, e1, e2, e3, e4]; rfl, wf_i64 wa, wf_i64 wb, wf_i64 wc, most_of ws, hk⟩
theorem open_op {v : Value} {d : DataW H} {p : List MemPlace} {base : Nat} (hv : Value.okWide Try.prog W .any base 36 v) (h : DataW.Trod enc Try.prog W 0 (fun _ => true) true 36 v d p) : ∃ o : OpV, v = .agg o.cells.toArray ∧ OpOk W (fun _ => False) o := by
  obtain ⟨cs, rfl, hsz⟩ := okWide_struct Try.underlying36 hv
  obtain ⟨fuel, hf⟩ := h
  obtain ⟨o, ho, hok⟩ := open_op_cells hf
  refine ⟨o, ?_, hok⟩
  rw [← ho]
  simp [Value.cells]
theorem open_ops {a : Option Addr} {len cap : Nat} {d : DataW H} {p : List MemPlace} (h : DataW.Trod enc Try.prog W 0 (fun _ => true) true 22 (.slice a len cap) d p) : ∃ xs, Os W a len xs := by
  obtain ⟨fuel, hf⟩ := h
  rcases open_slice Try.underlying22 hf with ⟨hcs, _⟩ | ⟨ad, l, c, m, n, D, Pl, hcs, hb, hl, hmx, hm, _, hel⟩
  · simp [Value.cells] at hcs
    obtain ⟨rfl, rfl, rfl⟩ := hcs
    exact ⟨[], rfl, by omega, by simp, fun i o hi => by simp at hi⟩
  · simp [Value.cells] at hcs
    obtain ⟨rfl, rfl, rfl⟩ := hcs
    simp only [if_true] at hm
    subst hm
    rw [cells36] at hel
    have hex : ∀ i, i < len → ∃ o : OpV, W.cells? 0 (ad.add (i * 5)) 5 = some o.cells ∧ OpOk W (fun _ => False) o := fun i hi => by
      obtain ⟨cs', h1, h2⟩ := hel i (by omega)
      obtain ⟨s, rfl, hs⟩ := open_op_cells h2
      exact ⟨s, h1, hs⟩
    obtain ⟨V, hV⟩ : ∃ V : Nat → OpV, ∀ i, i < len → W.cells? 0 (ad.add (i * 5)) 5 = some (V i).cells ∧ OpOk W (fun _ => False) (V i) :=
      ⟨fun i => if hi : i < len then Classical.choose (hex i hi) else ⟨0, 0, 0, ByteArray.empty, none, 0, 0, []⟩, fun i hi => by
        simp only [hi, dif_pos]
        exact Classical.choose_spec (hex i hi)⟩
    refine ⟨(List.range len).map V, by simp, most_of (Nat.le_trans hl hmx), fun o ho => ?_, fun i o hi => ?_⟩
    · simp only [List.mem_map, List.mem_range] at ho
      obtain ⟨i, hi, rfl⟩ := ho
      exact (hV i hi).2
    · have hil : i < len := by
        have := (List.getElem?_eq_some_iff.1 hi).1
        simpa using this
      simp [hil] at hi
      subst hi
      have h1 := (hV i hil).1
      have hblk := World.cells?_block h1 (by omega)
      obtain ⟨_, _, hcell⟩ := World.cells?_some h1
      obtain ⟨b, off, spot⟩ := ad
      have hspot : spot = none := by
        have k1 := (hV 0 (by omega)).1
        have k0 := (World.cells?_some k1).2.2 0 (by omega)
        have : W.cell? ⟨b, off, spot⟩ = some (.int .i64 (V 0).ask) := by simpa [Addr.add, OpV.cells] using k0
        exact World.cell?_spot this
      subst hspot
      refine ⟨b, off, rfl, by simpa [Addr.add_lit] using hblk, fun j v hv => ?_⟩
      have hj : j < 5 := by
        have := (List.getElem?_eq_some_iff.1 hv).1
        simpa [OpV.cells] using this
      have := hcell j hj
      rw [hv] at this
      simpa [Addr.add_lit] using this
theorem okWide_arr {n : Nat} {e t : TypeId} {r : Reach} {b0 : Nat} {v : Value} (ht : Try.prog.underlying t = some (.array n e)) (h : Value.okWide Try.prog W r b0 t v) : ∃ cs, v = .agg cs ∧ cs.size = Try.prog.cellsOf t := by
  simp only [Value.okWide, ht] at h
  cases v <;> simp_all
theorem open_two {v : Value} {d : DataW H} {p : List MemPlace} {base : Nat} (hv : Value.okWide Try.prog W .any base 52 v) (h : DataW.Trod enc Try.prog W 0 (fun _ => true) true 52 v d p) :
    ∃ x y : Nat, v = .agg #[.int .u8 (x : Nat), .int .u8 (y : Nat)] ∧ x < 256 ∧ y < 256 := by
  obtain ⟨cs, rfl, hsz⟩ := okWide_arr Try.underlying52 hv
  have h52 : Try.prog.cellsOf 52 = 2 := by kernel_rfl
  obtain ⟨c0, c1, rfl⟩ := Go.Joins.array2 (hsz.trans h52)
  obtain ⟨fuel, hf⟩ := h
  obtain ⟨xs, m, _, _, _, _, hel⟩ := DataW.trod_array Try.underlying52 hf
  have h0 := hel 0 (by omega)
  have h1 := hel 1 (by omega)
  simp only [cells5, Value.cells] at h0 h1
  have g0 : ∃ x, xs[0]? = some x := by rw [List.getElem?_eq_getElem (by omega)]; exact ⟨_, rfl⟩
  have g1 : ∃ x, xs[1]? = some x := by rw [List.getElem?_eq_getElem (by omega)]; exact ⟨_, rfl⟩
  obtain ⟨x0, g0⟩ := g0
  obtain ⟨x1, g1⟩ := g1
  rw [g0] at h0
  rw [g1] at h1
  obtain ⟨a, e0, _, wa⟩ := DataW.trod_int Try.underlying5 h0
  obtain ⟨b, e1, _, wb⟩ := DataW.trod_int Try.underlying5 h1
  simp at e0 e1
  subst e0 e1
  obtain ⟨a, rfl, ha⟩ := wf_u8 wa
  obtain ⟨b, rfl, hb⟩ := wf_u8 wb
  exact ⟨a, b, rfl, ha, hb⟩
end

end Wi
end Go.Proofs.Ytdcnjaomocehmaa
