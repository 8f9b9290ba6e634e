/- What is handed to a law is read as data; the tables that are laid. -/
import Derived.Test.YtnfakgdgjkgekaaDoorWr
import Derived.Test.YtnfakgdgjkgekaaDoorRows
import Derived.ProofKit
import Derived.Deep.Slices
import Derived.Deep.Strs
import Derived.ChangeOld
import Derived.OpenShut
import Derived.Lib.SmallJoins
import Derived.Lib.LaidTab
import Derived.LaidMore
import Derived.LaidHandle
import Derived.MakeChecks
import Derived.Stop.Joined
import Derived.Stop.LaidErr
import Derived.Laws.IdiomArrays
namespace Go.Proofs.YtnfakgdgjkgekaaDoor
open Go.RowKit
namespace Wi

open Go.ChangeShapes Go.WideShapes Go.ChangeAt Go.Deep
theorem own : ownKnob Tryd.prog.godebug = none := by kernel_rfl
theorem laidOut : laidOutB Tryd.prog = true := by kernel_rfl
theorem gTab : Tryd.prog.globalNamed "math/bits.deBruijn64tab" = some 3 := by kernel_rfl
theorem tTab : (Tryd.prog.globals[3]?).map (·.type) = some 115 := by kernel_rfl
theorem cells115 : Tryd.prog.cellsOf 115 = 64 := by kernel_rfl
theorem cells23 : Tryd.prog.cellsOf 23 = 3 := by kernel_rfl
theorem cells9 : Tryd.prog.cellsOf 9 = 1 := by kernel_rfl
theorem cells3 : Tryd.prog.cellsOf 3 = 1 := by kernel_rfl
theorem cells5 : Tryd.prog.cellsOf 5 = 1 := by kernel_rfl
/-- What the rows list. -/
def laidL : List (String × DataW Unit) := [("math/bits.deBruijn32tab", Rows.laid_math_bits_deBruijn32tab), ("math/bits.deBruijn64tab", Rows.laid_math_bits_deBruijn64tab), ("internal/strconv.uint64pow10", Rows.laid_internal_strconv_uint64pow10)]
def tb64 : List Int := [0, 1, 56, 2, 57, 49, 28, 3, 61, 58, 42, 50, 38, 29, 17, 4, 62, 47, 59, 36, 45, 43, 51, 22, 53, 39, 33, 30, 24, 18, 12, 5, 63, 55, 48, 27, 60, 41, 37, 16, 46, 35, 44, 21, 52, 32, 23, 11, 54, 26, 40, 15, 34, 20, 31, 10, 25, 14, 19, 9, 13, 8, 7, 6]
theorem laid_tab : (Rows.laid_math_bits_deBruijn64tab : DataW Unit) = Lib.tabData .u8 tb64 := rfl
theorem tz_of_laid {W : World} (h : laidMetH Tryd.prog laidL W) : Tz W := by
  rw [MakeChecks.laidMetH_plain _ _ _ (by kernel_rfl)] at h
  have h2 := laidMet.tail h
  rw [laid_tab] at h2
  have hT := Lib.tabIs_of_head (P := Tryd.prog) (W := W) (name := "math/bits.deBruijn64tab") (k := .u8) (zs := tb64) gTab tTab Tryd.underlying115 Tryd.underlying5 cells5 cells115 h2
  have hc := hT.cell gTab 15 (by decide)
  exact ⟨block_lt_of_cell hc, hc⟩
theorem door_met (os : Os) (args : Array Value) : laidMetH Tryd.prog laidL ((World.doorLaid Tryd.prog 400 os).forCall (fun _ _ => 0) ⟨#[], args, []⟩).memory :=
  laidMetH_of_parts3 (fuel := 8) (laidMet_of_run' 8 (by kernel_rfl) (by kernel_rfl)) (by kernel_rfl) (by kernel_rfl)
theorem wf_i64 {n : Int} (h : (Lit.int .i64 n).wf = true) : Num n := by
  simpa [Num, Lit.wf, IntKind.min, IntKind.max, IntKind.bits, IntKind.signed] using h
theorem most_of {n : Nat} (h : n ≤ maxLen) : n ≤ 9223372036854775807 := Nat.le_trans h (by simp [maxLen])
/-- A name: a volume, a kind, a number. -/
structure NmV where
  v : ByteArray
  k : Int
  q : Int
def NmV.cells (o : NmV) : List Value := [.string o.v, .int .i64 o.k, .int .i64 o.q]
structure NmOk (o : NmV) : Prop where
  v : o.v.size ≤ 9223372036854775807
  k : Num o.k
  q : Num o.q
structure Ns (w : World) (a : Option Addr) (n : Nat) (xs : List NmV) : Prop where
  len : n = xs.length
  most : n ≤ 9223372036854775807
  ok : ∀ o ∈ xs, NmOk o
  cells : ∀ i o, xs[i]? = some o → ∃ b off, a = some ⟨b, off, none⟩ ∧ b < w.heap.size ∧ w.rangeAt b (off + i * 3) o.cells
section
variable {H : Type} {enc : TypeId × Value → H} {W : World}
theorem open_texts {a : Option Addr} {len cap : Nat} {d : DataW H} {p : List MemPlace} (h : DataW.Trod enc Tryd.prog W 0 (fun _ => true) true 37 (.slice a len cap) d p) : ∃ xs, Ss W a len xs := by
  obtain ⟨fuel, hf⟩ := h
  rcases open_strs Tryd.underlying37 Tryd.underlying9 cells9 hf with ⟨hcs, _⟩ | ⟨ad, l, c, m, Sx, hcs, hb, hl, hmx, hm, _, hel⟩
  · simp [Value.cells] at hcs
    obtain ⟨rfl, rfl, rfl⟩ := hcs
    exact ⟨[], Ss.nil _ _⟩
  · simp [Value.cells] at hcs
    obtain ⟨rfl, rfl, rfl⟩ := hcs
    simp only [if_true] at hm
    subst hm
    refine ⟨(List.range len).map Sx, by simp, most_of (Nat.le_trans hl hmx), fun s hs => ?_, fun i s hi => ?_⟩
    · simp only [List.mem_map, List.mem_range] at hs
      obtain ⟨i, hi, rfl⟩ := hs
      exact most_of (hel i (by omega)).2
    · have hil : i < len := by
        have := (List.getElem?_eq_some_iff.1 hi).1
        simpa using this
      simp [hil] at hi
      subst hi
      have hc := (hel i (by omega)).1
      obtain ⟨b, off, spot⟩ := ad
      have hspot : spot = none := by
        have : W.cell? ⟨b, off, spot⟩ = some (.string (Sx 0)) := by simpa [Addr.add] using (hel 0 (by omega)).1
        exact World.cell?_spot this
      subst hspot
      have hc' : W.cell? ⟨b, off + i, none⟩ = some (.string (Sx i)) := by simpa [Addr.add_lit] using hc
      exact ⟨b, off, rfl, block_lt_of_cell hc', hc'⟩
theorem open_nums {a : Option Addr} {len cap : Nat} {d : DataW H} {p : List MemPlace} (h : DataW.Trod enc Tryd.prog W 0 (fun _ => true) true 38 (.slice a len cap) d p) : ∃ xs, Is W a len xs ∧ len ≤ 9223372036854775807 := by
  obtain ⟨fuel, hf⟩ := h
  rcases open_slice1 Tryd.underlying38 cells3 hf with ⟨hcs, _⟩ | ⟨ad, l, c, m, n, V, D, Pl, hcs, hb, hl, hmx, hm, _, hel⟩
  · simp [Value.cells] at hcs
    obtain ⟨rfl, rfl, rfl⟩ := hcs
    exact ⟨[], ⟨rfl, by simp, by simp⟩, by omega⟩
  · simp [Value.cells] at hcs
    obtain ⟨rfl, rfl, rfl⟩ := hcs
    simp only [if_true] at hm
    subst hm
    have hex : ∀ i, i < len → ∃ x : Int, W.cell? (ad.add i) = some (.int .i64 x) ∧ Num x := fun i hi => by
      obtain ⟨h1, h2⟩ := hel i (by omega)
      obtain ⟨b, e1, _, wb⟩ := DataW.trod_int Tryd.underlying3 h2
      simp at e1
      exact ⟨b, by rw [h1, e1], wf_i64 wb⟩
    obtain ⟨N, hN⟩ : ∃ N : Nat → Int, ∀ i, i < len → W.cell? (ad.add i) = some (.int .i64 (N i)) ∧ Num (N i) :=
      ⟨fun i => if hi : i < len then Classical.choose (hex i hi) else 0, fun i hi => by
        simp only [hi, dif_pos]
        exact Classical.choose_spec (hex i hi)⟩
    refine ⟨(List.range len).map N, ⟨by simp, fun s hs => ?_, fun i s hi => ?_⟩, most_of (Nat.le_trans hl hmx)⟩
    · simp only [List.mem_map, List.mem_range] at hs
      obtain ⟨i, hi, rfl⟩ := hs
      exact (hN i hi).2
    · have hil : i < len := by
        have := (List.getElem?_eq_some_iff.1 hi).1
        simpa using this
      simp [hil] at hi
      subst hi
      have hc := (hN i hil).1
      obtain ⟨b, off, spot⟩ := ad
      have hspot : spot = none := by
        have : W.cell? ⟨b, off, spot⟩ = some (.int .i64 (N 0)) := by simpa [Addr.add] using (hN 0 (by omega)).1
        exact World.cell?_spot this
      subst hspot
      have hc' : W.cell? ⟨b, off + i, none⟩ = some (.int .i64 (N i)) := by simpa [Addr.add_lit] using hc
      exact ⟨b, off, rfl, block_lt_of_cell hc', hc'⟩
set_option maxRecDepth 20000 in
theorem open_nm_cells {fuel : Nat} {cs : List Value} {x : DataW H × List MemPlace} (h : DataW.trod enc Tryd.prog W 0 (fun _ => true) true fuel 23 cs = some x) : ∃ o : NmV, cs = o.cells ∧ NmOk o := by
  obtain ⟨xs, n, _, _, hl, hlen, hf⟩ := DataW.trod_struct Tryd.underlying23 h
  have hl3 : cs.length = 3 := by rw [hl, cells23]
  match cs, hl3 with
  | [c0, c1, c2], _ =>
    have h0 : DataW.trod enc Tryd.prog W 0 (fun _ => true) true n 9 [c0] = xs[0]? := by simpa [cells3, cells9] using hf 0 _ rfl
    have h1 : DataW.trod enc Tryd.prog W 0 (fun _ => true) true n 3 [c1] = xs[1]? := by simpa [cells3, cells9] using hf 1 _ rfl
    have h2 : DataW.trod enc Tryd.prog W 0 (fun _ => true) true n 3 [c2] = xs[2]? := by simpa [cells3, cells9] using hf 2 _ rfl
    have g : ∀ i, i < 3 → ∃ y, xs[i]? = some y := fun i hi => ⟨_, List.getElem?_eq_getElem (by rw [hlen]; exact hi)⟩
    obtain ⟨y0, g0⟩ := g 0 (by omega)
    obtain ⟨y1, g1⟩ := g 1 (by omega)
    obtain ⟨y2, g2⟩ := g 2 (by omega)
    rw [g0] at h0
    rw [g1] at h1
    rw [g2] at h2
    obtain ⟨s, e0, _, ws⟩ := DataW.trod_string Tryd.underlying9 h0
    obtain ⟨a, e1, _, wa⟩ := DataW.trod_int Tryd.underlying3 h1
    obtain ⟨b, e2, _, wb⟩ := DataW.trod_int Tryd.underlying3 h2
    simp at e0 e1 e2
    exact ⟨⟨s, a, b⟩, by rw [e0, e1, e2]; rfl, most_of ws, wf_i64 wa, wf_i64 wb⟩
set_option maxRecDepth 20000 in
theorem open_nm {v : Value} {d : DataW H} {p : List MemPlace} {base : Nat} (hv : Value.okWide Tryd.prog W .any base 23 v) (h : DataW.Trod enc Tryd.prog W 0 (fun _ => true) true 23 v d p) : ∃ o : NmV, v = .agg o.cells.toArray ∧ NmOk o := by
  obtain ⟨cs, rfl, hsz⟩ := okWide_struct Tryd.underlying23 hv
  obtain ⟨fuel, hf⟩ := h
  obtain ⟨o, ho, hok⟩ := open_nm_cells hf
  refine ⟨o, ?_, hok⟩
  rw [← ho]
  simp [Value.cells]
set_option maxRecDepth 20000 in
theorem open_nms {a : Option Addr} {len cap : Nat} {d : DataW H} {p : List MemPlace} (h : DataW.Trod enc Tryd.prog W 0 (fun _ => true) true 47 (.slice a len cap) d p) : ∃ xs, Ns W a len xs := by
  obtain ⟨fuel, hf⟩ := h
  rcases open_slice Tryd.underlying47 hf with ⟨hcs, _⟩ | ⟨ad, l, c, m, n, D, Pl, hcs, hb, hl, hmx, hm, _, hel⟩
  · simp [Value.cells] at hcs
    obtain ⟨rfl, rfl, rfl⟩ := hcs
    exact ⟨[], rfl, by omega, by simp, fun i o hi => by simp at hi⟩
  · simp [Value.cells] at hcs
    obtain ⟨rfl, rfl, rfl⟩ := hcs
    simp only [if_true] at hm
    subst hm
    rw [cells23] at hel
    have hex : ∀ i, i < len → ∃ o : NmV, W.cells? 0 (ad.add (i * 3)) 3 = some o.cells ∧ NmOk o := fun i hi => by
      obtain ⟨cs', h1, h2⟩ := hel i (by omega)
      obtain ⟨s, rfl, hs⟩ := open_nm_cells h2
      exact ⟨s, h1, hs⟩
    obtain ⟨V, hV⟩ : ∃ V : Nat → NmV, ∀ i, i < len → W.cells? 0 (ad.add (i * 3)) 3 = some (V i).cells ∧ NmOk (V i) :=
      ⟨fun i => if hi : i < len then Classical.choose (hex i hi) else ⟨ByteArray.empty, 0, 0⟩, fun i hi => by
        simp only [hi, dif_pos]
        exact Classical.choose_spec (hex i hi)⟩
    refine ⟨(List.range len).map V, by simp, most_of (Nat.le_trans hl hmx), fun o ho => ?_, fun i o hi => ?_⟩
    · simp only [List.mem_map, List.mem_range] at ho
      obtain ⟨i, hi, rfl⟩ := ho
      exact (hV i hi).2
    · have hil : i < len := by
        have := (List.getElem?_eq_some_iff.1 hi).1
        simpa using this
      simp [hil] at hi
      subst hi
      have h1 := (hV i hil).1
      have hblk := World.cells?_block h1 (by omega)
      obtain ⟨_, _, hcell⟩ := World.cells?_some h1
      obtain ⟨b, off, spot⟩ := ad
      have hspot : spot = none := by
        have k1 := (hV 0 (by omega)).1
        have k0 := (World.cells?_some k1).2.2 0 (by omega)
        have : W.cell? ⟨b, off, spot⟩ = some (.string (V 0).v) := by simpa [Addr.add, NmV.cells] using k0
        exact World.cell?_spot this
      subst hspot
      refine ⟨b, off, rfl, by simpa [Addr.add_lit] using hblk, fun j v hv => ?_⟩
      have hj : j < 3 := by
        have := (List.getElem?_eq_some_iff.1 hv).1
        simpa [NmV.cells] using this
      have := hcell j hj
      rw [hv] at this
      simpa [Addr.add_lit] using this
end

end Wi
end Go.Proofs.YtnfakgdgjkgekaaDoor
