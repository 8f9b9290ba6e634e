/- A slice of ints that is handed in. -/
import Derived.Test.YtbgadcofjhgmiaaLw
import Derived.Test.YtbgadcofjhgmiaaLm
namespace Go.Proofs.Ytbgadcofjhgmiaa
open Go.RowKit
namespace Sp

open Go.ChangeShapes Go.WideShapes Go.ChangeAt Go.Deep
theorem most_of {n : Nat} (h : n ≤ maxLen) : n ≤ 9223372036854775807 := Nat.le_trans h (by simp [maxLen])
section
variable {H : Type} {enc : TypeId × Value → H} {W : World}
set_option maxRecDepth 100000 in
theorem open_nums {a : Option Addr} {len cap : Nat} {d : DataW H} {p : List MemPlace} (h : DataW.Trod enc Try.prog W 0 (fun _ => true) true 41 (.slice a len cap) d p) : ∃ xs, Is W a len xs ∧ len ≤ 9223372036854775807 := by
  obtain ⟨fuel, hf⟩ := h
  rcases open_slice1 Try.underlying41 cells3 hf with ⟨hcs, _⟩ | ⟨ad, l, c, m, n, V, D, Pl, hcs, hb, hl, hmx, hm, _, hel⟩
  · simp [Value.cells] at hcs
    obtain ⟨rfl, rfl, rfl⟩ := hcs
    exact ⟨[], ⟨rfl, by simp, by simp⟩, by omega⟩
  · simp [Value.cells] at hcs
    obtain ⟨rfl, rfl, rfl⟩ := hcs
    simp only [if_true] at hm
    subst hm
    have hex : ∀ i, i < len → ∃ x : Int, W.cell? (ad.add i) = some (.int .i64 x) ∧ I64 x := fun i hi => by
      obtain ⟨h1, h2⟩ := hel i (by omega)
      obtain ⟨b, e1, _, wb⟩ := DataW.trod_int Try.underlying3 h2
      simp at e1
      exact ⟨b, by rw [h1, e1], wf_i64 wb⟩
    obtain ⟨N, hN⟩ : ∃ N : Nat → Int, ∀ i, i < len → W.cell? (ad.add i) = some (.int .i64 (N i)) ∧ I64 (N i) :=
      ⟨fun i => if hi : i < len then Classical.choose (hex i hi) else 0, fun i hi => by
        simp only [hi, dif_pos]
        exact Classical.choose_spec (hex i hi)⟩
    refine ⟨(List.range len).map N, ⟨by simp, fun s hs => ?_, fun i s hi => ?_⟩, most_of (Nat.le_trans hl hmx)⟩
    · simp only [List.mem_map, List.mem_range] at hs
      obtain ⟨i, hi, rfl⟩ := hs
      exact (hN i hi).2
    · have hil : i < len := by
        have := (List.getElem?_eq_some_iff.1 hi).1
        simpa using this
      simp [hil] at hi
      subst hi
      have hc := (hN i hil).1
      obtain ⟨b, off, spot⟩ := ad
      have hspot : spot = none := by
        have : W.cell? ⟨b, off, spot⟩ = some (.int .i64 (N 0)) := by simpa [Addr.add] using (hN 0 (by omega)).1
        exact World.cell?_spot this
      subst hspot
      have hc' : W.cell? ⟨b, off + i, none⟩ = some (.int .i64 (N i)) := by simpa [Addr.add_lit] using hc
      exact ⟨b, off, rfl, block_lt_of_cell hc', hc'⟩
end

end Sp
end Go.Proofs.Ytbgadcofjhgmiaa
