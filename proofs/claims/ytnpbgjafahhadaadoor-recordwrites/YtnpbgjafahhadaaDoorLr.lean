/- A block of bytes that is written; the bytes of a string. -/
import Derived.Test.YtnpbgjafahhadaaDoorSg
import Derived.Lib.ConvBytes
namespace Go.Proofs.YtnpbgjafahhadaaDoor
open Go.RowKit
namespace Re
open Cr
/-- The block g holds these n bytes, and may be written. -/
structure Rowc (w : World) (g n : Nat) (f : Nat → Nat) : Prop where
  lt : g < w.heap.size
  cell : ∀ i, i < n → w.cell? ⟨g, i, none⟩ = some (.int .u8 (f i : Nat))
  frozen : ∀ i, i < n → w.frozen? ⟨g, i, none⟩ = false
theorem Rowc.later {w w' : World} {g n : Nat} {f : Nat → Nat} (h : Rowc w g n f) (hb : Below w.heap.size w w') : Rowc w' g n f :=
  ⟨Nat.lt_of_lt_of_le h.lt hb.size, fun i hi => (hb.cell h.lt).trans (h.cell i hi), fun i hi => (hb.frozen h.lt).trans (h.frozen i hi)⟩
theorem Rowc.set {w : World} {g n : Nat} {f : Nat → Nat} (h : Rowc w g n f) {k : Nat} (hk : k < n) (v : Nat) : Rowc (w.setCell ⟨g, k, none⟩ (.int .u8 (v : Nat))) g n (fun i => if i = k then v else f i) :=
  ⟨by simpa using h.lt, fun i hi => by
    by_cases e : i = k
    · subst e
      rw [if_pos rfl]
      exact World.cell?_setCell_same _ _ _ (h.cell i hi)
    · rw [if_neg e, World.cell?_setCell_other _ _ _ _ (fun e2 => e (by cases e2; rfl))]
      exact h.cell i hi, fun i hi => by rw [World.frozen?_setCell]; exact h.frozen i hi⟩
theorem Rowc.conv {w : World} {g n : Nat} {f : Nat → Nat} (h : Rowc w g n f) (cap : Nat) : (convert 52 9 (.slice (some ⟨g, 0, none⟩) n cap)).run Tryd.prog w = .ok (.string (str ((List.range n).map f))) w :=
  conv_bytes w g 0 n cap _ (by simp) fun i x hx => by
    have hi : i < n := by simpa using (List.getElem?_eq_some_iff.1 hx).1
    simp [hi] at hx
    subst hx
    rw [Nat.zero_add]
    exact h.cell i hi
theorem below_set {B : Nat} {a w : World} (h : Below B a w) {g : Nat} (hg : B ≤ g) (i : Nat) (u : Value) : Below B a (w.setCell ⟨g, i, none⟩ u) := h.setCell hg u
theorem to_bytes (s : ByteArray) (w : World) : ∃ cap wb, (convert 9 52 (.string s)).run Tryd.prog w = .ok (.slice (some ⟨w.heap.size, 0, none⟩) s.size cap) wb ∧ Rowc wb w.heap.size s.size (fun i => (bs s).getD i 0) ∧ Below w.heap.size w wb := by
  refine ⟨_, _, Lib.run_convert_string_bytes (P := Tryd.prog) w 9 52 5 s Tryd.underlying9 Tryd.underlying52 Tryd.underlying5, ⟨?_, ?_, ?_⟩, ?_⟩
  · rw [Lib.bytesWorld_size]; omega
  · intro i hi
    rw [Lib.bytesWorld_cell w 5 s i hi]
    have h' : i < s.data.size := hi
    simp [bs, List.getD, Array.getElem?_eq_getElem h']
  · intro i hi
    have hb : i < (Lib.bytesCells w 5 s).size := by
      simp only [Lib.bytesCells, Array.size_append, Array.size_map]
      have : s.data.size = s.size := rfl
      omega
    simp only [World.frozen?, Lib.bytesWorld_at_new]
    simp
    omega
  · exact ⟨rfl, rfl, rfl, by rw [Lib.bytesWorld_size]; omega, fun k hk => Lib.bytesWorld_at_old w 5 s k hk⟩

def I64 (x : Int) : Prop := -9223372036854775808 ≤ x ∧ x ≤ 9223372036854775807
/-- A pair of numbers in a block. -/
structure B2 (w : World) (b : Nat) (x y : Int) : Prop where
  lt : b < w.heap.size
  c0 : w.cell? ⟨b, 0, none⟩ = some (.int .i64 x)
  c1 : w.cell? ⟨b, 1, none⟩ = some (.int .i64 y)
theorem B2.later {w w' : World} {b : Nat} {x y : Int} (h : B2 w b x y) (hb : Below (b + 1) w w') : B2 w' b x y :=
  ⟨Nat.lt_of_lt_of_le h.lt hb.size, (hb.cell (by simp)).trans h.c0, (hb.cell (by simp)).trans h.c1⟩
theorem box2 (w : World) (x y : Int) (t : TypeId) : B2 (w.alloc (.cells #[.int .i64 x, .int .i64 y] t)) w.heap.size x y := ⟨by simp, by simp, by simp⟩
theorem set_range {l : List Nat} {n p v : Nat} (hl : l.length = n) : (List.range n).map (fun i => if i = p then v else l.getD i 0) = l.set p v := by
  apply List.ext_getElem
  · simp [hl]
  · intro i h1 h2
    have hi : i < l.length := by simpa using h2
    simp only [List.getElem_map, List.getElem_range, List.getElem_set]
    by_cases e : i = p
    · rw [if_pos e, if_pos e.symm]
    · rw [if_neg e, if_neg (fun h => e h.symm), List.getD_eq_getElem?_getD, List.getElem?_eq_getElem hi]
      rfl
end Re
end Go.Proofs.YtnpbgjafahhadaaDoor
