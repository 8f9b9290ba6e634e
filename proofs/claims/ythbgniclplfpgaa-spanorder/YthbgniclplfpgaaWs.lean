/- A part of the proofs about package span: what its functions answer, call by call. -/
import Derived.Test.YthbgniclplfpgaaWr
namespace Go.Proofs.Ythbgniclplfpgaa
open Go.RowKit
namespace Sp

/-- A row of bools, told by a function. -/
def bl (n : Nat) (f : Nat → Bool) : List Value := (List.range n).map fun j => .bool (f j)
theorem bl_length (n : Nat) (f : Nat → Bool) : (bl n f).length = n := by simp [bl]
theorem bl_get {n : Nat} {f : Nat → Bool} {i : Nat} (h : i < n) : (bl n f)[i]? = some (.bool (f i)) := by simp [bl, h]
theorem bl_set {n : Nat} {f : Nat → Bool} {k : Nat} (b : Bool) : (bl n f).set k (.bool b) = bl n (fun j => if j = k then b else f j) := by
  apply List.ext_getElem?
  intro i
  by_cases hi : i < n
  · rw [bl_get hi]
    by_cases e : k = i
    · subst e; simp [bl_length, hi]
    · rw [List.getElem?_set_ne e, bl_get hi]; simp [Ne.symm e]
  · rw [List.getElem?_eq_none (by rw [List.length_set, bl_length]; omega), List.getElem?_eq_none (by rw [bl_length]; omega)]
theorem bl_congr {n : Nat} {f g : Nat → Bool} (h : ∀ i, i < n → f i = g i) : bl n f = bl n g := by
  apply List.ext_getElem?
  intro i
  by_cases hi : i < n
  · rw [bl_get hi, bl_get hi, h i hi]
  · rw [List.getElem?_eq_none (by rw [bl_length]; omega), List.getElem?_eq_none (by rw [bl_length]; omega)]
/-- Block g is a row of 400 bools of the call's own. -/
def Rowb (w : World) (g : Nat) (f : Nat → Bool) : Prop := w.ownsRow 0 4 1 (.slice (some ⟨g, 0, none⟩) 400 400) 400 (bl 400 f)
theorem Rowb.cell {w : World} {g : Nat} {f : Nat → Bool} (h : Rowb w g f) {i : Nat} (hi : i < 400) : w.cell? ⟨g, i, none⟩ = some (.bool (f i)) := by
  rw [World.ownsRow.cellAt h i (by omega), bl_get hi]
theorem Rowb.frozen {w : World} {g : Nat} {f : Nat → Bool} (h : Rowb w g f) (i : Nat) : w.frozen? ⟨g, i, none⟩ = false := World.ownsRow.frozenAt h i
theorem Rowb.lt {w : World} {g : Nat} {f : Nat → Bool} (h : Rowb w g f) : g < w.heap.size := (World.ownsRow.lt h g rfl).2
theorem Rowb.later {w w' : World} {g : Nat} {f : Nat → Bool} (h : Rowb w g f) (hb : Below w.heap.size w w') : Rowb w' g f :=
  World.ownsRow.kept h (row := none) ⟨hb.os, hb.tape, hb.output, hb.size, fun k hk _ => hb.block k hk⟩ (by simp [Value.ownBlock])
theorem Rowb.store {w : World} {g : Nat} {f : Nat → Bool} (h : Rowb w g f) (k : Nat) (b : Bool) : Rowb (w.setCell ⟨g, k, none⟩ (.bool b)) g (fun j => if j = k then b else f j) := by
  have := (World.ownsRow.stored h k (.bool b)).1
  rwa [bl_set] at this
theorem Rowb.congr {w : World} {g : Nat} {f q : Nat → Bool} (h : Rowb w g f) (hq : ∀ i, i < 400 → f i = q i) : Rowb w g q := by
  unfold Rowb at *
  rwa [← bl_congr hq]
theorem Rowb.sb {w : World} {g : Nat} {f : Nat → Bool} (h : Rowb w g f) : Sb w (some ⟨g, 0, none⟩) 400 f :=
  ⟨by omega, fun i hi => ⟨g, 0, rfl, h.lt, by rw [Nat.zero_add]; exact h.cell hi⟩⟩

theorem info4 : (Try.prog.info? 4).map (fun i => (i.zero, i.size, i.bytes)) = some (some (.bool false), 1, 1) := by kernel_rfl
/-- 400 bools, all false. -/
def zrow : Array Value := madeCells (Value.bool false).cells 400
theorem zrow_list : zrow.toList = bl 400 (fun _ => false) := by
  apply List.ext_getElem?
  intro i
  by_cases hi : i < 400
  · rw [bl_get hi]
    simp [zrow, madeCells, hi, Value.cells, Nat.mod_one]
  · rw [List.getElem?_eq_none (by simp [zrow, size_madeCells]; omega), List.getElem?_eq_none (by rw [bl_length]; omega)]
theorem zrow_size : zrow.size = 400 := size_madeCells _ _
theorem make400 (W : World) : Sem.run Try.prog (Instr.makeSlice 37 (.int .i64 400) (.int .i64 400)) W = .ok (.slice (some ⟨W.heap.size, 0, none⟩) 400 400) (W.alloc (.cells zrow 4)) := by
  obtain ⟨i0, hi, hz0, hz1, hz2⟩ := info_parts info4
  have := run_make (P := Try.prog) W 37 4 i0 (.bool false) Try.underlying37 hi hz0 .i64 .i64 400 400 (by omega) (by omega) (by rw [hz2]; decide) (by omega)
  rw [hz1] at this
  exact this
theorem rowb_made (W : World) : Rowb (W.alloc (.cells zrow 4)) W.heap.size (fun _ => false) :=
  ⟨by rw [bl_length], .inr ⟨W.heap.size, 400, zrow, rfl, Nat.zero_le _, heap_alloc_new W _, Nat.le_refl _, by unfold maxLen; omega, by rw [zrow_size], by rw [zrow_list, List.take_of_length_le (by rw [bl_length]; omega)]⟩⟩
theorem below_set {B : Nat} {a w : World} (h : Below B a w) {g : Nat} (hg : B ≤ g) (i : Nat) (u : Value) : Below B a (w.setCell ⟨g, i, none⟩ u) := h.setCell hg u

theorem rowb_step {w : World} {g k : Nat} {q : Nat → Bool} (h : Rowb w g (fun j => decide (j < k) && q j)) : Rowb (w.setCell ⟨g, k, none⟩ (.bool (q k))) g (fun j => decide (j < k + 1) && q j) :=
  (h.store k (q k)).congr fun j _ => by
    by_cases e : j = k
    · simp [e]
    · simp only [e, if_false]
      congr 1
      exact decide_eq_decide.2 (by omega)
theorem rowb_full {w : World} {g k : Nat} {q : Nat → Bool} (h : Rowb w g (fun j => decide (j < k) && q j)) (hk : 400 ≤ k) : Rowb w g q :=
  h.congr fun j hj => by
    have : j < k := by omega
    simp [this]

set_option maxRecDepth 100000 in
set_option maxHeartbeats 2000000 in
theorem sectors_any (a : Option Addr) (n cap : Nat) (xs : List (Int × Int)) (w : World) (h : Sl w a n xs) (ha : allB xs = true) :
    Calls Try.prog 25 #[.slice a n cap] w fun e w' => e = .returned (.slice (some ⟨w.heap.size, 0, none⟩) 400 400) ∧ Rowb w' w.heap.size (fun j => wi xs j) ∧ Below w.heap.size w w' := by
  have hn := h.most
  have hmk := make400
  have hw := fun (k : Nat) (hk : k < 400) W hW => within_any a n cap xs (k : Int) W hW ha (by omega)
  go_enter Try.func25, Try.ntmps25
  go_wp2
  go_loopw [4] (fun i wr => ∃ (k : Nat), k ≤ 400 ∧ i = .int .i64 k ∧ Rowb wr w.heap.size (fun j => decide (j < k) && wi xs j) ∧ Below w.heap.size w wr) (fun i _ => 400 - (intOf i).toNat)
  case atStart => exact ⟨0, Nat.zero_le _, rfl, by simpa using rowb_made w, below_alloc _ _⟩
  case round =>
    obtain ⟨k, hk, rfl, hrow, hbr⟩ := hrel
    by_cases hlt : k < 400
    · go_wp2_with fail
      refine (hw k hlt _ (h.later hbr)).mono ?_
      rintro e w1 ⟨rfl, hb1⟩
      have hrow1 := hrow.later hb1
      have c0 := hrow1.cell hlt
      have f0 := hrow1.frozen k
      have R1 := hide (rowb_step (q := fun j => wi xs j) hrow1)
      have R2 := hide (below_set (hbr.trans (hb1.mono hbr.size)) (Nat.le_refl _) k (.bool (wi xs k)))
      have hmg : w.heap.size < w1.heap.size := hrow1.lt
      clear hrow1 hrow hb1 hbr h hw
      generalize wi xs (k : Int) = r at *
      go_wp2
      go_roundw
      case rel => exact ⟨k + 1, by omega, by go_num, R1.out, R2.out⟩
      case measure => simp [intOf]; omega
    · have R1 := hide (rowb_full (q := fun j => wi xs j) hrow (by omega))
      clear hrow h hw
      go_wp2
      go_ret
      exact ⟨rfl, R1.out, hbr⟩

/-- The set of the sectors of which q says yes, up to 400. -/
def BothPost (q : Nat → Bool) (w : World) (e : Ending) (w' : World) : Prop := ∃ ys, SO q 400 ys ∧ RowPost ys w e w'

set_option maxRecDepth 100000 in
set_option maxHeartbeats 2000000 in
theorem both_two (a b : Option Addr) (cap cap' : Nat) (f g : Nat → Bool) (w : World) (hA : Sb w a 400 f) (hB : Sb w b 400 g) :
    Calls Try.prog 28 #[.slice a 400 cap, .slice b 400 cap', .int .i64 2] w (BothPost (fun j => f j && g j) w) := by
  have hmk := make400
  go_enter Try.func28, Try.ntmps28
  go_wp2
  go_loopw [8] (fun i wr => ∃ (k : Nat), k ≤ 400 ∧ i = .int .i64 k ∧ Rowb wr w.heap.size (fun j => decide (j < k) && (f j && g j)) ∧ Below w.heap.size w wr) (fun i _ => 400 - (intOf i).toNat)
  case atStart => exact ⟨0, Nat.zero_le _, rfl, by simpa using rowb_made w, below_alloc _ _⟩
  case round =>
    obtain ⟨k, hk, rfl, hrow, hbr⟩ := hrel
    by_cases hlt : k < 400
    · obtain ⟨ba, offa, rfl, hbla, c0⟩ := (hA.later hbr).cells k hlt
      obtain ⟨bb, offb, rfl, hblb, d0⟩ := (hB.later hbr).cells k hlt
      have e0 := hrow.cell hlt
      have f0 := hrow.frozen k
      have R1 := hide (rowb_step (q := fun j => f j && g j) hrow)
      have hbx := fun u => below_set hbr (Nat.le_refl w.heap.size) k u
      have R2 := hide hbx
      have hmg : w.heap.size < wr.heap.size := hrow.lt
      clear hrow hA hB hbx
      generalize f k = fk at *
      generalize g k = gk at *
      cases fk
      · go_wp2
        go_roundw
        case rel => exact ⟨k + 1, by omega, by go_num, R1.out, R2.out _⟩
        case measure => simp [intOf]; omega
      · simp only [Bool.true_and] at R1
        go_wp2
        go_roundw
        case rel => exact ⟨k + 1, by omega, by go_num, R1.out, R2.out _⟩
        case measure => simp [intOf]; omega
    · have R1 := hide (rowb_full (q := fun j => f j && g j) hrow (by omega))
      clear hrow hA hB
      have hset := set_any (some ⟨w.heap.size, 0, none⟩) 400 400 (fun j => f j && g j) wr R1.out.sb
      go_wp2_with fail
      refine hset.mono ?_
      rintro e w1 ⟨ys, hso, v, rfl, ho, hf, hb1⟩
      go_wp2
      go_ret
      exact ⟨ys, hso, v, rfl, ho, fun q hq => Nat.le_trans hbr.size (hf q hq), hbr.trans (hb1.mono hbr.size)⟩

set_option maxRecDepth 100000 in
set_option maxHeartbeats 2000000 in
theorem both_three (a b : Option Addr) (cap cap' : Nat) (f g : Nat → Bool) (w : World) (hA : Sb w a 400 f) (hB : Sb w b 400 g) :
    Calls Try.prog 28 #[.slice a 400 cap, .slice b 400 cap', .int .i64 3] w (BothPost (fun j => f j && !g j) w) := by
  have hmk := make400
  go_enter Try.func28, Try.ntmps28
  go_wp2
  go_loopw [8] (fun i wr => ∃ (k : Nat), k ≤ 400 ∧ i = .int .i64 k ∧ Rowb wr w.heap.size (fun j => decide (j < k) && (f j && !g j)) ∧ Below w.heap.size w wr) (fun i _ => 400 - (intOf i).toNat)
  case atStart => exact ⟨0, Nat.zero_le _, rfl, by simpa using rowb_made w, below_alloc _ _⟩
  case round =>
    obtain ⟨k, hk, rfl, hrow, hbr⟩ := hrel
    by_cases hlt : k < 400
    · obtain ⟨ba, offa, rfl, hbla, c0⟩ := (hA.later hbr).cells k hlt
      obtain ⟨bb, offb, rfl, hblb, d0⟩ := (hB.later hbr).cells k hlt
      have e0 := hrow.cell hlt
      have f0 := hrow.frozen k
      have R1 := hide (rowb_step (q := fun j => f j && !g j) hrow)
      have hbx := fun u => below_set hbr (Nat.le_refl w.heap.size) k u
      have R2 := hide hbx
      have hmg : w.heap.size < wr.heap.size := hrow.lt
      clear hrow hA hB hbx
      generalize f k = fk at *
      generalize g k = gk at *
      cases fk
      · go_wp2
        go_roundw
        case rel => exact ⟨k + 1, by omega, by go_num, R1.out, R2.out _⟩
        case measure => simp [intOf]; omega
      · simp only [Bool.true_and] at R1
        go_wp2
        go_roundw
        case rel => exact ⟨k + 1, by omega, by go_num, R1.out, R2.out _⟩
        case measure => simp [intOf]; omega
    · have R1 := hide (rowb_full (q := fun j => f j && !g j) hrow (by omega))
      clear hrow hA hB
      have hset := set_any (some ⟨w.heap.size, 0, none⟩) 400 400 (fun j => f j && !g j) wr R1.out.sb
      go_wp2_with fail
      refine hset.mono ?_
      rintro e w1 ⟨ys, hso, v, rfl, ho, hf, hb1⟩
      go_wp2
      go_ret
      exact ⟨ys, hso, v, rfl, ho, fun q hq => Nat.le_trans hbr.size (hf q hq), hbr.trans (hb1.mono hbr.size)⟩

end Sp
end Go.Proofs.Ythbgniclplfpgaa
