/- A part of the proofs about package crc: what its functions answer, call by call. -/
import Derived.Test.YtjopjffecnflkaaDoorProg
import Derived.Test.YtjopjffecnflkaaDoorMb
import Derived.WalkKit
import Derived.WalkSpells
import Derived.WalkLawsBesides
import Derived.Deep.QuietTactic
import Derived.BigQuiet
import Derived.Laws.BitsAllLaws
namespace Go.Proofs.YtjopjffecnflkaaDoor
open Go.RowKit
namespace Cr

theorem hide {p : Prop} (h : p) : Hid p := h
theorem ret_int {k : IntKind} {a b : Int} (h : a = b) : Ending.returned (.int k a) = .returned (.int k b) := by rw [h]
theorem ret_bool {a b : Bool} (h : a = b) : Ending.returned (.bool a) = .returned (.bool b) := by rw [h]
theorem ret_str {a b : ByteArray} (h : a = b) : Ending.returned (.string a) = .returned (.string b) := by rw [h]

/-- A later world: all that lay in w lies unturned. -/
structure Later (w : World) where
  val : World
  below : Below w.heap.size w val

theorem later_ne (w : World) : Nonempty (Later w) := ⟨⟨w, Below.refl _ _⟩⟩

theorem wp_region_later {P : Program} {id : Nat} {Q : Exit → Act → World → Prop} {a : Act} {w : World} {l : List Oper} (hm : P.follows .mixedOrders = true) (hB : Region.lexB .any l.toArray = true)
    (h : wpQuiet P l.toArray (fun w' => ∃ p : Later w, w' = p.val) (fun a' => ∀ w', (∃ p : Later w, w' = p.val) → Q .normal a' w') l a) : (Code.region id l.toArray true).wp P Q a w :=
  wp_region_quiet (C := fun w' => ∃ p : Later w, w' = p.val) hm hB ⟨⟨w.drew, (Below.refl _ _).drew⟩, rfl⟩ (by simpa using h)

/-- A callee's contract, met in a later world. -/
theorem later_of {P : Program} {f : FuncId} {args : Array Value} {w : World} {p : Later w} {v : Value}
    (h : Calls P f args p.val fun e w' => e = .returned v ∧ Below p.val.heap.size p.val w') : Calls P f args p.val fun e w'' => e = .returned v ∧ ∃ p : Later w, w'' = p.val :=
  h.mono fun _ w' ⟨he, hb⟩ => ⟨he, ⟨w', p.below.trans (hb.mono p.below.size)⟩, rfl⟩
theorem below_alloc (w : World) (o : Obj) : Below w.heap.size w (w.alloc o) := (Below.refl _ _).alloc (Nat.le_refl _) _

/-- The table of half bytes lies as it was laid. -/
structure Tab (w : World) : Prop where
  lt : 0 < w.heap.size
  cell : ∀ i, i < 16 → w.cell? ⟨0, i, none⟩ = some (.int .u32 (tb i : Nat))
theorem Tab.later {w w' : World} (h : Tab w) (hb : Below w.heap.size w w') : Tab w' :=
  ⟨Nat.lt_of_lt_of_le h.lt hb.size, fun i hi => (hb.cell h.lt).trans (h.cell i hi)⟩

/-- A slice's memory holds these strings. -/
structure Ss (w : World) (a : Option Addr) (n : Nat) (xs : List ByteArray) : Prop where
  len : n = xs.length
  most : n ≤ 9223372036854775807
  fit : ∀ s ∈ xs, s.size ≤ 9223372036854775807
  cells : ∀ i s, xs[i]? = some s → ∃ b off, a = some ⟨b, off, none⟩ ∧ b < w.heap.size ∧ w.cell? ⟨b, off + i, none⟩ = some (.string s)
theorem Ss.later {w : World} {a : Option Addr} {n : Nat} {xs : List ByteArray} (h : Ss w a n xs) {wr : World} (hb : Below w.heap.size w wr) : Ss wr a n xs :=
  ⟨h.len, h.most, h.fit, fun i s hi => by
    obtain ⟨b, off, ha, hbl, c0⟩ := h.cells i s hi
    exact ⟨b, off, ha, Nat.lt_of_lt_of_le hbl hb.size, (hb.cell hbl).trans c0⟩⟩
theorem Ss.nil (w : World) (c : Option Addr) : Ss w c 0 [] := ⟨rfl, by omega, by simp, by simp⟩
theorem Ss.one (w : World) (s : ByteArray) (h : s.size ≤ 9223372036854775807) (t : TypeId) : Ss (w.alloc (.cells #[.string s] t)) (some ⟨w.heap.size, 0, none⟩) 1 [s] :=
  ⟨rfl, by omega, by simpa using h, fun i x hi => by
    cases i with
    | zero => simp at hi; subst hi; exact ⟨_, _, rfl, by simp, by simp⟩
    | succ i => simp at hi⟩
theorem Ss.two (w : World) (s r : ByteArray) (h : s.size ≤ 9223372036854775807) (h2 : r.size ≤ 9223372036854775807) (t : TypeId) : Ss (w.alloc (.cells #[.string s, .string r] t)) (some ⟨w.heap.size, 0, none⟩) 2 [s, r] :=
  ⟨rfl, by omega, by simp [h, h2], fun i x hi => by
    match i, hi with
    | 0, hi => simp at hi; subst hi; exact ⟨_, _, rfl, by simp, by simp⟩
    | 1, hi => simp at hi; subst hi; exact ⟨_, _, rfl, by simp, by simp⟩
    | i + 2, hi => simp at hi⟩

end Cr
end Go.Proofs.YtjopjffecnflkaaDoor
