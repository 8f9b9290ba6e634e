/- What package span and the document's sets answer, call by call (carried over from the proofs about package span). -/
import Derived.Test.YtjbgojccfkmlnaaProg
import Derived.WalkKit
import Derived.WalkSpells
import Derived.WalkLawsBesides
import Derived.Deep.QuietTactic
import Derived.BigQuiet
import Derived.StillTail
import Derived.Shelf.SlSortCmp.WholeK
import Derived.Shelf.SlSortCmp.NoneTotal
import Derived.Shelf.SlicesG.Cmp
import Derived.Shelf.SlGeneric
import Derived.Ground.SlsfProg
import Derived.Ground.SlgcProg
import Derived.Lib.SliceRun
namespace Go.Proofs.Ytjbgojccfkmlnaa
namespace Sp

def mayB (x : Int × Int) : Bool := decide (0 ≤ x.1 ∧ 1 ≤ x.2 ∧ x.1 + x.2 ≤ 65536)
def errMay (x : Int × Int) : Int := if mayB x then 0 else 1
theorem errMay_ok {x : Int × Int} (h : mayB x = true) : errMay x = 0 := by simp [errMay, h]
theorem errMay_no {x : Int × Int} (h : mayB x = false) : errMay x = 1 := by simp [errMay, h]
theorem mayB_ok {x : Int × Int} (h : 0 ≤ x.1 ∧ 1 ≤ x.2 ∧ x.1 + x.2 ≤ 65536) : mayB x = true := by simp [mayB]; omega
theorem mayB_no {x : Int × Int} (h : ¬ (0 ≤ x.1 ∧ 1 ≤ x.2 ∧ x.1 + x.2 ≤ 65536)) : mayB x = false := by simp [mayB]; omega
theorem mayB_iff {x : Int × Int} : mayB x = true ↔ 0 ≤ x.1 ∧ 1 ≤ x.2 ∧ x.1 + x.2 ≤ 65536 := by simp [mayB]

/-- The k-th span (a default beyond the end). -/
def nth (xs : List (Int × Int)) (k : Nat) : Int × Int := xs.getD k (0, 0)
/-- The k-th span may be, and begins behind the end of the one ahead. -/
def okAt (xs : List (Int × Int)) (k : Nat) : Bool := mayB (nth xs k) && (decide (k = 0) || decide ((nth xs (k - 1)).1 + (nth xs (k - 1)).2 < (nth xs k).1))
/-- A list is a set. -/
def setB (xs : List (Int × Int)) : Bool := (List.range xs.length).all (okAt xs)
def allB (xs : List (Int × Int)) : Bool := xs.all mayB

theorem nth_eq {xs : List (Int × Int)} {k : Nat} (h : k < xs.length) : nth xs k = xs[k] := by simp [nth, h]
theorem nth_mem {xs : List (Int × Int)} {k : Nat} (h : k < xs.length) : nth xs k ∈ xs := by
  rw [nth_eq h]; exact List.getElem_mem h
theorem setB_true {xs : List (Int × Int)} (h : ∀ k, k < xs.length → okAt xs k = true) : setB xs = true := by
  unfold setB; rw [List.all_eq_true]; intro k hk; exact h k (by simpa using hk)
theorem setB_false {xs : List (Int × Int)} {k : Nat} (hk : k < xs.length) (h : okAt xs k = false) : setB xs = false := by
  unfold setB; rw [List.all_eq_false]; exact ⟨k, by simpa using hk, by simp [h]⟩
theorem setB_at {xs : List (Int × Int)} (h : setB xs = true) (k : Nat) (hk : k < xs.length) : okAt xs k = true := by
  unfold setB at h; rw [List.all_eq_true] at h; exact h k (by simpa using hk)
theorem okAt_no_may {xs : List (Int × Int)} {k : Nat} (h : mayB (nth xs k) = false) : okAt xs k = false := by simp [okAt, h]
theorem okAt_zero {xs : List (Int × Int)} (h : mayB (nth xs 0) = true) : okAt xs 0 = true := by simp [okAt, h]
theorem okAt_first {xs : List (Int × Int)} {k : Nat} (hk : k = 0) (h : mayB (nth xs k) = true) : okAt xs k = true := by subst hk; exact okAt_zero h
theorem ext_lt {p : Nat → Prop} {k : Nat} (h : ∀ j, j < k → p j) (hk : p k) : ∀ j, j < k + 1 → p j := fun j hj => by
  by_cases e : j = k
  · rw [e]; exact hk
  · exact h j (by omega)
theorem okAt_succ {xs : List (Int × Int)} {k : Nat} (h : mayB (nth xs (k + 1)) = true) (h' : (nth xs k).1 + (nth xs k).2 < (nth xs (k + 1)).1) : okAt xs (k + 1) = true := by simp [okAt, h, h']
theorem okAt_succ_no {xs : List (Int × Int)} {k : Nat} (h' : ¬ (nth xs k).1 + (nth xs k).2 < (nth xs (k + 1)).1) : okAt xs (k + 1) = false := by simp [okAt]; omega
theorem okAt_may {xs : List (Int × Int)} {k : Nat} (h : okAt xs k = true) : mayB (nth xs k) = true := by simp [okAt] at h; exact h.1
theorem okAt_lt {xs : List (Int × Int)} {k : Nat} (h : okAt xs (k + 1) = true) : (nth xs k).1 + (nth xs k).2 < (nth xs (k + 1)).1 := by simp [okAt] at h; exact h.2
theorem allB_of {xs : List (Int × Int)} (h : ∀ k, k < xs.length → mayB (nth xs k) = true) : allB xs = true := by
  unfold allB; rw [List.all_eq_true]; intro x hx
  obtain ⟨k, hk, rfl⟩ := List.getElem_of_mem hx
  have := h k hk; rwa [nth_eq hk] at this
theorem allB_no {xs : List (Int × Int)} {k : Nat} (hk : k < xs.length) (h : mayB (nth xs k) = false) : allB xs = false := by
  unfold allB; rw [List.all_eq_false]; exact ⟨_, nth_mem hk, by simp [h]⟩
theorem allB_at {xs : List (Int × Int)} (h : allB xs = true) {k : Nat} (hk : k < xs.length) : mayB (nth xs k) = true := by
  unfold allB at h; rw [List.all_eq_true] at h; exact h _ (nth_mem hk)
theorem allB_setB {xs : List (Int × Int)} (h : setB xs = true) : allB xs = true := allB_of fun k hk => okAt_may (setB_at h k hk)

/-- A sector is in one of the spans. -/
def wi (xs : List (Int × Int)) (i : Int) : Bool := xs.any fun x => decide (x.1 ≤ i) && decide (i < x.1 + x.2)
/-- How many sectors all spans have, those before place k. -/
def sumTo (xs : List (Int × Int)) : Nat → Int
  | 0 => 0
  | k + 1 => sumTo xs k + (nth xs k).2
def total (xs : List (Int × Int)) : Int := sumTo xs xs.length

theorem wi_true {xs : List (Int × Int)} {i : Int} {k : Nat} (hk : k < xs.length) (h : (nth xs k).1 ≤ i ∧ i < (nth xs k).1 + (nth xs k).2) : wi xs i = true := by
  unfold wi; rw [List.any_eq_true]; exact ⟨_, nth_mem hk, by simp [h]⟩
theorem wi_false {xs : List (Int × Int)} {i : Int} (h : ∀ k, k < xs.length → ¬ ((nth xs k).1 ≤ i ∧ i < (nth xs k).1 + (nth xs k).2)) : wi xs i = false := by
  unfold wi; rw [List.any_eq_false]; intro x hx
  obtain ⟨k, hk, rfl⟩ := List.getElem_of_mem hx
  have := h k hk; rw [nth_eq hk] at this
  simpa using this
theorem wi_get {xs : List (Int × Int)} {i : Int} (h : wi xs i = true) : ∃ k, k < xs.length ∧ (nth xs k).1 ≤ i ∧ i < (nth xs k).1 + (nth xs k).2 := by
  unfold wi at h; rw [List.any_eq_true] at h
  obtain ⟨x, hx, h⟩ := h
  obtain ⟨k, hk, rfl⟩ := List.getElem_of_mem hx
  refine ⟨k, hk, ?_⟩
  rw [nth_eq hk]; simpa using h

/-- In a set, what lies ahead ends ahead of what follows. -/
theorem set_lt {xs : List (Int × Int)} (h : setB xs = true) : ∀ (d k : Nat), k + d + 1 < xs.length → (nth xs k).1 + (nth xs k).2 < (nth xs (k + d + 1)).1
  | 0, k, hk => okAt_lt (setB_at h (k + 1) hk)
  | d + 1, k, hk => by
    have h1 := set_lt h d k (by omega)
    have h2 := okAt_lt (setB_at h (k + d + 1 + 1) (by omega))
    have h3 := mayB_iff.1 (okAt_may (setB_at h (k + d + 1) (by omega)))
    show _ < (nth xs (k + d + 1 + 1)).1
    omega
theorem set_lt' {xs : List (Int × Int)} (h : setB xs = true) {j k : Nat} (hjk : j < k) (hk : k < xs.length) : (nth xs j).1 + (nth xs j).2 < (nth xs k).1 := by
  have := set_lt h (k - j - 1) j (by omega)
  rwa [show j + (k - j - 1) + 1 = k by omega] at this
theorem sumTo_le {xs : List (Int × Int)} (h : setB xs = true) : ∀ k, k < xs.length → 0 ≤ sumTo xs k ∧ sumTo xs k ≤ (nth xs k).1
  | 0, hk => by have := mayB_iff.1 (okAt_may (setB_at h 0 hk)); simp [sumTo]; omega
  | k + 1, hk => by
    have h1 := sumTo_le h k (by omega)
    have h2 := okAt_lt (setB_at h (k + 1) hk)
    have h3 := mayB_iff.1 (okAt_may (setB_at h k (by omega)))
    simp only [sumTo]; omega
theorem sumTo_bd {xs : List (Int × Int)} (h : setB xs = true) (k : Nat) (hk : k ≤ xs.length) : 0 ≤ sumTo xs k ∧ sumTo xs k ≤ 65536 := by
  cases k with
  | zero => simp [sumTo]
  | succ k =>
    have h1 := sumTo_le h k (by omega)
    have h3 := mayB_iff.1 (okAt_may (setB_at h k (by omega)))
    simp only [sumTo]; omega

/-- How many spans end at a sector or ahead of it. -/
def placeN (xs : List (Int × Int)) (i : Int) : Nat := xs.countP fun x => decide (x.1 + x.2 ≤ i)
theorem placeN_eq {xs : List (Int × Int)} {i : Int} {k : Nat} (hk : k ≤ xs.length) (h1 : ∀ j, j < k → (nth xs j).1 + (nth xs j).2 ≤ i) (h2 : ∀ j, k ≤ j → j < xs.length → i < (nth xs j).1 + (nth xs j).2) : placeN xs i = k := by
  unfold placeN
  rw [← List.take_append_drop k xs, List.countP_append]
  have e1 : (xs.take k).countP (fun x => decide (x.1 + x.2 ≤ i)) = k := by
    rw [List.countP_eq_length.2 _, List.length_take, Nat.min_eq_left hk]
    intro x hx
    obtain ⟨j, hj, rfl⟩ := List.getElem_of_mem hx
    simp only [List.length_take] at hj
    have := h1 j (by omega)
    rw [nth_eq (by omega)] at this
    simpa using this
  have e2 : (xs.drop k).countP (fun x => decide (x.1 + x.2 ≤ i)) = 0 := by
    rw [List.countP_eq_zero]
    intro x hx
    obtain ⟨j, hj, rfl⟩ := List.getElem_of_mem hx
    simp only [List.length_drop] at hj
    have := h2 (k + j) (by omega) (by omega)
    rw [nth_eq (by omega)] at this
    simpa using this
  rw [e1, e2]; rfl
theorem placeN_le (xs : List (Int × Int)) (i : Int) : placeN xs i ≤ xs.length := List.countP_le_length
end Sp
end Go.Proofs.Ytjbgojccfkmlnaa

namespace Go.Proofs.Ytjbgojccfkmlnaa
open Go.RowKit
namespace Sp

theorem ret_int {k : IntKind} {a b : Int} (h : a = b) : Ending.returned (.int k a) = .returned (.int k b) := by rw [h]
theorem ret_bool {a b : Bool} (h : a = b) : Ending.returned (.bool a) = .returned (.bool b) := by rw [h]

set_option maxHeartbeats 400000 in
theorem may_any (a l : Int) (w : World) (ha : -9223372036854775808 ≤ a ∧ a ≤ 9223372036854775807) (hl : -9223372036854775808 ≤ l ∧ l ≤ 9223372036854775807) :
    Calls Try.prog 40 #[.agg #[.int .i64 a, .int .i64 l]] w fun e w' => e = .returned (.int .i64 (errMay (a, l))) ∧ w' = w.alloc (.cells #[.int .i64 a, .int .i64 l] 38) := by
  by_cases h1 : a < 0
  · go_enter Try.func40, Try.ntmps40
    go_wp2
    go_ret
    exact ⟨ret_int (errMay_no (mayB_no (by simp; omega))).symm, rfl⟩
  · by_cases h2 : l < 1
    · go_enter Try.func40, Try.ntmps40
      go_wp2
      go_ret
      exact ⟨ret_int (errMay_no (mayB_no (by simp; omega))).symm, rfl⟩
    · by_cases h3 : 65536 - l < a
      · go_enter Try.func40, Try.ntmps40
        go_wp2
        go_ret
        exact ⟨ret_int (errMay_no (mayB_no (by simp; omega))).symm, rfl⟩
      · go_enter Try.func40, Try.ntmps40
        go_wp2
        go_ret
        exact ⟨ret_int (errMay_ok (mayB_ok (by simp; omega))).symm, rfl⟩

set_option maxHeartbeats 400000 in
theorem rmay_any (a l : Int) (w : World) (ha : -9223372036854775808 ≤ a ∧ a ≤ 9223372036854775807) (hl : -9223372036854775808 ≤ l ∧ l ≤ 9223372036854775807) :
    Calls Try.prog 34 #[.agg #[.int .i64 a, .int .i64 l]] w fun e w' => e = .returned (.bool (mayB (a, l))) ∧ w' = w.alloc (.cells #[.int .i64 a, .int .i64 l] 38) := by
  by_cases h1 : 0 ≤ a
  · by_cases h2 : a ≤ 65536
    · by_cases h3 : 1 ≤ l
      · by_cases h4 : l ≤ 65536
        · by_cases h5 : a + l ≤ 65536
          · go_enter Try.func34, Try.ntmps34
            go_wp2
            go_ret
            exact ⟨ret_bool (by rw [mayB_ok (by simp; omega)]), rfl⟩
          · go_enter Try.func34, Try.ntmps34
            go_wp2
            go_ret
            exact ⟨ret_bool (by rw [mayB_no (by simp; omega)]), rfl⟩
        · go_enter Try.func34, Try.ntmps34
          go_wp2
          go_ret
          exact ⟨ret_bool (by rw [mayB_no (by simp; omega)]), rfl⟩
      · go_enter Try.func34, Try.ntmps34
        go_wp2
        go_ret
        exact ⟨ret_bool (by rw [mayB_no (by simp; omega)]), rfl⟩
    · go_enter Try.func34, Try.ntmps34
      go_wp2
      go_ret
      exact ⟨ret_bool (by rw [mayB_no (by simp; omega)]), rfl⟩
  · go_enter Try.func34, Try.ntmps34
    go_wp2
    go_ret
    exact ⟨ret_bool (by rw [mayB_no (by simp; omega)]), rfl⟩

set_option maxHeartbeats 400000 in
theorem end_any (a l : Int) (w : World) (h : -9223372036854775808 ≤ a + l ∧ a + l ≤ 9223372036854775807) :
    Calls Try.prog 43 #[.agg #[.int .i64 a, .int .i64 l]] w fun e w' => e = .returned (.int .i64 (a + l)) ∧ w' = w.alloc (.cells #[.int .i64 a, .int .i64 l] 38) := by
  go_enter Try.func43, Try.ntmps43
  go_wp2
  go_ret
  exact ⟨rfl, rfl⟩
end Sp
end Go.Proofs.Ytjbgojccfkmlnaa

namespace Go.Proofs.Ytjbgojccfkmlnaa
open Go.RowKit
namespace Sp

/-- A later world: all that lay in w lies unturned. -/
structure Later (w : World) where
  val : World
  below : Below w.heap.size w val

theorem later_ne (w : World) : Nonempty (Later w) := ⟨⟨w, Below.refl _ _⟩⟩

theorem wp_region_later {P : Program} {id : Nat} {Q : Exit → Act → World → Prop} {a : Act} {w : World} {l : List Oper} (hm : P.follows .mixedOrders = true) (hB : Region.lexB .any l.toArray = true)
    (h : wpQuiet P l.toArray (fun w' => ∃ p : Later w, w' = p.val) (fun a' => ∀ w', (∃ p : Later w, w' = p.val) → Q .normal a' w') l a) : (Code.region id l.toArray true).wp P Q a w :=
  wp_region_quiet (C := fun w' => ∃ p : Later w, w' = p.val) hm hB ⟨⟨w.drew, (Below.refl _ _).drew⟩, rfl⟩ (by simpa using h)

/-- A callee's contract, met in a later world. -/
theorem later_of {P : Program} {f : FuncId} {args : Array Value} {w : World} {p : Later w} {v : Value}
    (h : Calls P f args p.val fun e w' => e = .returned v ∧ Below p.val.heap.size p.val w') : Calls P f args p.val fun e w'' => e = .returned v ∧ ∃ p : Later w, w'' = p.val :=
  h.mono fun _ w' ⟨he, hb⟩ => ⟨he, ⟨w', p.below.trans (hb.mono p.below.size)⟩, rfl⟩

/-- Both numbers of a span are of the machine. -/
def Fit (x : Int × Int) : Prop := (-9223372036854775808 ≤ x.1 ∧ x.1 ≤ 9223372036854775807) ∧ (-9223372036854775808 ≤ x.2 ∧ x.2 ≤ 9223372036854775807)
theorem Fit.of_may {x : Int × Int} (h : mayB x = true) : Fit x := by rw [mayB_iff] at h; unfold Fit; omega

/-- A slice's memory holds these spans. -/
structure Sl (w : World) (a : Option Addr) (n : Nat) (xs : List (Int × Int)) : Prop where
  len : n = xs.length
  most : n ≤ 9223372036854775807
  fit : ∀ x ∈ xs, Fit x
  cells : ∀ i, i < xs.length → ∃ b off, a = some ⟨b, off, none⟩ ∧ b < w.heap.size ∧ w.cell? ⟨b, off + i * 2, none⟩ = some (.int .i64 (nth xs i).1) ∧ w.cell? ⟨b, off + i * 2 + 1, none⟩ = some (.int .i64 (nth xs i).2)

theorem Sl.later {w : World} {a : Option Addr} {n : Nat} {xs : List (Int × Int)} (h : Sl w a n xs) {wr : World} (hb : Below w.heap.size w wr) : Sl wr a n xs :=
  ⟨h.len, h.most, h.fit, fun i hi => by
    obtain ⟨b, off, ha, hbl, c0, c1⟩ := h.cells i hi
    exact ⟨b, off, ha, Nat.lt_of_lt_of_le hbl hb.size, (hb.cell hbl).trans c0, (hb.cell hbl).trans c1⟩⟩
theorem lcell {w : World} {a : Addr} {v : Value} (hb : a.block < w.heap.size) (h : w.cell? a = some v) (p : Later w) : p.val.cell? a = some v := (p.below.cell hb).trans h
theorem below_alloc (w : World) (o : Obj) : Below w.heap.size w (w.alloc o) := (Below.refl _ _).alloc (Nat.le_refl _) _

theorem rmay_b (x : Int × Int) (w : World) (h : Fit x) : Calls Try.prog 34 #[.agg #[.int .i64 x.1, .int .i64 x.2]] w fun e w' => e = .returned (.bool (mayB x)) ∧ Below w.heap.size w w' :=
  (rmay_any x.1 x.2 w h.1 h.2).mono fun _ _ ⟨he, hw⟩ => ⟨he, by rw [hw]; exact below_alloc _ _⟩
theorem may_b (x : Int × Int) (w : World) (h : Fit x) : Calls Try.prog 40 #[.agg #[.int .i64 x.1, .int .i64 x.2]] w fun e w' => e = .returned (.int .i64 (errMay x)) ∧ Below w.heap.size w w' :=
  (may_any x.1 x.2 w h.1 h.2).mono fun _ _ ⟨he, hw⟩ => ⟨he, by rw [hw]; exact below_alloc _ _⟩
theorem end_b (x : Int × Int) (w : World) (h : mayB x = true) : Calls Try.prog 43 #[.agg #[.int .i64 x.1, .int .i64 x.2]] w fun e w' => e = .returned (.int .i64 (x.1 + x.2)) ∧ Below w.heap.size w w' :=
  (end_any x.1 x.2 w (by rw [mayB_iff] at h; omega)).mono fun _ _ ⟨he, hw⟩ => ⟨he, by rw [hw]; exact below_alloc _ _⟩

end Sp
end Go.Proofs.Ytjbgojccfkmlnaa

namespace Go.Proofs.Ytjbgojccfkmlnaa
open Go.RowKit
namespace Sp

def errSet (xs : List (Int × Int)) : Int := if setB xs then 0 else 1
theorem errSet_ok {xs : List (Int × Int)} (h : setB xs = true) : errSet xs = 0 := by simp [errSet, h]
theorem errSet_no {xs : List (Int × Int)} (h : setB xs = false) : errSet xs = 1 := by simp [errSet, h]

theorem may_ok (x : Int × Int) (w : World) (h : mayB x = true) : Calls Try.prog 40 #[.agg #[.int .i64 x.1, .int .i64 x.2]] w fun e w' => e = .returned (.int .i64 0) ∧ Below w.heap.size w w' :=
  (may_b x w (Fit.of_may h)).mono fun _ _ ⟨he, hb⟩ => ⟨by rw [he, errMay_ok h], hb⟩
theorem may_no (x : Int × Int) (w : World) (hf : Fit x) (h : mayB x = false) : Calls Try.prog 40 #[.agg #[.int .i64 x.1, .int .i64 x.2]] w fun e w' => e = .returned (.int .i64 1) ∧ Below w.heap.size w w' :=
  (may_b x w hf).mono fun _ _ ⟨he, hb⟩ => ⟨by rw [he, errMay_no h], hb⟩
/-- The cells of a box that was laid last. -/
theorem box0 {w w1 : World} {u v : Value} {t : TypeId} (hb : Below (w.alloc (.cells #[u, v] t)).heap.size (w.alloc (.cells #[u, v] t)) w1) : w1.cell? ⟨w.heap.size, 0, none⟩ = some u := (hb.cell (by simp)).trans (by simp)
theorem box1 {w w1 : World} {u v : Value} {t : TypeId} (hb : Below (w.alloc (.cells #[u, v] t)).heap.size (w.alloc (.cells #[u, v] t)) w1) : w1.cell? ⟨w.heap.size, 1, none⟩ = some v := (hb.cell (by simp)).trans (by simp)
theorem box_below {w w1 : World} {o : Obj} (hb : Below (w.alloc o).heap.size (w.alloc o) w1) : Below w.heap.size w w1 := (below_alloc w o).trans (hb.mono (by simp))

set_option maxHeartbeats 1000000 in
theorem check_any (a : Option Addr) (n cap : Nat) (xs : List (Int × Int)) (w : World) (h : Sl w a n xs) :
    Calls Try.prog 55 #[.slice a n cap] w fun e w' => e = .returned (.int .i64 (errSet xs)) ∧ Below w.heap.size w w' := by
  have hn := h.most
  go_enter Try.func55, Try.ntmps55
  go_wp2
  go_loopw [3, 8] (fun en i wr => ∃ (k : Nat) (E : Int), k ≤ n ∧ i = .int .i64 k ∧ en = .int .i64 E ∧ (k = 0 → E = -1) ∧ (∀ j, k = j + 1 → E = (nth xs j).1 + (nth xs j).2) ∧ (∀ j, j < k → okAt xs j = true) ∧ Below w.heap.size w wr) (fun _ i _ => n - (intOf i).toNat)
  case atStart => exact ⟨0, -1, Nat.zero_le _, rfl, rfl, fun _ => rfl, by intro j hj; omega, by intro j hj; omega, Below.refl _ _⟩
  case round =>
    obtain ⟨k, E, hk, rfl, rfl, hE0, hE1, hok, hb⟩ := hrel
    have hlen := h.len
    by_cases hlt : k < n
    · obtain ⟨b, off, rfl, hbl, c0, c1⟩ := (h.later hb).cells k (by omega)
      have hfit := h.fit _ (nth_mem (k := k) (by omega))
      cases hm : mayB (nth xs k) with
      | false =>
        have Hf : Hid (errSet xs = 1) := errSet_no (setB_false (k := k) (by omega) (okAt_no_may hm))
        have hr := fun W => may_no (nth xs k) W hfit hm
        clear hok hfit hm hlen h hE0 hE1
        generalize nth xs k = x at *
        go_wp2_with fail
        refine (hr _).mono ?_
        rintro e w1 ⟨rfl, hb1⟩
        go_wp2
        go_ret
        exact ⟨ret_int Hf.out.symm, hb.trans ((box_below hb1).mono hb.size)⟩
      | true =>
        have hr := fun W => may_ok (nth xs k) W hm
        have hend := fun W => end_b (nth xs k) W hm
        have hmm := mayB_iff.1 hm
        by_cases hcmp : (nth xs k).1 ≤ E
        · have hk1 : 0 < k := by
            rcases Nat.eq_zero_or_pos k with h0 | h0
            · have := hE0 h0; omega
            · exact h0
          obtain ⟨j, rfl⟩ : ∃ j, k = j + 1 := ⟨k - 1, by omega⟩
          have Hf : Hid (errSet xs = 1) := errSet_no (setB_false (k := j + 1) (by omega) (okAt_succ_no (by have := hE1 j rfl; omega)))
          clear hok hfit hm hlen h hE0 hE1
          generalize nth xs (j + 1) = x at *
          go_wp2_with fail
          refine (hr _).mono ?_
          rintro e w1 ⟨rfl, hb1⟩
          have d0 := box0 hb1
          go_wp2
          go_ret
          exact ⟨ret_int Hf.out.symm, hb.trans ((box_below hb1).mono hb.size)⟩
        · have Hok : ∀ j, j < k + 1 → okAt xs j = true := ext_lt hok (by
            rcases Nat.eq_zero_or_pos k with h0 | h0
            · exact okAt_first h0 hm
            · obtain ⟨j, rfl⟩ : ∃ j, k = j + 1 := ⟨k - 1, by omega⟩
              exact okAt_succ hm (by have := hE1 j rfl; omega))
          have hx : ∃ x, nth xs k = x := ⟨_, rfl⟩
          obtain ⟨x, hx⟩ := hx
          have Hx := hx
          have HX : Hid (nth xs k = x) := hx
          clear hok hfit hm hlen h hE0 hE1
          rw [hx] at hr hend hmm hcmp c0 c1
          clear hx Hx
          go_wp2_with fail
          refine (hr _).mono ?_
          rintro e w1 ⟨rfl, hb1⟩
          have d0 := box0 hb1
          have d1 := box1 hb1
          go_wp2_with fail
          refine (hend _).mono ?_
          rintro e w2 ⟨rfl, hb2⟩
          go_wp2
          go_roundw
          case rel => exact ⟨k + 1, x.1 + x.2, by omega, by go_num, rfl, fun h => by omega, fun j hj => by rw [← show k = j from Nat.succ.inj hj, HX.out], Hok, hb.trans (((box_below hb1).mono hb.size).trans (hb2.mono (Nat.le_trans hb.size (box_below hb1).size)))⟩
          case measure => simp [intOf]; omega
    · have Ht : Hid (errSet xs = 0) := errSet_ok (setB_true fun j hj => hok j (by omega))
      clear hok hlen h hE0 hE1
      go_wp2
      go_ret
      exact ⟨ret_int Ht.out.symm, hb⟩

end Sp
end Go.Proofs.Ytjbgojccfkmlnaa

namespace Go.Proofs.Ytjbgojccfkmlnaa
namespace Sp
/-- In a set the spans that end at a sector or ahead of it stand first. -/
theorem placeN_split {xs : List (Int × Int)} (h : setB xs = true) (i : Int) : ∃ k, k ≤ xs.length ∧ (∀ j, j < k → (nth xs j).1 + (nth xs j).2 ≤ i) ∧ (∀ j, k ≤ j → j < xs.length → i < (nth xs j).1 + (nth xs j).2) := by
  have main : ∀ m, m ≤ xs.length → ∃ k, k ≤ m ∧ (∀ j, j < k → (nth xs j).1 + (nth xs j).2 ≤ i) ∧ (∀ j, k ≤ j → j < m → i < (nth xs j).1 + (nth xs j).2) := by
    intro m
    induction m with
    | zero => intro _; exact ⟨0, Nat.le_refl _, by omega, by omega⟩
    | succ m ih =>
      intro hm
      obtain ⟨k, hk, h1, h2⟩ := ih (by omega)
      by_cases hc : (nth xs m).1 + (nth xs m).2 ≤ i
      · refine ⟨m + 1, Nat.le_refl _, fun j hj => ?_, by omega⟩
        rcases Nat.lt_or_ge j m with hjm | hjm
        · have := set_lt' h hjm (by omega); have := mayB_iff.1 (okAt_may (setB_at h m (by omega))); omega
        · rw [show j = m by omega]; exact hc
      · refine ⟨k, by omega, h1, fun j hj hj' => ?_⟩
        rcases Nat.lt_or_ge j m with hjm | hjm
        · exact h2 j hj hjm
        · rw [show j = m by omega]; omega
  exact main _ (Nat.le_refl _)
theorem placeN_lt {xs : List (Int × Int)} (h : setB xs = true) {k : Nat} {i : Int} (hk : k < placeN xs i) : (nth xs k).1 + (nth xs k).2 ≤ i := by
  obtain ⟨m, hm, h1, h2⟩ := placeN_split h i
  rw [placeN_eq hm h1 h2] at hk
  exact h1 k hk
theorem placeN_ge {xs : List (Int × Int)} (h : setB xs = true) {i : Int} (hk : placeN xs i < xs.length) : i < (nth xs (placeN xs i)).1 + (nth xs (placeN xs i)).2 := by
  obtain ⟨m, hm, h1, h2⟩ := placeN_split h i
  rw [placeN_eq hm h1 h2] at hk ⊢
  exact h2 m (Nat.le_refl _) hk
theorem placeN_ge' {xs : List (Int × Int)} (h : setB xs = true) {i : Int} {k : Nat} (hp : placeN xs i ≤ k) (hk : k < xs.length) : i < (nth xs k).1 + (nth xs k).2 := by
  obtain ⟨m, hm, h1, h2⟩ := placeN_split h i
  rw [placeN_eq hm h1 h2] at hp
  exact h2 k hp hk
end Sp
end Go.Proofs.Ytjbgojccfkmlnaa

namespace Go.Proofs.Ytjbgojccfkmlnaa
open Go.RowKit
namespace Sp

theorem check_ok (a : Option Addr) (n cap : Nat) (xs : List (Int × Int)) (w : World) (h : Sl w a n xs) (hs : setB xs = true) :
    Calls Try.prog 55 #[.slice a n cap] w fun e w' => e = .returned (.int .i64 0) ∧ Below w.heap.size w w' :=
  (check_any a n cap xs w h).mono fun _ _ ⟨he, hb⟩ => ⟨by rw [he, errSet_ok hs], hb⟩
theorem check_no (a : Option Addr) (n cap : Nat) (xs : List (Int × Int)) (w : World) (h : Sl w a n xs) (hs : setB xs = false) :
    Calls Try.prog 55 #[.slice a n cap] w fun e w' => e = .returned (.int .i64 1) ∧ Below w.heap.size w w' :=
  (check_any a n cap xs w h).mono fun _ _ ⟨he, hb⟩ => ⟨by rw [he, errSet_no hs], hb⟩

def totalB (xs : List (Int × Int)) : Int := if setB xs then total xs else 0
theorem totalB_ok {xs : List (Int × Int)} (h : setB xs = true) : totalB xs = total xs := by simp [totalB, h]
theorem totalB_no {xs : List (Int × Int)} (h : setB xs = false) : totalB xs = 0 := by simp [totalB, h]

set_option maxHeartbeats 1000000 in
theorem place_any (a : Option Addr) (n cap : Nat) (xs : List (Int × Int)) (i : Int) (w : World) (h : Sl w a n xs) (hs : setB xs = true) :
    Calls Try.prog 73 #[.slice a n cap, .int .i64 i] w fun e w' => e = .returned (.int .i64 (placeN xs i)) ∧ Below w.heap.size w w' := by
  have hn := h.most
  go_enter Try.func73, Try.ntmps73
  go_wp2
  go_step3
  go_wp2
  go_step3
  go_wp2
  go_loopw [5, 6] (fun l g wr => ∃ lo hi : Nat, lo ≤ hi ∧ hi ≤ n ∧ l = .int .i64 lo ∧ g = .int .i64 hi ∧ (∀ j, j < lo → (nth xs j).1 + (nth xs j).2 ≤ i) ∧ (∀ j, hi ≤ j → j < xs.length → i < (nth xs j).1 + (nth xs j).2) ∧ Below w.heap.size w wr) (fun l g _ => (intOf g - intOf l).toNat)
  case atStart => exact ⟨0, n, Nat.zero_le _, Nat.le_refl _, rfl, rfl, by intro j hj; omega, by intro j h1 h2; have := h.len; omega, Below.refl _ _⟩
  case round =>
    obtain ⟨lo, hi, h1, h2, rfl, rfl, h3, h4, hb⟩ := hrel
    have hlen := h.len
    by_cases he : lo = hi
    · have Hp : Hid ((placeN xs i : Int) = lo) := by show (placeN xs i : Int) = lo; rw [placeN_eq (k := lo) (by omega) h3 (fun j hj => h4 j (by omega))]
      subst he
      clear hs h3 h4 hlen h
      go_wp2
      rw [Exit.noGoto_ret]
      go_ret
      exact ⟨ret_int Hp.out.symm, hb⟩
    · have hbe : ((lo : Int) == (hi : Int)) = false := by simp; omega
      obtain ⟨m, hm1, hm2, hm⟩ : ∃ m : Nat, lo ≤ m ∧ m < hi ∧ (lo : Int) + ((hi : Int) - (lo : Int)) / 2 = (m : Int) := ⟨lo + (hi - lo) / 2, by omega, by omega, by omega⟩
      obtain ⟨b, off, rfl, hbl, c0, c1⟩ := (h.later hb).cells m (by omega)
      have hend := fun W => end_b (nth xs m) W (okAt_may (setB_at hs m (by omega)))
      by_cases hc : (nth xs m).1 + (nth xs m).2 ≤ i
      · have H3 : ∀ j, j < m + 1 → (nth xs j).1 + (nth xs j).2 ≤ i := by
          intro j hj
          rcases Nat.lt_or_ge j m with hjm | hjm
          · have := set_lt' hs hjm (by omega); have := mayB_iff.1 (okAt_may (setB_at hs m (by omega))); omega
          · obtain rfl : j = m := by omega
            exact hc
        clear h3 hs hlen h
        generalize nth xs m = x at *
        go_wp2_with fail
        refine (hend _).mono ?_
        rintro e w1 ⟨rfl, hb1⟩
        go_wp2
        go_roundw
        case rel => exact ⟨m + 1, hi, by omega, by omega, by go_num, rfl, H3, h4, hb.trans (hb1.mono hb.size)⟩
        case measure => simp [intOf]; omega
      · have H4 : ∀ j, m ≤ j → j < xs.length → i < (nth xs j).1 + (nth xs j).2 := by
          intro j hj hj'
          rcases Nat.lt_or_ge m j with hjm | hjm
          · have := set_lt' hs hjm (by omega); have := mayB_iff.1 (okAt_may (setB_at hs j (by omega))); omega
          · obtain rfl : j = m := by omega
            omega
        clear h4 hs hlen h
        generalize nth xs m = x at *
        go_wp2_with fail
        refine (hend _).mono ?_
        rintro e w1 ⟨rfl, hb1⟩
        go_wp2
        go_roundw
        case rel => exact ⟨lo, m, by omega, by omega, rfl, rfl, h3, H4, hb.trans (hb1.mono hb.size)⟩
        case measure => simp [intOf]; omega

def hasB (xs : List (Int × Int)) (i : Int) : Bool := setB xs && wi xs i
theorem hasB_no {xs : List (Int × Int)} {i : Int} (h : setB xs = false) : hasB xs i = false := by simp [hasB, h]
theorem hasB_out {xs : List (Int × Int)} {i : Int} (h : setB xs = true) (hp : placeN xs i = xs.length) : hasB xs i = false := by
  simp only [hasB, h, Bool.true_and]
  exact wi_false fun k hk hh => by have := placeN_lt h (k := k) (i := i) (by omega); omega
theorem hasB_at {xs : List (Int × Int)} {i : Int} (h : setB xs = true) (hp : placeN xs i < xs.length) : hasB xs i = decide ((nth xs (placeN xs i)).1 ≤ i) := by
  simp only [hasB, h, Bool.true_and]
  have hge := placeN_ge h hp
  by_cases hc : (nth xs (placeN xs i)).1 ≤ i
  · rw [wi_true hp ⟨hc, hge⟩]; simp [hc]
  · rw [wi_false fun k hk hh => ?_]
    · simp [hc]
    · rcases Nat.lt_or_ge k (placeN xs i) with h1 | h1
      · have := placeN_lt h h1; omega
      · rcases Nat.lt_or_ge (placeN xs i) k with h2 | h2
        · have := set_lt' h h2 hk; have := mayB_iff.1 (okAt_may (setB_at h (placeN xs i) hp)); omega
        · rw [show k = placeN xs i by omega] at hh; omega

end Sp
end Go.Proofs.Ytjbgojccfkmlnaa

namespace Go.Proofs.Ytjbgojccfkmlnaa
open Go.RowKit
namespace Sp

/-- None that may be ends beyond the sector 400, and there are no more than forty. -/
def fewB (xs : List (Int × Int)) : Bool := (xs.all fun x => !(mayB x && decide (400 < x.1 + x.2))) && decide (xs.length ≤ 40)
theorem fewB_no {xs : List (Int × Int)} {k : Nat} (hk : k < xs.length) (hm : mayB (nth xs k) = true) (h : 400 < (nth xs k).1 + (nth xs k).2) : fewB xs = false := by
  have : (xs.all fun x => !(mayB x && decide (400 < x.1 + x.2))) = false := by
    rw [List.all_eq_false]; exact ⟨_, nth_mem hk, by simp [hm, h]⟩
  unfold fewB; rw [this]; rfl
theorem fewB_ok {xs : List (Int × Int)} (h : ∀ k, k < xs.length → ¬ (mayB (nth xs k) = true ∧ 400 < (nth xs k).1 + (nth xs k).2)) : fewB xs = decide (xs.length ≤ 40) := by
  have : (xs.all fun x => !(mayB x && decide (400 < x.1 + x.2))) = true := by
    rw [List.all_eq_true]; intro x hx
    obtain ⟨k, hk, rfl⟩ := List.getElem_of_mem hx
    have := h k hk
    rw [nth_eq hk] at this
    simp only [Bool.not_eq_true', Bool.and_eq_false_iff, decide_eq_false_iff_not]
    by_cases hm : mayB xs[k] = true
    · right; exact fun h' => this ⟨hm, h'⟩
    · left; simpa using hm
  unfold fewB; rw [this]; rfl

end Sp
end Go.Proofs.Ytjbgojccfkmlnaa

namespace Go.Proofs.Ytjbgojccfkmlnaa
open Go.RowKit
namespace Sp

/-- The slice's own block is not among the first B. -/
def From (B : Nat) (v : Value) : Prop := ∀ k, v.ownBlock = some k → B ≤ k
/-- v' lies where v lay, or in memory that is new. -/
def Moved (w : World) (v v' : Value) : Prop := v'.ownBlock = v.ownBlock ∨ From w.heap.size v'
theorem From.moved {B : Nat} {w : World} {v v' : Value} (h : From B v) (hm : Moved w v v') (hB : B ≤ w.heap.size) : From B v' := fun k hk => by
  rcases hm with hm | hm
  · exact h k (hm ▸ hk)
  · exact Nat.le_trans hB (hm k hk)
theorem apart_moved {w : World} {v v' : Value} {g : Nat} (h : v.ownBlock ≠ some g) (hm : Moved w v v') (hg : g < w.heap.size) : v'.ownBlock ≠ some g := by
  rcases hm with hm | hm
  · rw [hm]; exact h
  · intro e; have := hm g e; omega
theorem Moved.refl (w : World) (v : Value) : Moved w v v := .inl rfl
theorem Moved.trans {w w1 : World} {v v1 v2 : Value} (h : Moved w v v1) (h1 : Moved w1 v1 v2) (hs : w.heap.size ≤ w1.heap.size) : Moved w v v2 := by
  rcases h1 with h1 | h1
  · rcases h with h | h
    · exact .inl (h1.trans h)
    · exact .inr fun k hk => h k (h1 ▸ hk)
  · exact .inr fun k hk => Nat.le_trans hs (h1 k hk)
theorem From.nil (B : Nat) (n c : Nat) : From B (.slice none n c) := fun k hk => by simp [Value.ownBlock] at hk
/-- A growth of one row of the call's own keeps all that lay below. -/
theorem below_grown {B : Nat} {a w w' : World} {v : Value} (h : Below B a w) (hg : w.grownBy w' v.ownBlock) (hB : B ≤ w.heap.size) (hv : From B v) : Below B a w' := h.grown hg hB hv

theorem run_append_moved {P : Program} {w : World} (t ty e : TypeId) (i : TypeInfo) (z : Value) (size bytes : Nat) (ht : P.underlying t = some (.slice e)) (hi : P.info? e = some i) (hz : i.zero = some z)
    (hsize : i.size = size) (hby : i.bytes = bytes) (hzs : z.cells.size = size) (hsz : 0 < size)
    (v : Value) (n : Nat) (xs : List Value) (hown : w.ownsRow 0 e size v n xs)
    (a : Addr) (m c : Nat) (news : List Value) (hl : news.length = m * size) (hnews : ∀ j u, news[j]? = some u → w.cell? (a.add j) = some u) (h1 : ∀ u ∈ news, u.oneCell' = true)
    (h63 : n + m ≤ maxLen) (hbytes : (n + m) * bytes ≤ 140737488355328) :
    ∃ v' w', (Builtin.append_ #[t, t] ty #[v, .slice (some a) m c]).run P w = .ok v' w' ∧ w'.ownsRow 0 e size v' (n + m) (xs ++ news) ∧ w.grownBy w' v.ownBlock ∧ Moved w v v' := by
  obtain ⟨v', w', hr, ho, hg, hn⟩ := run_append_own (P := P) w 0 t ty e i z size bytes ht hi hz hsize hby hzs hsz v n xs hown a m c news hl hnews h1 h63 hbytes (Nat.zero_le _)
  refine ⟨v', w', hr, ho, hg, ?_⟩
  subst hsize
  rcases hown.2 with ⟨hv, hn0⟩ | ⟨g, cap, cur, hv, hbg, hgg, hnc, hcm, hcs, htake⟩
  · obtain ⟨v2, w2, hr2, ho2, _⟩ := run_append_own (P := P) w w.heap.size t ty e i z i.size bytes ht hi hz rfl hby hzs hsz v n xs ⟨hown.1, .inl ⟨hv, hn0⟩⟩ a m c news hl hnews h1 h63 hbytes (Nat.le_refl _)
    rw [hr] at hr2
    cases hr2
    exact .inr fun k hk => (ho2.lt k hk).1
  · by_cases hroom : n + m ≤ cap
    · have hfit : n * i.size + news.length ≤ cur.size := by rw [hl, hcs, ← Nat.add_mul]; exact Nat.mul_le_mul_right _ hroom
      have hr2 := run_append_room (P := P) w t ty e i ht hi g n cap cur hgg a m c news hl hnews h1 hroom hfit
      rw [hv] at hr ⊢
      rw [hr2] at hr
      cases hr
      exact .inl rfl
    · subst hv
      have holds : ∀ j u, xs[j]? = some u → w.cell? ((⟨g, 0, none⟩ : Addr).add j) = some u := hown.cells (g := g) rfl
      subst hby
      have hr2 := run_append_grow (P := P) w t ty e i z ht hi hz ⟨g, 0, none⟩ n cap xs hown.1 holds a m c news hl hnews (by omega) (by simp only [maxLen] at h63; omega) (growslice_fits (by omega) hbytes)
      rw [hr2] at hr
      cases hr
      exact .inr fun k hk => by simp [Value.ownBlock] at hk; omega

theorem wpList_append_moved {P : Program} {w : World} {ops : Array Oper} {rest : List Oper} {o : Oper} {a : Act} {Q : Exit → Act → World → Prop} (hgd : o.guard = none) (s x : Operand) (t : TypeId)
    (ho : o.op = .call { callee := .builtin .append, args := #[s, x], argTypes := #[t, t] })
    (e : TypeId) (i : TypeInfo) (z : Value) (size bytes : Nat) (ht : P.underlying t = some (.slice e)) (hi : P.info? e = some i) (hz : i.zero = some z)
    (hsize : i.size = size) (hby : i.bytes = bytes) (hzs : z.cells.size = size) (hsz : 0 < size)
    (v : Value) (n : Nat) (xs : List Value) (hs : a.eval s = v) (hown : w.ownsRow 0 e size v n xs)
    (ad : Addr) (m c : Nat) (news : List Value) (hx : a.eval x = .slice (some ad) m c) (hl : news.length = m * size) (hnews : ∀ j u, news[j]? = some u → w.cell? (ad.add j) = some u) (h1 : ∀ u ∈ news, u.oneCell' = true)
    (h63 : n + m ≤ maxLen) (hbytes : (n + m) * bytes ≤ 140737488355328)
    (h : ∀ v' w', w'.ownsRow 0 e size v' (n + m) (xs ++ news) → w.grownBy w' v.ownBlock → Moved w v v' → wpList P ops Q rest (a.put o.dst v') w') : wpList P ops Q (o :: rest) a w := by
  refine wpList_plain hgd fun _ hK => ?_
  obtain ⟨v', w', hr, h2, h3, h4⟩ := run_append_moved (P := P) (w := w) t o.type e i z size bytes ht hi hz hsize hby hzs hsz v n xs hown ad m c news hl hnews h1 h63 hbytes
  unfold Oper.wp execOp
  simp only [ho, resolve, invoke, builtin, Sem.run_bind, Sem.run_pure, Result.andThen_ok, List.map_toArray, List.map_cons, List.map_nil, hs, hx, hr]
  exact hK _ _ (h v' w' h2 h3 h4)

/-- The cells of spans, one behind the other. -/
def enc2 : List (Int × Int) → List Value
  | [] => []
  | x :: r => .int .i64 x.1 :: .int .i64 x.2 :: enc2 r
theorem enc2_length : ∀ xs, (enc2 xs).length = xs.length * 2
  | [] => rfl
  | _ :: r => by simp [enc2, enc2_length r]; omega
theorem enc2_append : ∀ xs ys, enc2 (xs ++ ys) = enc2 xs ++ enc2 ys
  | [], _ => rfl
  | _ :: r, ys => by simp [enc2, enc2_append r ys]
theorem enc2_get0 : ∀ (xs : List (Int × Int)) (i : Nat), i < xs.length → (enc2 xs)[i * 2]? = some (.int .i64 (nth xs i).1)
  | [], i, h => by simp at h
  | x :: r, 0, _ => rfl
  | x :: r, i + 1, h => by
    have := enc2_get0 r i (by simpa using h)
    rw [show (i + 1) * 2 = i * 2 + 2 by omega]
    simpa [enc2, nth] using this
theorem enc2_get1 : ∀ (xs : List (Int × Int)) (i : Nat), i < xs.length → (enc2 xs)[i * 2 + 1]? = some (.int .i64 (nth xs i).2)
  | [], i, h => by simp at h
  | x :: r, 0, _ => rfl
  | x :: r, i + 1, h => by
    have := enc2_get1 r i (by simpa using h)
    rw [show (i + 1) * 2 + 1 = i * 2 + 1 + 2 by omega]
    simpa [enc2, nth] using this
theorem enc2_oneCell : ∀ xs, ∀ u ∈ enc2 xs, u.oneCell' = true
  | [], u, h => by simp [enc2] at h
  | x :: r, u, h => by
    simp only [enc2, List.mem_cons] at h
    rcases h with rfl | rfl | h
    · rfl
    · rfl
    · exact enc2_oneCell r u h

/-- The value v owns the spans xs. -/
def Own (w : World) (v : Value) (xs : List (Int × Int)) : Prop := w.ownsRow 0 38 2 v xs.length (enc2 xs)
theorem Own.nil (w : World) : Own w (.slice none 0 0) [] := World.ownsRow_nil w 0 38 2
theorem Own.kept {w w' : World} {v : Value} {xs : List (Int × Int)} {row : Option Nat} (h : Own w v xs) (hg : w.grownBy w' row) (hne : v.ownBlock = none ∨ v.ownBlock ≠ row) : Own w' v xs := World.ownsRow.kept h hg hne
/-- .. it is kept where all lies as it lay. -/
theorem Own.later {w w' : World} {v : Value} {xs : List (Int × Int)} (h : Own w v xs) (hb : Below w.heap.size w w') : Own w' v xs :=
  h.kept (row := none) ⟨hb.os, hb.tape, hb.output, hb.size, fun k hk _ => hb.block k hk⟩ (by rcases hv : v.ownBlock with _ | k <;> simp)
theorem Own.lt {w : World} {v : Value} {xs : List (Int × Int)} (h : Own w v xs) (g : Nat) (hg : w.heap.size ≤ g) : v.ownBlock ≠ some g := fun e => by
  have := (World.ownsRow.lt h g e).2; omega
/-- .. and what is owned can be read. -/
theorem Own.sl {w : World} {v : Value} {xs : List (Int × Int)} (h : Own w v xs) (hf : ∀ x ∈ xs, Fit x) : ∃ a cap, v = .slice a xs.length cap ∧ Sl w a xs.length xs := by
  obtain ⟨hl, h2⟩ := id h
  rcases h2 with ⟨hv, hn⟩ | ⟨g, cap, cur, hv, hbg, hgg, hnc, hcm, hcs, htake⟩
  · have : xs = [] := List.eq_nil_of_length_eq_zero hn
    subst this
    exact ⟨none, 0, hv, rfl, by simp, hf, fun i hi => by simp at hi⟩
  · refine ⟨some ⟨g, 0, none⟩, cap, hv, rfl, Nat.le_trans hnc (by simpa [maxLen] using hcm), hf, fun i hi => ⟨g, 0, rfl, (Array.getElem?_eq_some_iff.1 hgg).1, ?_, ?_⟩⟩
    · have := World.ownsRow.cellAt (w := w) (base := 0) (e := 38) (size := 2) (g := g) (n := xs.length) (cap := cap) (xs := enc2 xs) (hv ▸ h) (i * 2) (by omega)
      rw [Nat.zero_add, this, enc2_get0 xs i hi]
    · have := World.ownsRow.cellAt (w := w) (base := 0) (e := 38) (size := 2) (g := g) (n := xs.length) (cap := cap) (xs := enc2 xs) (hv ▸ h) (i * 2 + 1) (by omega)
      rw [Nat.zero_add, this, enc2_get1 xs i hi]
/-- What one call's own memory grew by leaves the rest as it lay. -/
theorem grown_none {w w' : World} {v : Value} (hg : w.grownBy w' v.ownBlock) (hv : v.ownBlock = none) : Below w.heap.size w w' :=
  ⟨hg.os, hg.tape, hg.output, hg.size, fun k hk => hg.block k hk (by rw [hv]; simp)⟩
theorem gcell {w w' : World} {v : Value} (hg : w.grownBy w' v.ownBlock) {a : Addr} {u : Value} (h : w.cell? a = some u) (hne : v.ownBlock ≠ some a.block) : w'.cell? a = some u := hg.cell h (fun e => hne e.symm)
theorem below_grownBy {w w' : World} (hb : Below w.heap.size w w') (row : Option Nat) : w.grownBy w' row := ⟨hb.os, hb.tape, hb.output, hb.size, fun k hk _ => hb.block k hk⟩
theorem grownBy_trans {a b c : World} {v v' : Value} (h : a.grownBy b v.ownBlock) (h' : b.grownBy c v'.ownBlock) (hm : Moved a v v') : a.grownBy c v.ownBlock :=
  ⟨h'.os.trans h.os, h'.tape.trans h.tape, h'.output.trans h.output, Nat.le_trans h.size h'.size, fun k hk hne => by
    rw [h'.block k (Nat.lt_of_lt_of_le hk h.size) (fun e => ?_), h.block k hk hne]
    rcases hm with hm | hm
    · exact hne (e.trans hm)
    · have := hm k e.symm; omega⟩

end Sp
end Go.Proofs.Ytjbgojccfkmlnaa

namespace Go.Proofs.Ytjbgojccfkmlnaa
namespace Sp
/-- Sector i is one of the span's. -/
def Has1 (x : Int × Int) (i : Int) : Prop := x.1 ≤ i ∧ i < x.1 + x.2
theorem wi_iff {xs : List (Int × Int)} {i : Int} : wi xs i = true ↔ ∃ k, k < xs.length ∧ Has1 (nth xs k) i :=
  ⟨fun h => wi_get h, fun ⟨_, hk, h⟩ => wi_true hk h⟩
def EndLe (xs : List (Int × Int)) (E : Int) : Prop := ∀ k, k < xs.length → (nth xs k).1 + (nth xs k).2 ≤ E
theorem EndLe.mono {xs : List (Int × Int)} {E F : Int} (h : EndLe xs E) (hEF : E ≤ F) : EndLe xs F := fun k hk => by have := h k hk; omega
theorem EndLe.nil (E : Int) : EndLe [] E := fun k hk => by simp at hk
theorem nth_left {xs ys : List (Int × Int)} {k : Nat} (h : k < xs.length) : nth (xs ++ ys) k = nth xs k := by simp [nth, List.getElem?_append, h]
theorem nth_right {xs ys : List (Int × Int)} {k : Nat} (h : xs.length ≤ k) : nth (xs ++ ys) k = nth ys (k - xs.length) := by simp [nth, List.getElem?_append]; rw [if_neg (by omega)]
theorem nth_last {xs : List (Int × Int)} {x : Int × Int} : nth (xs ++ [x]) xs.length = x := by simp [nth]
theorem okAt_left {xs ys : List (Int × Int)} {k : Nat} (h : k < xs.length) : okAt (xs ++ ys) k = okAt xs k := by
  unfold okAt
  rw [nth_left h, nth_left (k := k - 1) (by omega)]
theorem setB_nil : setB [] = true := rfl
theorem setB_one {x : Int × Int} (h : mayB x = true) : setB [x] = true := setB_true fun k hk => by
  have : k = 0 := by simpa using hk
  subst this
  exact okAt_zero h
theorem setB_snoc {xs : List (Int × Int)} {x : Int × Int} {E : Int} (h : setB xs = true) (hx : mayB x = true) (hE : EndLe xs E) (hlt : E < x.1) : setB (xs ++ [x]) = true := by
  refine setB_true fun k hk => ?_
  simp only [List.length_append, List.length_cons, List.length_nil] at hk
  rcases Nat.lt_or_ge k xs.length with h1 | h1
  · rw [okAt_left h1]; exact setB_at h k h1
  · obtain rfl : k = xs.length := by omega
    rcases Nat.eq_zero_or_pos xs.length with h0 | h0
    · exact okAt_first h0 (by rw [nth_last]; exact hx)
    · obtain ⟨m, hm⟩ : ∃ m, xs.length = m + 1 := ⟨xs.length - 1, by omega⟩
      have hl : nth (xs ++ [x]) (m + 1) = x := by rw [← hm]; exact nth_last
      rw [hm]
      refine okAt_succ (by rw [hl]; exact hx) ?_
      rw [hl, nth_left (by omega)]
      have := hE m (by omega)
      omega
theorem wi_snoc {xs : List (Int × Int)} {x : Int × Int} {i : Int} : wi (xs ++ [x]) i = true ↔ wi xs i = true ∨ Has1 x i := by
  unfold wi Has1
  simp
theorem EndLe.snoc {xs : List (Int × Int)} {x : Int × Int} {E : Int} (hE : EndLe xs E) (h : x.1 + x.2 ≤ E) : EndLe (xs ++ [x]) E := fun k hk => by
  simp only [List.length_append, List.length_cons, List.length_nil] at hk
  rcases Nat.lt_or_ge k xs.length with h1 | h1
  · rw [nth_left h1]; exact hE k h1
  · obtain rfl : k = xs.length := by omega
    rw [nth_last]; exact h
theorem set_bounds {xs : List (Int × Int)} (h : setB xs = true) {i : Int} (hi : wi xs i = true) : 0 ≤ i ∧ i < 65536 := by
  obtain ⟨k, hk, h1, h2⟩ := wi_iff.1 hi
  have := mayB_iff.1 (okAt_may (setB_at h k hk))
  omega

/-- With what lies from a on, ahead of e, behind it, if there is any. -/
def addF (xs : List (Int × Int)) (at' en : Int) : List (Int × Int) := if en ≤ at' then xs else xs ++ [(at', en - at')]
theorem addF_no {xs : List (Int × Int)} {a e : Int} (h : e ≤ a) : addF xs a e = xs := by simp [addF, h]
theorem addF_yes {xs : List (Int × Int)} {a e : Int} (h : ¬ e ≤ a) : addF xs a e = xs ++ [(a, e - a)] := by simp [addF, h]
theorem addF_length (xs : List (Int × Int)) (a e : Int) : (addF xs a e).length ≤ xs.length + 1 := by unfold addF; split <;> simp
theorem addF_set {xs : List (Int × Int)} {a e E : Int} (h : setB xs = true) (hE : EndLe xs E) (hlt : E < a) (h0 : 0 ≤ a) (h1 : e ≤ 65536) : setB (addF xs a e) = true := by
  by_cases hc : e ≤ a
  · rw [addF_no hc]; exact h
  · rw [addF_yes hc]; exact setB_snoc h (mayB_iff.2 ⟨h0, by simp; omega, by simp; omega⟩) hE hlt
theorem addF_wi {xs : List (Int × Int)} {a e i : Int} : wi (addF xs a e) i = true ↔ wi xs i = true ∨ (a ≤ i ∧ i < e) := by
  by_cases hc : e ≤ a
  · rw [addF_no hc]
    constructor
    · exact Or.inl
    · rintro (h | h)
      · exact h
      · omega
  · rw [addF_yes hc, wi_snoc]
    unfold Has1
    constructor
    · rintro (h | h)
      · exact .inl h
      · exact .inr (by simp at h; omega)
    · rintro (h | h)
      · exact .inl h
      · exact .inr (by simp; omega)
theorem addF_end {xs : List (Int × Int)} {a e E F : Int} (hE : EndLe xs E) (h1 : E ≤ F) (h2 : e ≤ F) : EndLe (addF xs a e) F := by
  by_cases hc : e ≤ a
  · rw [addF_no hc]; exact hE.mono h1
  · rw [addF_yes hc]; exact (hE.mono h1).snoc (by simp; omega)

/-- The sectors of the first k spans. -/
def Upto (xs : List (Int × Int)) (k : Nat) (i : Int) : Prop := ∃ j, j < k ∧ Has1 (nth xs j) i
theorem upto_zero {xs : List (Int × Int)} {i : Int} : ¬ Upto xs 0 i := fun ⟨j, hj, _⟩ => by omega
theorem upto_succ {xs : List (Int × Int)} {k : Nat} {i : Int} : Upto xs (k + 1) i ↔ Upto xs k i ∨ Has1 (nth xs k) i := by
  constructor
  · rintro ⟨j, hj, h⟩
    by_cases e : j = k
    · exact .inr (e ▸ h)
    · exact .inl ⟨j, by omega, h⟩
  · rintro (⟨j, hj, h⟩ | h)
    · exact ⟨j, by omega, h⟩
    · exact ⟨k, by omega, h⟩
theorem upto_all {xs : List (Int × Int)} {i : Int} : Upto xs xs.length i ↔ wi xs i = true := wi_iff.symm

/-- Two sets of the same sectors are one list. -/
theorem set_ext_aux : ∀ (n : Nat) {xs ys : List (Int × Int)}, setB xs = true → setB ys = true → (∀ i, wi xs i = true ↔ wi ys i = true) →
    ∀ k, k < n → (k < xs.length ↔ k < ys.length) ∧ (k < xs.length → nth xs k = nth ys k) := by
  intro n
  induction n with
  | zero => intro xs ys _ _ _ k hk; omega
  | succ n ih =>
    intro xs ys hx hy h k hk
    rcases Nat.lt_or_ge k n with hkn | hkn
    · exact ih hx hy h k hkn
    · obtain rfl : k = n := by omega
      have IH := ih hx hy h
      -- half: whatever the one has at k the other has
      have half : ∀ {us vs : List (Int × Int)}, setB us = true → setB vs = true → (∀ i, wi us i = true ↔ wi vs i = true) → (∀ j, j < k → (j < us.length ↔ j < vs.length) ∧ (j < us.length → nth us j = nth vs j)) → k < us.length → k < vs.length ∧ (nth vs k).1 ≤ (nth us k).1 := by
        intro us vs hu hv huv hI hku
        have mk := mayB_iff.1 (okAt_may (setB_at hu k hku))
        obtain ⟨j, hj, hh⟩ := wi_iff.1 ((huv (nth us k).1).1 (wi_iff.2 ⟨k, hku, by unfold Has1; omega⟩))
        rcases Nat.lt_or_ge j k with hjk | hjk
        · have := (hI j hjk)
          have e := this.2 (this.1.2 hj)
          have := set_lt' hu hjk hku
          rw [← e] at hh
          unfold Has1 at hh; omega
        · refine ⟨by omega, ?_⟩
          rcases Nat.lt_or_ge k j with h2 | h2
          · have := set_lt' hv h2 hj; have := mayB_iff.1 (okAt_may (setB_at hv k (by omega))); unfold Has1 at hh; omega
          · obtain rfl : j = k := by omega
            exact hh.1
      have IH' : ∀ j, j < k → (j < ys.length ↔ j < xs.length) ∧ (j < ys.length → nth ys j = nth xs j) := fun j hj => ⟨(IH j hj).1.symm, fun h2 => ((IH j hj).2 ((IH j hj).1.2 h2)).symm⟩
      have h' : ∀ i, wi ys i = true ↔ wi xs i = true := fun i => (h i).symm
      refine ⟨⟨fun hk => (half hx hy h IH hk).1, fun hk => (half hy hx h' IH' hk).1⟩, fun hkx => ?_⟩
      have a1 := half hx hy h IH hkx
      have a2 := half hy hx h' IH' a1.1
      have e1 : (nth xs k).1 = (nth ys k).1 := by omega
      -- the ends
      have ends : ∀ {us vs : List (Int × Int)}, setB us = true → setB vs = true → (∀ i, wi us i = true ↔ wi vs i = true) → (∀ j, j < k → (j < us.length ↔ j < vs.length) ∧ (j < us.length → nth us j = nth vs j)) → k < us.length → k < vs.length → (nth us k).1 = (nth vs k).1 → (nth us k).2 ≤ (nth vs k).2 := by
        intro us vs hu hv huv hI hku hkv he
        rcases Int.lt_or_le (nth vs k).2 (nth us k).2 with hlt | hle
        · exfalso
          have mk := mayB_iff.1 (okAt_may (setB_at hv k hkv))
          obtain ⟨j, hj, hh⟩ := wi_iff.1 ((huv ((nth vs k).1 + (nth vs k).2)).1 (wi_iff.2 ⟨k, hku, by unfold Has1; omega⟩))
          rcases Nat.lt_or_ge j k with hjk | hjk
          · have := set_lt' hv hjk hkv; unfold Has1 at hh; omega
          · rcases Nat.lt_or_ge k j with h2 | h2
            · have := set_lt' hv h2 hj; unfold Has1 at hh; omega
            · obtain rfl : j = k := by omega
              unfold Has1 at hh; omega
        · exact hle
      have b1 := ends hx hy h IH hkx a1.1 e1
      have b2 := ends hy hx h' IH' a1.1 hkx e1.symm
      exact Prod.ext e1 (by omega)
theorem set_ext {xs ys : List (Int × Int)} (hx : setB xs = true) (hy : setB ys = true) (h : ∀ i, wi xs i = true ↔ wi ys i = true) : xs = ys := by
  have H := set_ext_aux (xs.length + ys.length + 1) hx hy h
  have hl : xs.length = ys.length := by
    rcases Nat.lt_trichotomy xs.length ys.length with h1 | h1 | h1
    · have := (H xs.length (by omega)).1; omega
    · exact h1
    · have := (H ys.length (by omega)).1; omega
  refine List.ext_getElem hl fun k h1 h2 => ?_
  have := (H k (by omega)).2 h1
  rwa [nth_eq h1, nth_eq h2] at this
end Sp
end Go.Proofs.Ytjbgojccfkmlnaa

namespace Go.Proofs.Ytjbgojccfkmlnaa
open Go.RowKit
namespace Sp

theorem info27 : (Try.prog.info? 38).map (fun i => (i.zero, i.size, i.bytes)) = some (some (.agg #[.int .i64 0, .int .i64 0]), 2, 16) := by kernel_rfl

theorem cells_two {w : World} {b : Nat} {u v : Value} (h0 : w.cell? ⟨b, 0, none⟩ = some u) (h1 : w.cell? ⟨b, 1, none⟩ = some v) : ∀ j x, [u, v][j]? = some x → w.cell? ((⟨b, 0, none⟩ : Addr).add j) = some x
  | 0, x, h => by simp at h; subst h; exact h0
  | 1, x, h => by simp at h; subst h; exact h1
  | j + 2, x, h => by simp at h

set_option maxHeartbeats 1000000 in
theorem add_any (v : Value) (xs : List (Int × Int)) (a e : Int) (w : World) (h : Own w v xs) (hn : xs.length ≤ 1000000) (ha : 0 ≤ a ∧ a ≤ 65536) (he : 0 ≤ e ∧ e ≤ 65536) :
    Calls Try.prog 58 #[v, .int .i64 a, .int .i64 e] w fun r w' => ∃ v', r = .returned v' ∧ Own w' v' (addF xs a e) ∧ w.grownBy w' v.ownBlock ∧ Moved w v v' := by
  by_cases hc : e ≤ a
  · have HA : Hid (addF xs a e = xs) := addF_no hc
    go_enter Try.func58, Try.ntmps58
    go_wp2
    go_ret
    exact ⟨v, rfl, by rw [HA.out]; exact h, ⟨rfl, rfl, rfl, Nat.le_refl _, fun _ _ _ => rfl⟩, Moved.refl _ _⟩
  · have HA : Hid (addF xs a e = xs ++ [(a, e - a)]) := addF_yes hc
    obtain ⟨i0, hi, hz0, hz1, hz2⟩ := info_parts info27
    have hk : ∀ o, Own (w.alloc o) v xs := fun o => h.later (below_alloc _ _)
    go_enter Try.func58, Try.ntmps58
    go_wp2_with (at_builtin; refine wpList_append_moved rfl (.tmp 11) (.tmp 17) 59 rfl 38 i0 _ 2 16 Try.underlying59 hi hz0 hz1 hz2 rfl (by decide) v _ _ rfl (hk _) ⟨w.heap.size, 0, none⟩ 1 1 [.int .i64 a, .int .i64 (e - a)] rfl rfl (cells_two (by simp) (by simp)) (enc2_oneCell [(a, e - a)]) (by unfold maxLen; omega) (by omega) ?_; intro v' w' h1 h2 h3)
    go_ret
    refine ⟨v', rfl, ?_, ?_, ?_⟩
    · rw [HA.out]; unfold Own; rw [enc2_append, List.length_append]; exact h1
    · exact grownBy_trans (v := v) (v' := v) (below_grownBy (below_alloc _ _) _) h2 (Moved.refl _ _)
    · rcases h3 with h3 | h3
      · exact .inl h3
      · exact .inr fun k hk => by have := h3 k hk; simp at this; omega

end Sp
end Go.Proofs.Ytjbgojccfkmlnaa

namespace Go.Proofs.Ytjbgojccfkmlnaa
namespace Sp
/-- The spans of a set that have a sector of s are those from place f on, ahead of place t. -/
structure NearP (xs : List (Int × Int)) (s : Int × Int) (f t : Nat) : Prop where
  le : f ≤ t
  len : t ≤ xs.length
  lo : ∀ j, j < f → (nth xs j).1 + (nth xs j).2 ≤ s.1
  mid : ∀ j, f ≤ j → j < t → s.1 < (nth xs j).1 + (nth xs j).2 ∧ (nth xs j).1 < s.1 + s.2
  hi : ∀ j, t ≤ j → j < xs.length → s.1 + s.2 ≤ (nth xs j).1

theorem placeN_mono {xs : List (Int × Int)} (h : setB xs = true) {i k : Int} (hik : i ≤ k) : placeN xs i ≤ placeN xs k := by
  rcases Nat.lt_or_ge (placeN xs k) (placeN xs i) with hl | hl
  · have h1 := placeN_lt h hl
    have := placeN_le xs i
    have h2 := placeN_ge h (i := k) (by omega)
    omega
  · exact hl
theorem near_in {xs : List (Int × Int)} (h : setB xs = true) {s : Int × Int} (hs : mayB s = true) (hl : placeN xs (s.1 + s.2) < xs.length) (hc : (nth xs (placeN xs (s.1 + s.2))).1 < s.1 + s.2) : NearP xs s (placeN xs s.1) (placeN xs (s.1 + s.2) + 1) := by
  have hs' := mayB_iff.1 hs
  have hm := placeN_mono h (i := s.1) (k := s.1 + s.2) (by omega)
  refine ⟨by omega, hl, fun j hj => placeN_lt h hj, fun j h1 h2 => ⟨placeN_ge' h h1 (by omega), ?_⟩, fun j h1 h2 => ?_⟩
  · rcases Nat.lt_or_ge j (placeN xs (s.1 + s.2)) with h3 | h3
    · have := set_lt' h h3 hl; have := mayB_iff.1 (okAt_may (setB_at h j (by omega))); omega
    · rw [show j = placeN xs (s.1 + s.2) by omega]; exact hc
  · have := set_lt' h (show placeN xs (s.1 + s.2) < j by omega) h2
    have := placeN_ge h hl
    omega
theorem near_out {xs : List (Int × Int)} (h : setB xs = true) {s : Int × Int} (hs : mayB s = true) (hc : ¬ (placeN xs (s.1 + s.2) < xs.length ∧ (nth xs (placeN xs (s.1 + s.2))).1 < s.1 + s.2)) : NearP xs s (placeN xs s.1) (placeN xs (s.1 + s.2)) := by
  have hs' := mayB_iff.1 hs
  have hm := placeN_mono h (i := s.1) (k := s.1 + s.2) (by omega)
  have hle := placeN_le xs (s.1 + s.2)
  refine ⟨hm, hle, fun j hj => placeN_lt h hj, fun j h1 h2 => ⟨placeN_ge' h h1 (by omega), ?_⟩, fun j h1 h2 => ?_⟩
  · have := placeN_lt h h2; have := mayB_iff.1 (okAt_may (setB_at h j (by omega))); omega
  · rcases Nat.lt_or_ge (placeN xs (s.1 + s.2)) j with h3 | h3
    · have := set_lt' h h3 h2; have := placeN_ge h (i := s.1 + s.2) (by omega); omega
    · obtain rfl : j = placeN xs (s.1 + s.2) := by omega
      omega


theorem set_at_ge {xs : List (Int × Int)} (h : setB xs = true) : ∀ k, k < xs.length → (k : Int) ≤ (nth xs k).1
  | 0, hk => by have := mayB_iff.1 (okAt_may (setB_at h 0 hk)); omega
  | k + 1, hk => by
    have h1 := set_at_ge h k (by omega)
    have h2 := okAt_lt (setB_at h (k + 1) hk)
    have h3 := mayB_iff.1 (okAt_may (setB_at h k (by omega)))
    omega
theorem set_length {xs : List (Int × Int)} (h : setB xs = true) : xs.length ≤ 65536 := by
  rcases Nat.eq_zero_or_pos xs.length with h0 | h0
  · omega
  · have h1 := set_at_ge h (xs.length - 1) (by omega)
    have h3 := mayB_iff.1 (okAt_may (setB_at h (xs.length - 1) (by omega)))
    omega

/-- No span that is near is left out: a sector of s is in the set just if it is in one that is near. -/
theorem NearP.wi {zs : List (Int × Int)} {s : Int × Int} {f t : Nat} (h : NearP zs s f t) {i : Int} (hi : Has1 s i) : Sp.wi zs i = true ↔ ∃ j, f ≤ j ∧ j < t ∧ Has1 (nth zs j) i := by
  rw [wi_iff]
  constructor
  · rintro ⟨j, hj, hh⟩
    refine ⟨j, ?_, ?_, hh⟩
    · rcases Nat.lt_or_ge j f with h1 | h1
      · have := h.lo j h1; unfold Has1 at *; omega
      · exact h1
    · rcases Nat.lt_or_ge j t with h1 | h1
      · exact h1
      · have := h.hi j h1 hj; unfold Has1 at *; omega
  · rintro ⟨j, _, h2, hh⟩
    exact ⟨j, Nat.lt_of_lt_of_le h2 h.len, hh⟩

/-- Meet, when k spans are through. -/
structure MO (xs zs : List (Int × Int)) (k : Nat) (ys : List (Int × Int)) : Prop where
  set : setB ys = true
  mem : ∀ i, wi ys i = true ↔ Upto xs k i ∧ wi zs i = true
  lt : k < xs.length → ∃ E, E < (nth xs k).1 ∧ EndLe ys E
/-- .. and of the k-th one so many that are near. -/
structure MI (xs zs : List (Int × Int)) (k f m : Nat) (ys : List (Int × Int)) : Prop where
  set : setB ys = true
  mem : ∀ i, wi ys i = true ↔ (Upto xs k i ∧ wi zs i = true) ∨ (Has1 (nth xs k) i ∧ ∃ j, f ≤ j ∧ j < f + m ∧ Has1 (nth zs j) i)
  ends : ∃ E, EndLe ys E ∧ E ≤ (nth xs k).1 + (nth xs k).2 ∧ (m = 0 → E < (nth xs k).1) ∧ (∀ j, m = j + 1 → E ≤ (nth zs (f + j)).1 + (nth zs (f + j)).2)
theorem MO.start (xs zs : List (Int × Int)) (hx : setB xs = true) : MO xs zs 0 [] :=
  ⟨setB_nil, fun i => ⟨fun h => by simp [wi] at h, fun h => absurd h.1 upto_zero⟩, fun h => ⟨-1, by have := mayB_iff.1 (okAt_may (setB_at hx 0 h)); omega, EndLe.nil _⟩⟩
theorem MO.inner {xs zs ys : List (Int × Int)} {k : Nat} (h : MO xs zs k ys) (hx : setB xs = true) (hk : k < xs.length) (f : Nat) : MI xs zs k f 0 ys :=
  ⟨h.set, fun i => by rw [h.mem]; exact ⟨.inl, fun h' => h'.elim id fun ⟨_, j, h1, h2, _⟩ => by omega⟩, by
    obtain ⟨E, h1, h2⟩ := h.lt hk
    have := mayB_iff.1 (okAt_may (setB_at hx k hk))
    exact ⟨E, h2, by omega, fun _ => h1, fun j hj => by omega⟩⟩
theorem MI.step {xs zs ys : List (Int × Int)} {k f m t : Nat} (h : MI xs zs k f m ys) (hx : setB xs = true) (hz : setB zs = true) (hk : k < xs.length) (hN : NearP zs (nth xs k) f t) (hm : f + m < t) :
    MI xs zs k f (m + 1) (addF ys (max (nth xs k).1 (nth zs (f + m)).1) (min ((nth xs k).1 + (nth xs k).2) ((nth zs (f + m)).1 + (nth zs (f + m)).2))) := by
  have hl := hN.len
  have ms := mayB_iff.1 (okAt_may (setB_at hx k hk))
  have mo := mayB_iff.1 (okAt_may (setB_at hz (f + m) (by omega)))
  obtain ⟨E, e1, e2, e3, e4⟩ := h.ends
  have hE : E < max (nth xs k).1 (nth zs (f + m)).1 := by
    rcases Nat.eq_zero_or_pos m with h0 | h0
    · have := e3 h0; omega
    · obtain ⟨j, rfl⟩ : ∃ j, m = j + 1 := ⟨m - 1, by omega⟩
      have := e4 j rfl
      have := set_lt' hz (show f + j < f + (j + 1) by omega) (by omega)
      omega
  refine ⟨addF_set h.set e1 hE (by omega) (by omega), fun i => ?_, ?_⟩
  · rw [addF_wi, h.mem]
    constructor
    · rintro ((h1 | ⟨h1, j, h2, h3, h4⟩) | h1)
      · exact .inl h1
      · exact .inr ⟨h1, j, h2, by omega, h4⟩
      · exact .inr ⟨by unfold Has1; omega, f + m, by omega, by omega, by unfold Has1; omega⟩
    · rintro (h1 | ⟨h1, j, h2, h3, h4⟩)
      · exact .inl (.inl h1)
      · by_cases e : j = f + m
        · subst e; unfold Has1 at *; exact .inr (by omega)
        · exact .inl (.inr ⟨h1, j, h2, by omega, h4⟩)
  · refine ⟨max E (min ((nth xs k).1 + (nth xs k).2) ((nth zs (f + m)).1 + (nth zs (f + m)).2)), addF_end e1 (by omega) (by omega), by omega, fun h0 => by omega, fun j hj => ?_⟩
    obtain rfl : j = m := by omega
    rcases Nat.eq_zero_or_pos j with h0 | h0
    · have := e3 h0
      have := hN.mid (f + j) (by omega) hm
      omega
    · obtain ⟨j', rfl⟩ : ∃ j', j = j' + 1 := ⟨j - 1, by omega⟩
      have := e4 j' rfl
      have := set_lt' hz (show f + j' < f + (j' + 1) by omega) (by omega)
      omega
theorem MI.done {xs zs ys : List (Int × Int)} {k f t : Nat} (h : MI xs zs k f (t - f) ys) (hx : setB xs = true) (_hk : k < xs.length) (hN : NearP zs (nth xs k) f t) : MO xs zs (k + 1) ys :=
  ⟨h.set, fun i => by
    rw [h.mem, upto_succ, show f + (t - f) = t by have := hN.le; omega]
    constructor
    · rintro (h1 | ⟨h1, h2⟩)
      · exact ⟨.inl h1.1, h1.2⟩
      · exact ⟨.inr h1, (hN.wi h1).2 h2⟩
    · rintro ⟨h1 | h1, h2⟩
      · exact .inl ⟨h1, h2⟩
      · exact .inr ⟨h1, (hN.wi h1).1 h2⟩, fun hk' => by
    obtain ⟨E, e1, e2, _⟩ := h.ends
    exact ⟨E, by have := set_lt' hx (show k < k + 1 by omega) hk'; omega, e1⟩⟩
theorem MO.all {xs zs ys : List (Int × Int)} (h : MO xs zs xs.length ys) : setB ys = true ∧ ∀ i, wi ys i = true ↔ wi xs i = true ∧ wi zs i = true :=
  ⟨h.set, fun i => by rw [h.mem, upto_all]⟩

/-- Cut, when k spans are through. -/
structure CO (xs zs : List (Int × Int)) (k : Nat) (ys : List (Int × Int)) : Prop where
  set : setB ys = true
  mem : ∀ i, wi ys i = true ↔ Upto xs k i ∧ ¬ wi zs i = true
  lt : k < xs.length → ∃ E, E < (nth xs k).1 ∧ EndLe ys E
/-- .. and of the k-th one so many that are near: A is the first sector that is not looked at yet. -/
structure CI (xs zs : List (Int × Int)) (k f m : Nat) (A : Int) (ys : List (Int × Int)) : Prop where
  set : setB ys = true
  mem : ∀ i, wi ys i = true ↔ (Upto xs k i ∧ ¬ wi zs i = true) ∨ ((nth xs k).1 ≤ i ∧ i < A ∧ i < (nth xs k).1 + (nth xs k).2 ∧ ¬ wi zs i = true)
  ge : (nth xs k).1 ≤ A ∧ A ≤ 65536
  at0 : m = 0 → A = (nth xs k).1
  at1 : ∀ j, m = j + 1 → A = (nth zs (f + j)).1 + (nth zs (f + j)).2
  ends : ∃ E, EndLe ys E ∧ E < A ∧ E ≤ (nth xs k).1 + (nth xs k).2
theorem CO.start (xs zs : List (Int × Int)) (hx : setB xs = true) : CO xs zs 0 [] :=
  ⟨setB_nil, fun i => ⟨fun h => by simp [wi] at h, fun h => absurd h.1 upto_zero⟩, fun h => ⟨-1, by have := mayB_iff.1 (okAt_may (setB_at hx 0 h)); omega, EndLe.nil _⟩⟩
theorem CO.inner {xs zs ys : List (Int × Int)} {k : Nat} (h : CO xs zs k ys) (hx : setB xs = true) (hk : k < xs.length) (f : Nat) : CI xs zs k f 0 (nth xs k).1 ys := by
  have ms := mayB_iff.1 (okAt_may (setB_at hx k hk))
  obtain ⟨E, h1, h2⟩ := h.lt hk
  exact ⟨h.set, fun i => by rw [h.mem]; exact ⟨.inl, fun h' => h'.elim id fun ⟨_, _, _⟩ => by omega⟩, by omega, fun _ => rfl, fun j hj => by omega, ⟨E, h2, h1, by omega⟩⟩
/-- Between two neighbours of a set there is no sector of it. -/
theorem gap {zs : List (Int × Int)} (hz : setB zs = true) {j : Nat} {i : Int} (hj : j + 1 < zs.length) (h1 : (nth zs j).1 + (nth zs j).2 ≤ i) (h2 : i < (nth zs (j + 1)).1) : ¬ wi zs i = true := fun h => by
  obtain ⟨m, hm, hh⟩ := wi_iff.1 h
  unfold Has1 at hh
  rcases Nat.lt_or_ge j m with h3 | h3
  · rcases Nat.lt_or_ge (j + 1) m with h4 | h4
    · have := set_lt' hz h4 hm; have := mayB_iff.1 (okAt_may (setB_at hz (j + 1) hj)); omega
    · rw [show m = j + 1 by omega] at hh; omega
  · rcases Nat.lt_or_ge m j with h4 | h4
    · have := set_lt' hz h4 (by omega); have := mayB_iff.1 (okAt_may (setB_at hz j (by omega))); omega
    · rw [show m = j by omega] at hh; omega
/-- From A on, ahead of the next one that is near, no sector of s is in the set. -/
theorem CI.free {xs zs ys : List (Int × Int)} {k f m t : Nat} {A : Int} (h : CI xs zs k f m A ys) (hz : setB zs = true) (hN : NearP zs (nth xs k) f t) (hm : f + m ≤ t) {i : Int} (h1 : A ≤ i) (h2 : i < (nth xs k).1 + (nth xs k).2) (h3 : f + m < t → i < (nth zs (f + m)).1) : ¬ wi zs i = true := fun hw => by
  have hge := h.ge
  obtain ⟨j, hj1, hj2, hh⟩ := (hN.wi (i := i) ⟨by omega, h2⟩).1 hw
  have hl := hN.len
  unfold Has1 at hh
  rcases Nat.lt_or_ge j (f + m) with h4 | h4
  · obtain ⟨q, rfl⟩ : ∃ q, m = q + 1 := ⟨m - 1, by omega⟩
    have hA := h.at1 q rfl
    rcases Nat.lt_or_ge j (f + q) with h5 | h5
    · have := set_lt' hz h5 (by omega); have := mayB_iff.1 (okAt_may (setB_at hz (f + q) (by omega))); omega
    · rw [show j = f + q by omega] at hh; omega
  · have := h3 (by omega)
    rcases Nat.lt_or_ge (f + m) j with h5 | h5
    · have := set_lt' hz h5 (by omega); have := mayB_iff.1 (okAt_may (setB_at hz (f + m) (by omega))); omega
    · rw [show j = f + m by omega] at hh; omega
theorem CI.step {xs zs ys : List (Int × Int)} {k f m t : Nat} {A : Int} (h : CI xs zs k f m A ys) (hx : setB xs = true) (hz : setB zs = true) (hk : k < xs.length) (hN : NearP zs (nth xs k) f t) (hm : f + m < t) :
    CI xs zs k f (m + 1) ((nth zs (f + m)).1 + (nth zs (f + m)).2) (addF ys A (nth zs (f + m)).1) := by
  have hl := hN.len
  have ms := mayB_iff.1 (okAt_may (setB_at hx k hk))
  have mo := mayB_iff.1 (okAt_may (setB_at hz (f + m) (by omega)))
  have hmid := hN.mid (f + m) (by omega) hm
  obtain ⟨E, e1, e2, e3⟩ := h.ends
  have hge := h.ge
  refine ⟨addF_set h.set e1 e2 (by omega) (by omega), fun i => ?_, by omega, fun h0 => by omega, fun j hj => by rw [show j = m by omega], ⟨max E (nth zs (f + m)).1, addF_end e1 (by omega) (by omega), ?_, by omega⟩⟩
  · rw [addF_wi, h.mem]
    have self : ∀ i, (nth zs (f + m)).1 ≤ i → i < (nth zs (f + m)).1 + (nth zs (f + m)).2 → wi zs i = true := fun i h1 h2 => wi_iff.2 ⟨f + m, by omega, h1, h2⟩
    constructor
    · rintro ((h1 | ⟨h1, h2, h3, h4⟩) | h1)
      · exact .inl h1
      · refine .inr ⟨h1, ?_, h3, h4⟩
        rcases Int.lt_or_le i ((nth zs (f + m)).1 + (nth zs (f + m)).2) with h5 | h5
        · exact h5
        · exfalso
          rcases Nat.eq_zero_or_pos m with h0 | h0
          · have := h.at0 h0; omega
          · obtain ⟨q, rfl⟩ : ∃ q, m = q + 1 := ⟨m - 1, by omega⟩
            have := h.at1 q rfl
            have := set_lt' hz (show f + q < f + (q + 1) by omega) (by omega)
            omega
      · exact .inr ⟨by omega, by omega, by omega, h.free hz hN (by omega) h1.1 (by omega) (fun _ => h1.2)⟩
    · rintro (h1 | ⟨h1, h2, h3, h4⟩)
      · exact .inl (.inl h1)
      · rcases Int.lt_or_le i A with h5 | h5
        · exact .inl (.inr ⟨h1, h5, h3, h4⟩)
        · rcases Int.lt_or_le i (nth zs (f + m)).1 with h6 | h6
          · exact .inr ⟨h5, h6⟩
          · exact absurd (self i h6 h2) h4
  · rcases Nat.eq_zero_or_pos m with h0 | h0
    · have := h.at0 h0; omega
    · obtain ⟨q, rfl⟩ : ∃ q, m = q + 1 := ⟨m - 1, by omega⟩
      have := h.at1 q rfl
      have := set_lt' hz (show f + q < f + (q + 1) by omega) (by omega)
      omega
theorem CI.done {xs zs ys : List (Int × Int)} {k f t : Nat} {A : Int} (h : CI xs zs k f (t - f) A ys) (hx : setB xs = true) (hz : setB zs = true) (hk : k < xs.length) (hN : NearP zs (nth xs k) f t) :
    CO xs zs (k + 1) (addF ys A ((nth xs k).1 + (nth xs k).2)) := by
  have ms := mayB_iff.1 (okAt_may (setB_at hx k hk))
  obtain ⟨E, e1, e2, e3⟩ := h.ends
  have hge := h.ge
  have hle := hN.le
  refine ⟨addF_set h.set e1 e2 (by omega) (by omega), fun i => ?_, fun hk' => ⟨_, by have := set_lt' hx (show k < k + 1 by omega) hk'; omega, addF_end e1 e3 (Int.le_refl _)⟩⟩
  rw [addF_wi, h.mem, upto_succ]
  constructor
  · rintro ((h1 | ⟨h1, h2, h3, h4⟩) | h1)
    · exact ⟨.inl h1.1, h1.2⟩
    · exact ⟨.inr ⟨h1, h3⟩, h4⟩
    · exact ⟨.inr ⟨by omega, h1.2⟩, h.free hz hN (by omega) h1.1 h1.2 (fun _ => by omega)⟩
  · rintro ⟨h1 | h1, h2⟩
    · exact .inl (.inl ⟨h1, h2⟩)
    · unfold Has1 at h1
      rcases Int.lt_or_le i A with h5 | h5
      · exact .inl (.inr ⟨h1.1, h5, h1.2, h2⟩)
      · exact .inr ⟨h5, h1.2⟩
theorem CO.all {xs zs ys : List (Int × Int)} (h : CO xs zs xs.length ys) : setB ys = true ∧ ∀ i, wi ys i = true ↔ wi xs i = true ∧ ¬ wi zs i = true :=
  ⟨h.set, fun i => by rw [h.mem, upto_all]⟩
end Sp
end Go.Proofs.Ytjbgojccfkmlnaa

namespace Go.Proofs.Ytjbgojccfkmlnaa
open Go.RowKit
namespace Sp

theorem nth_sub {xs : List (Int × Int)} {f t i : Nat} (_h : t ≤ xs.length) (hi : i < t - f) : nth ((xs.drop f).take (t - f)) i = nth xs (f + i) := by
  simp [nth, hi]
theorem sub_length {xs : List (Int × Int)} {f t : Nat} (h : t ≤ xs.length) : ((xs.drop f).take (t - f)).length = t - f := by simp; omega
theorem Sl.sub {w : World} {b off n : Nat} {xs : List (Int × Int)} (h : Sl w (some ⟨b, off, none⟩) n xs) {f t : Nat} (hft : f ≤ t) (ht : t ≤ xs.length) : Sl w (some ⟨b, off + f * 2, none⟩) (t - f) ((xs.drop f).take (t - f)) :=
  ⟨(sub_length ht).symm, by have := h.most; have := h.len; omega, fun x hx => h.fit x (List.mem_of_mem_drop (List.mem_of_mem_take hx)), fun i hi => by
    rw [sub_length ht] at hi
    obtain ⟨b', off', he, hb, c0, c1⟩ := h.cells (f + i) (by omega)
    simp only [Option.some.injEq, Addr.mk.injEq, and_true] at he
    obtain ⟨rfl, rfl⟩ := he
    refine ⟨b, off + f * 2, rfl, hb, ?_, ?_⟩
    · rw [nth_sub ht hi, show off + f * 2 + i * 2 = off + (f + i) * 2 by omega]; exact c0
    · rw [nth_sub ht hi, show off + f * 2 + i * 2 + 1 = off + (f + i) * 2 + 1 by omega]; exact c1⟩

theorem later_box {w : World} {o : Obj} (p : Later (w.alloc o)) : w.heap.size < p.val.heap.size := by have := p.below.size; simp at this; omega
theorem hide {p : Prop} (h : p) : Hid p := h
theorem Sl.sub' {w : World} {a : Option Addr} {n cap : Nat} {xs : List (Int × Int)} (h : Sl w a n xs) (hcap : n ≤ cap) {f t : Nat} (hft : f ≤ t) (ht : t ≤ xs.length) :
    Sl w (if cap = f then a else a.map (·.add (f * 2))) (t - f) ((xs.drop f).take (t - f)) := by
  rcases Nat.lt_or_ge f t with h1 | h1
  · have hl := h.len
    rw [if_neg (by omega)]
    obtain ⟨b, off, rfl, _⟩ := h.cells f (by omega)
    have := h.sub hft ht
    simpa [Addr.add_lit] using this
  · rw [show t - f = 0 by omega]
    exact ⟨by simp, by omega, by simp, fun i hi => by simp at hi⟩

def NearPost (a : Option Addr) (n : Nat) (xs : List (Int × Int)) (s : Int × Int) (w : World) (e : Ending) (w' : World) : Prop := ∃ f t a' cap', NearP xs s f t ∧ e = .returned (.slice a' (t - f) cap') ∧ (∀ W, Sl W a n xs → Sl W a' (t - f) ((xs.drop f).take (t - f))) ∧ Below w.heap.size w w'

set_option maxHeartbeats 1000000 in
theorem near_any (a : Option Addr) (n cap : Nat) (xs : List (Int × Int)) (s : Int × Int) (w : World) (h : Sl w a n xs) (hcap : n ≤ cap) (hs : setB xs = true) (hm : mayB s = true) :
    Calls Try.prog 57 #[.slice a n cap, .agg #[.int .i64 s.1, .int .i64 s.2]] w (NearPost a n xs s w) := by
  have hn := h.most
  have hmm := mayB_iff.1 hm
  have hle := placeN_le xs (s.1 + s.2)
  have hmo := placeN_mono hs (i := s.1) (k := s.1 + s.2) (by omega)
  have HL : Hid (n = xs.length) := h.len
  rw [← HL.out] at hle
  have hb0 := below_alloc w (.cells #[.int .i64 s.1, .int .i64 s.2] 38)
  have hp1 : ∀ p : Later (w.alloc (.cells #[.int .i64 s.1, .int .i64 s.2] 38)), _ := fun p => place_any a n cap xs s.1 p.val ((h.later hb0).later p.below) hs
  have hp2 : ∀ p : Later (w.alloc (.cells #[.int .i64 s.1, .int .i64 s.2] 38)), _ := fun p => place_any a n cap xs (s.1 + s.2) p.val ((h.later hb0).later p.below) hs
  have he1 : ∀ p : Later (w.alloc (.cells #[.int .i64 s.1, .int .i64 s.2] 38)), _ := fun p => end_b s p.val hm
  have hne := later_ne (w.alloc (.cells #[.int .i64 s.1, .int .i64 s.2] 38))
  have C0 : ∀ p : Later (w.alloc (.cells #[.int .i64 s.1, .int .i64 s.2] 38)), p.val.cell? ⟨w.heap.size, 0, none⟩ = some (.int .i64 s.1) := fun p => box0 p.below
  have C1 : ∀ p : Later (w.alloc (.cells #[.int .i64 s.1, .int .i64 s.2] 38)), p.val.cell? ⟨w.heap.size, 1, none⟩ = some (.int .i64 s.2) := fun p => box1 p.below
  have HS := hide h
  by_cases hl : placeN xs (s.1 + s.2) < n
  · obtain ⟨b, off, rfl, _⟩ := h.cells (placeN xs (s.1 + s.2)) (by have := HL.out; omega)
    obtain ⟨b', off', he', hbl, c0, c1⟩ := (h.later hb0).cells (placeN xs (s.1 + s.2)) (by have := HL.out; omega)
    simp only [Option.some.injEq, Addr.mk.injEq, and_true] at he'
    obtain ⟨rfl, rfl⟩ := he'
    have D0 := lcell hbl c0
    clear c0 c1
    by_cases hc : (nth xs (placeN xs (s.1 + s.2))).1 < s.1 + s.2
    · have HN := hide (near_in hs hm (by have := HL.out; omega) hc)
      clear hs h
      generalize nth xs (placeN xs (s.1 + s.2)) = y at *
      go_enter Try.func57, Try.ntmps57
      go_wp2
      refine wp_region_later (by kernel_rfl) (by kernel_rfl) ?_
      (repeat (first | go_big_quiet_skip | (go_big_quiet_want; go_big_quiet_op; go_big_quiet_on)))
      (go_big_quiet_want; go_big_quiet_op; apply Exists.intro; refine ⟨fun p => ?_, ?_⟩; (· exact later_of (hp1 p)); go_big_quiet_on)
      (repeat (first | go_big_quiet_skip | (go_big_quiet_want; go_big_quiet_op; go_big_quiet_on)))
      (go_big_quiet_want; go_big_quiet_op; apply Exists.intro; refine ⟨fun p => ?_, ?_⟩; (· exact later_of (he1 p)); go_big_quiet_on)
      (repeat (first | go_big_quiet_skip | (go_big_quiet_want; go_big_quiet_op; go_big_quiet_on)))
      (go_big_quiet_want; go_big_quiet_op; apply Exists.intro; refine ⟨fun p => ?_, ?_⟩; (· exact later_of (hp2 p)); go_big_quiet_on)
      (repeat (first | go_big_quiet_skip | (go_big_quiet_want; go_big_quiet_op; go_big_quiet_on)))
      refine wpQuiet_nil ?_
      rintro _ ⟨p, rfl⟩
      have hb1 := hb0.trans (p.below.mono hb0.size)
      have he2 : ∀ q : Later p.val, _ := fun q => end_b s q.val hm
      have hne2 := later_ne p.val
      have C02 : ∀ q : Later p.val, q.val.cell? ⟨w.heap.size, 0, none⟩ = some (.int .i64 s.1) := fun q => (q.below.cell (later_box p)).trans (C0 p)
      have C12 : ∀ q : Later p.val, q.val.cell? ⟨w.heap.size, 1, none⟩ = some (.int .i64 s.2) := fun q => (q.below.cell (later_box p)).trans (C1 p)
      have D02 : ∀ q : Later p.val, q.val.cell? ⟨b, off + placeN xs (s.1 + s.2) * 2, none⟩ = some (.int .i64 y.1) := fun q => (q.below.cell (Nat.lt_of_lt_of_le hbl p.below.size)).trans (D0 p)
      clear hp1 hp2 he1 hne C0 C1 D0 hbl
      generalize placeN xs (s.1 + s.2) = T at *
      generalize placeN xs s.1 = F at *
      go_wp2
      refine wp_region_later (by kernel_rfl) (by kernel_rfl) ?_
      (repeat (first | go_big_quiet_skip | (go_big_quiet_want; go_big_quiet_op; go_big_quiet_on)))
      (go_big_quiet_want; go_big_quiet_op; apply Exists.intro; refine ⟨fun p => ?_, ?_⟩; (· exact later_of (he2 p)); go_big_quiet_on)
      (repeat (first | go_big_quiet_skip | (go_big_quiet_want; go_big_quiet_op; go_big_quiet_on)))
      refine wpQuiet_nil ?_
      rintro _ ⟨p, rfl⟩
      rename_i p0
      have hb := hb1.trans (p.below.mono hb1.size)
      clear he2 hne2 C02 C12 D02
      go_wp2
      go_ret
      exact ⟨F, T + 1, _, _, HN.out, rfl, fun _ hS => hS.sub HN.out.le HN.out.len, hb⟩
    · have HN := hide (near_out hs hm (by omega))
      clear hs h
      generalize nth xs (placeN xs (s.1 + s.2)) = y at *
      go_enter Try.func57, Try.ntmps57
      go_wp2
      refine wp_region_later (by kernel_rfl) (by kernel_rfl) ?_
      (repeat (first | go_big_quiet_skip | (go_big_quiet_want; go_big_quiet_op; go_big_quiet_on)))
      (go_big_quiet_want; go_big_quiet_op; apply Exists.intro; refine ⟨fun p => ?_, ?_⟩; (· exact later_of (hp1 p)); go_big_quiet_on)
      (repeat (first | go_big_quiet_skip | (go_big_quiet_want; go_big_quiet_op; go_big_quiet_on)))
      (go_big_quiet_want; go_big_quiet_op; apply Exists.intro; refine ⟨fun p => ?_, ?_⟩; (· exact later_of (he1 p)); go_big_quiet_on)
      (repeat (first | go_big_quiet_skip | (go_big_quiet_want; go_big_quiet_op; go_big_quiet_on)))
      (go_big_quiet_want; go_big_quiet_op; apply Exists.intro; refine ⟨fun p => ?_, ?_⟩; (· exact later_of (hp2 p)); go_big_quiet_on)
      (repeat (first | go_big_quiet_skip | (go_big_quiet_want; go_big_quiet_op; go_big_quiet_on)))
      refine wpQuiet_nil ?_
      rintro _ ⟨p, rfl⟩
      have hb1 := hb0.trans (p.below.mono hb0.size)
      have he2 : ∀ q : Later p.val, _ := fun q => end_b s q.val hm
      have hne2 := later_ne p.val
      have C02 : ∀ q : Later p.val, q.val.cell? ⟨w.heap.size, 0, none⟩ = some (.int .i64 s.1) := fun q => (q.below.cell (later_box p)).trans (C0 p)
      have C12 : ∀ q : Later p.val, q.val.cell? ⟨w.heap.size, 1, none⟩ = some (.int .i64 s.2) := fun q => (q.below.cell (later_box p)).trans (C1 p)
      have D02 : ∀ q : Later p.val, q.val.cell? ⟨b, off + placeN xs (s.1 + s.2) * 2, none⟩ = some (.int .i64 y.1) := fun q => (q.below.cell (Nat.lt_of_lt_of_le hbl p.below.size)).trans (D0 p)
      clear hp1 hp2 he1 hne C0 C1 D0 hbl
      generalize placeN xs (s.1 + s.2) = T at *
      generalize placeN xs s.1 = F at *
      go_wp2
      refine wp_region_later (by kernel_rfl) (by kernel_rfl) ?_
      (repeat (first | go_big_quiet_skip | (go_big_quiet_want; go_big_quiet_op; go_big_quiet_on)))
      (go_big_quiet_want; go_big_quiet_op; apply Exists.intro; refine ⟨fun p => ?_, ?_⟩; (· exact later_of (he2 p)); go_big_quiet_on)
      (repeat (first | go_big_quiet_skip | (go_big_quiet_want; go_big_quiet_op; go_big_quiet_on)))
      refine wpQuiet_nil ?_
      rintro _ ⟨p, rfl⟩
      rename_i p0
      have hb := hb1.trans (p.below.mono hb1.size)
      clear he2 hne2 C02 C12 D02
      go_wp2
      go_ret
      exact ⟨F, T, _, _, HN.out, rfl, fun _ hS => hS.sub HN.out.le HN.out.len, hb⟩
  · have HN := hide (near_out hs hm (by have := HL.out; omega))
    have hld : decide (placeN xs (s.1 + s.2) < n) = false := by simp; omega
    clear hs h
    go_enter Try.func57, Try.ntmps57
    go_wp2
    refine wp_region_later (by kernel_rfl) (by kernel_rfl) ?_
    (repeat (first | go_big_quiet_skip | (go_big_quiet_want; go_big_quiet_op; go_big_quiet_on)))
    (go_big_quiet_want; go_big_quiet_op; apply Exists.intro; refine ⟨fun p => ?_, ?_⟩; (· exact later_of (hp1 p)); go_big_quiet_on)
    (repeat (first | go_big_quiet_skip | (go_big_quiet_want; go_big_quiet_op; go_big_quiet_on)))
    (go_big_quiet_want; go_big_quiet_op; apply Exists.intro; refine ⟨fun p => ?_, ?_⟩; (· exact later_of (he1 p)); go_big_quiet_on)
    (repeat (first | go_big_quiet_skip | (go_big_quiet_want; go_big_quiet_op; go_big_quiet_on)))
    (go_big_quiet_want; go_big_quiet_op; apply Exists.intro; refine ⟨fun p => ?_, ?_⟩; (· exact later_of (hp2 p)); go_big_quiet_on)
    (repeat (first | go_big_quiet_skip | (go_big_quiet_want; go_big_quiet_op; go_big_quiet_on)))
    refine wpQuiet_nil ?_
    rintro _ ⟨p, rfl⟩
    have hb1 := hb0.trans (p.below.mono hb0.size)
    have hne2 := later_ne p.val
    clear hp1 hp2 he1 hne C0 C1
    generalize placeN xs (s.1 + s.2) = T at *
    generalize placeN xs s.1 = F at *
    go_wp2
    refine wp_region_later (by kernel_rfl) (by kernel_rfl) ?_
    (repeat (first | go_big_quiet_skip | (go_big_quiet_want; go_big_quiet_op; go_big_quiet_on)))
    refine wpQuiet_nil ?_
    rintro _ ⟨p, rfl⟩
    rename_i p0
    have hb := hb1.trans (p.below.mono hb1.size)
    clear hne2
    have HG := hide (fun W (hS : Sl W a n xs) => hS.sub' hcap HN.out.le HN.out.len)
    by_cases hcf : cap = F
    · have HC := hide hcf
      have hz : cap - F = 0 := by omega
      subst hcf
      go_wp2
      go_ret
      exact ⟨cap, T, _, _, HN.out, rfl, fun W hS => by have := HG.out W hS; simpa using this, hb⟩
    · have HC := hide hcf
      go_wp2
      go_ret
      exact ⟨F, T, _, _, HN.out, rfl, fun W hS => by have := HG.out W hS; rwa [if_neg HC.out] at this, hb⟩

end Sp
end Go.Proofs.Ytjbgojccfkmlnaa

namespace Go.Proofs.Ytjbgojccfkmlnaa
open Go.RowKit
namespace Sp

section
variable {P : Program} {ops : Array Oper} {C : World → Prop} {n : Nat}

/-- Whatever order is picked among the first n operations, each of them quiet in the class, L holds of what is left when f of them have come up. -/
def Heads (P : Program) (ops : Array Oper) (C : World → Prop) (n : Nat) (L : Array Bool → Act → Prop) : Nat → Array Bool → Act → Prop
  | 0, done, a => L done a
  | f + 1, done, a => Region.ready .any ops done ≠ [] ∧ ∀ i ∈ Region.ready .any ops done, i < n ∧ qOp P ops C i (Heads P ops C n L f (done.setIfInBounds i true)) a

theorem Heads.any {g : Nat} {L : Array Bool → Act → Prop} {Q : Exit → Act → World → Prop} (hL : ∀ done a, L done a → ∀ w, C w → wpAny P .any ops Q g done a w) :
    ∀ f done a, Heads P ops C n L f done a → ∀ w, C w → wpAny P .any ops Q (f + g) done a w := by
  intro f
  induction f with
  | zero => intro done a h w hw; rw [Nat.zero_add]; exact hL done a h w hw
  | succ f ih =>
    intro done a h w hw
    rw [Nat.succ_add]
    exact ⟨fun e => absurd e h.1, fun i hi => wpOp_of_qOp hw (fun a' w' hw' h' => ih _ a' h' w' hw') (h.2 i hi).2⟩

theorem Heads.first {i : Nat} {oi : Oper} {v : Value} {L : Array Bool → Act → Prop} (hi : ops[i]? = some oi) (hsel : Region.noSelect ops = true)
    (hs : Region.sinkB .any ops n = true) (hc : Region.chainB .any ops n = true) (hn : n < ops.size) (hin : i < n)
    (hL : ∀ done a, L done a → ∀ j ∈ Region.ready .any ops done, n ≤ j) :
    ∀ f done a, HeadInv .any ops n done →
      (∀ j oj, ops[j]? = some oj → j ≠ i → done.getD j true = false → (∀ e ∈ oj.after, Region.binds .any e = true → e.on ≠ i) → oi.apart ops oj = true) →
      i ∈ Region.ready .any ops done → YieldsIn P ops C oi v a → Heads P ops C n L f (done.setIfInBounds i true) (a.put oi.dst v) → Heads P ops C n L (f + 1) done a := by
  have sel := Region.noSelect_spec hsel
  have low : ∀ done, HeadInv .any ops n done → i ∈ Region.ready .any ops done → ∀ j ∈ Region.ready .any ops done, j < n := fun done inv hr j hj =>
    (Nat.lt_or_ge j n).resolve_right fun hge => tail_waits hs hc hn inv _ i rfl hin (mem_ready.1 hr).1 j hge hj
  intro f
  induction f with
  | zero =>
    intro done a inv _ hr hy H
    refine ⟨List.ne_nil_of_mem hr, fun j hj => ⟨low done inv hr j hj, ?_⟩⟩
    by_cases hji : j = i
    · subst hji; exact hy.qOp hi H
    · have h1 := hL _ _ H j (ready_mono hj hji)
      have h2 := low done inv hr j hj
      omega
  | succ f ih =>
    intro done a inv hfree hr hy H
    refine ⟨List.ne_nil_of_mem hr, fun j hj => ⟨low done inv hr j hj, ?_⟩⟩
    by_cases hji : j = i
    · subst hji; exact hy.qOp hi H
    · obtain ⟨hjun, oj, hoj, hall⟩ := mem_ready.1 hj
      have hnot : ∀ e ∈ oj.after, Region.binds .any e = true → e.on ≠ i := fun e he hb heq => by
        have h1 := hall e he hb
        rw [heq, getD_both (mem_ready.1 hr).1] at h1
        exact Bool.false_ne_true h1
      refine qOp_mono (fun a' h3 => ih (done.setIfInBounds j true) a' (inv.set hj (low done inv hr j hj)) (fun k ok hk hki hun hno => hfree k ok hk hki ?_ hno) (ready_mono hr (Ne.symm hji)) h3.1 ?_)
        (qOp_put hoj (hfree j oj hoj hji hjun hnot) (fun cs b => sel i oi cs b hi) (fun cs b => sel j oj cs b hoj) hy (H.2 j (ready_mono hj hji)).2)
      · by_cases hjk : j = k
        · subst hjk; exact hjun
        · rw [getD_set_ne true hjk] at hun; exact hun
      · rw [Array.setIfInBounds_comm _ _ hji]
        exact h3.2

theorem Heads.lex {g : Nat} {L : Act → Prop} (hsel : Region.noSelect ops = true) (hs : Region.sinkB .any ops n = true) (hc : Region.chainB .any ops n = true) (hn : n < ops.size) :
    ∀ (l : List Oper) (k : Nat) (done : Array Bool) (a : Act), (∀ j, j < l.length → l[j]? = ops[k + j]?) → k + l.length = n → HeadInv .any ops n done →
    Region.lexHead .any ops g l.length k done = true → wpQuiet P ops C L l a → Heads P ops C n (fun done' a' => Region.seqB .any ops g n done' = true ∧ L a') l.length done a := by
  intro l
  induction l with
  | nil =>
    intro k done a _ hk _ hB h
    obtain rfl : k = n := by simpa using hk
    exact ⟨by simpa [Region.lexHead] using hB, h⟩
  | cons o l ih =>
    intro k done a hl hk inv hB h
    have h0 : ops[k]? = some o := by simpa using (hl 0 (by simp)).symm
    simp only [List.length_cons, Region.lexHead, Bool.and_eq_true] at hB
    have hkn : k < n := by simp only [List.length_cons] at hk; omega
    have hr : k ∈ Region.ready .any ops done := by simpa using hB.1.1
    have hq : qOp P ops C k (wpQuiet P ops C L l) a := by unfold qOp; simp only [h0]; exact h
    obtain ⟨v, hy, hK⟩ := yieldsIn_of_qOp h0 hq
    exact Heads.first h0 hsel hs hc hn hkn (fun _ _ hL => seqB_ready hL.1) l.length done a inv (Region.free_spec h0 hB.1.2) hr hy
      (ih (k + 1) _ _ (fun j hj => by have := hl (j + 1) (by simp; omega); simpa [Nat.add_assoc, Nat.add_comm 1 j] using this) (by simp only [List.length_cons] at hk; omega) (inv.set hr hkn) hB.2 hK)
end

/-- A region that draws its order: its first n operations are quiet in the class, the others come behind them all, one by one. -/
theorem wp_region_class_tail {P : Program} {C : World → Prop} {id : Nat} {Q : Exit → Act → World → Prop} {a : Act} {w : World} {l : List Oper} (n : Nat) (hm : P.follows .mixedOrders = true) (hB : Region.lexTailB .any l.toArray n = true) (hC : C w.drew)
    (h : wpQuiet P l.toArray C (fun a' => ∀ w', C w' → wpList P l.toArray Q (l.drop n) a' w') (l.take n) a) : (Code.region id l.toArray true).wp P Q a w := by
  simp only [Region.lexTailB, Bool.and_eq_true, decide_eq_true_eq] at hB
  obtain ⟨⟨⟨⟨hsel, hn⟩, hs⟩, hc⟩, hlex⟩ := hB
  have hnl : n < l.length := by simpa using hn
  have htl : (l.take n).length = n := by simp; omega
  have hdl : (l.drop n).length = l.toArray.size - n := by simp
  have inv0 : HeadInv .any l.toArray n (Array.replicate l.toArray.size false) :=
    ⟨by simp, fun j oj _ hl => absurd hl (by rw [getD_replicate_false]; simp), fun t _ ht => getD_in (by simpa using ht) (getD_replicate_false _ _)⟩
  have H := Heads.lex (g := l.toArray.size - n) hsel hs hc hn (l.take n) 0 _ a (fun j hj => by rw [htl] at hj; simp [hj]) (by simpa using htl) inv0 (by rw [htl]; exact hlex) h
  have R := Heads.any (Q := Q) (g := l.toArray.size - n) (fun done a' hL w' hw' => by
    have := wpAny_of_seq (md := .any) (Q' := Q) (l.drop n) n done a' w' (fun j => by simp [List.getElem?_drop]) (by rw [hdl]; exact hL.1) (hL.2 w' hw')
    rwa [hdl] at this) _ _ _ H w.drew hC
  rw [htl, show n + (l.toArray.size - n) = l.toArray.size by omega] at R
  exact wp_region_any hm R

theorem wp_region_later_tail {P : Program} {id : Nat} {Q : Exit → Act → World → Prop} {a : Act} {w : World} {l : List Oper} (n : Nat) (hm : P.follows .mixedOrders = true) (hB : Region.lexTailB .any l.toArray n = true)
    (h : wpQuiet P l.toArray (fun w' => ∃ p : Later w, w' = p.val) (fun a' => ∀ w', (∃ p : Later w, w' = p.val) → wpList P l.toArray Q (l.drop n) a' w') (l.take n) a) : (Code.region id l.toArray true).wp P Q a w :=
  wp_region_class_tail n hm hB ⟨⟨w.drew, (Below.refl _ _).drew⟩, rfl⟩ h

end Sp
end Go.Proofs.Ytjbgojccfkmlnaa

namespace Go.Proofs
open Go.Shelf
def Try.sortSp_ren : Go.Shelf.Ren := ⟨fun | 6 => 69 | 15 => 76 | 14 => 75 | 28 => 87 | 29 => 88 | 20 => 79 | 21 => 80 | 22 => 81 | 23 => 82 | 24 => 83 | 25 => 84 | 26 => 85 | 27 => 86 | 46 => 89 | 47 => 90 | 48 => 91 | 49 => 92 | 50 => 93 | 57 => 94 | n => n, fun | 22 => 59 | 24 => 38 | 25 => 106 | 3 => 3 | 39 => 108 | 0 => 0 | 53 => 122 | 55 => 124 | 4 => 4 | 46 => 115 | 45 => 114 | 50 => 119 | 5 => 5 | 9 => 9 | 66 => 125 | 70 => 129 | 76 => 131 | 77 => 85 | n => n, fun | n => n⟩
theorem Try.sortSp : Go.Proofs.SlLaysF0.n6 Try.prog Try.sortSp_ren := {
  mixed := by kernel_rfl
  f6 := ⟨Try.f69.name, by decide, Try.func69.trans (congrArg some (by kernel_rfl))⟩
  f14 := ⟨Try.f75.name, by decide, Try.func75.trans (congrArg some (by kernel_rfl))⟩
  f15 := Try.func76.trans (congrArg some (by kernel_rfl))
  f20 := ⟨Try.f79.name, by decide, Try.func79.trans (congrArg some (by kernel_rfl))⟩
  f21 := ⟨Try.f80.name, by decide, Try.func80.trans (congrArg some (by kernel_rfl))⟩
  f22 := ⟨Try.f81.name, by decide, Try.func81.trans (congrArg some (by kernel_rfl))⟩
  f23 := ⟨Try.f82.name, by decide, Try.func82.trans (congrArg some (by kernel_rfl))⟩
  f24 := ⟨Try.f83.name, by decide, Try.func83.trans (congrArg some (by kernel_rfl))⟩
  f25 := ⟨Try.f84.name, by decide, Try.func84.trans (congrArg some (by kernel_rfl))⟩
  f26 := ⟨Try.f85.name, by decide, Try.func85.trans (congrArg some (by kernel_rfl))⟩
  f27 := ⟨Try.f86.name, by decide, Try.func86.trans (congrArg some (by kernel_rfl))⟩
  f28 := Try.func87.trans (congrArg some (by kernel_rfl))
  f29 := Try.func88.trans (congrArg some (by kernel_rfl))
  f46 := ⟨Try.f89.name, by decide, Try.func89.trans (congrArg some (by kernel_rfl))⟩
  f47 := Try.func90.trans (congrArg some (by kernel_rfl))
  f48 := Try.func91.trans (congrArg some (by kernel_rfl))
  f49 := ⟨Try.f92.name, by decide, Try.func92.trans (congrArg some (by kernel_rfl))⟩
  f50 := ⟨Try.f93.name, by decide, Try.func93.trans (congrArg some (by kernel_rfl))⟩
  f57 := ⟨Try.f94.name, by decide, Try.func94.trans (congrArg some (by kernel_rfl))⟩
  t0 := Try.underlying0
  a0 := Try.isAgg0
  z0 := Try.sizeOf0
  v0 := Try.zeroValue0
  t3 := Try.underlying3
  a3 := Try.isAgg3
  z3 := Try.sizeOf3
  v3 := Try.zeroValue3
  t4 := Try.underlying4
  a4 := Try.isAgg4
  z4 := Try.sizeOf4
  v4 := Try.zeroValue4
  t5 := Try.underlying5
  a5 := Try.isAgg5
  z5 := Try.sizeOf5
  v5 := Try.zeroValue5
  t9 := Try.underlying9
  a9 := Try.isAgg9
  z9 := Try.sizeOf9
  v9 := Try.zeroValue9
  t22 := Try.underlying59
  a22 := Try.isAgg59
  z22 := Try.sizeOf59
  v22 := Try.zeroValue59
  t25 := Try.underlying106
  a25 := Try.isAgg106
  z25 := Try.sizeOf106
  v25 := Try.zeroValue106
  t39 := Try.underlying108
  a39 := Try.isAgg108
  z39 := Try.sizeOf108
  v39 := Try.zeroValue108
  t45 := Try.underlying114
  a45 := Try.isAgg114
  z45 := Try.sizeOf114
  v45 := Try.zeroValue114
  t46 := Try.underlying115
  a46 := Try.isAgg115
  z46 := Try.sizeOf115
  v46 := Try.zeroValue115
  t50 := Try.underlying119
  a50 := Try.isAgg119
  z50 := Try.sizeOf119
  v50 := Try.zeroValue119
  t53 := Try.underlying122
  a53 := Try.isAgg122
  z53 := Try.sizeOf122
  v53 := Try.zeroValue122
  t55 := Try.underlying124
  a55 := Try.isAgg124
  z55 := Try.sizeOf124
  v55 := Try.zeroValue124
  t66 := Try.underlying125
  a66 := Try.isAgg125
  z66 := Try.sizeOf125
  v66 := Try.zeroValue125
  t70 := Try.underlying129
  a70 := Try.isAgg129
  z70 := Try.sizeOf129
  v70 := Try.zeroValue129
  t76 := Try.underlying131
  a76 := Try.isAgg131
  z76 := Try.sizeOf131
  v76 := Try.zeroValue131
  t77 := Try.underlying85
  a77 := Try.isAgg85
  z77 := Try.sizeOf85
  v77 := Try.zeroValue85 }
def Try.cmpInt_ren : Go.Shelf.Ren := ⟨fun | 5 => 71 | 7 => 77 | n => n, fun | 22 => 3 | 3 => 3 | 4 => 4 | n => n, fun | n => n⟩
theorem Try.cmpInt : Go.Proofs.SlLaysC2.n5 Try.prog Try.cmpInt_ren := {
  mixed := by kernel_rfl
  f5 := ⟨Try.f71.name, by decide, Try.func71.trans (congrArg some (by kernel_rfl))⟩
  f7 := ⟨Try.f77.name, by decide, Try.func77.trans (congrArg some (by kernel_rfl))⟩
  t3 := Try.underlying3
  a3 := Try.isAgg3
  z3 := Try.sizeOf3
  v3 := Try.zeroValue3
  t4 := Try.underlying4
  a4 := Try.isAgg4
  z4 := Try.sizeOf4
  v4 := Try.zeroValue4
  t22 := Try.underlying3
  a22 := Try.isAgg3
  z22 := Try.sizeOf3
  v22 := Try.zeroValue3 }
end Go.Proofs

namespace Go.Proofs.Ytjbgojccfkmlnaa
namespace Sp
/-- Each begins no later than those behind it. -/
def Rises (xs : List (Int × Int)) : Prop := ∀ i j, i < j → j < xs.length → (nth xs i).1 ≤ (nth xs j).1
/-- What is joined when k spans are through. -/
structure JO (xs : List (Int × Int)) (k : Nat) (ys : List (Int × Int)) : Prop where
  set : setB ys = true
  mem : ∀ i, wi ys i = true ↔ Upto xs k i
  starts : k < xs.length → ∀ j, j < ys.length → (nth ys j).1 ≤ (nth xs k).1
theorem JO.start (xs : List (Int × Int)) : JO xs 0 [] := ⟨setB_nil, fun i => ⟨fun h => by simp [wi] at h, fun h => absurd h upto_zero⟩, fun _ j hj => by simp at hj⟩
theorem setB_left {xs ys : List (Int × Int)} (h : setB (xs ++ ys) = true) : setB xs = true := setB_true fun k hk => by
  rw [← okAt_left (ys := ys) hk]; exact setB_at h k (by simp; omega)
theorem setB_lastMay {xs : List (Int × Int)} {x : Int × Int} (h : setB (xs ++ [x]) = true) : mayB x = true := by
  have := okAt_may (setB_at h xs.length (by simp)); rwa [nth_last] at this
theorem setB_lastEnd {xs : List (Int × Int)} {x : Int × Int} (h : setB (xs ++ [x]) = true) : EndLe xs (x.1 - 1) := fun k hk => by
  have := set_lt' h (j := k) (k := xs.length) hk (by simp)
  rw [nth_last, nth_left hk] at this
  omega
theorem setB_endLe {xs : List (Int × Int)} {x : Int × Int} (h : setB (xs ++ [x]) = true) : EndLe (xs ++ [x]) (x.1 + x.2) := by
  have := mayB_iff.1 (setB_lastMay h)
  exact ((setB_lastEnd h).mono (by omega)).snoc (Int.le_refl _)
theorem JO.first {xs : List (Int × Int)} {k : Nat} (h : JO xs k []) (ha : allB xs = true) (hr : Rises xs) (hk : k < xs.length) : JO xs (k + 1) [nth xs k] :=
  ⟨setB_one (allB_at ha hk), fun i => by
    rw [upto_succ, ← h.mem]
    simp [wi, Has1], fun hk' j hj => by
    have : j = 0 := by simpa using hj
    subst this
    exact hr k (k + 1) (by omega) hk'⟩
theorem JO.new {xs zs : List (Int × Int)} {x : Int × Int} {k : Nat} (h : JO xs k (zs ++ [x])) (ha : allB xs = true) (hr : Rises xs) (hk : k < xs.length) (hlt : x.1 + x.2 < (nth xs k).1) : JO xs (k + 1) (zs ++ [x] ++ [nth xs k]) :=
  ⟨setB_snoc h.set (allB_at ha hk) (setB_endLe h.set) hlt, fun i => by rw [wi_snoc, h.mem, upto_succ], fun hk' j hj => by
    have hrk := hr k (k + 1) (by omega) hk'
    rcases Nat.lt_or_ge j (zs ++ [x]).length with h1 | h1
    · rw [nth_left h1]; have := h.starts hk j h1; omega
    · obtain rfl : j = (zs ++ [x]).length := by simp only [List.length_append, List.length_cons, List.length_nil] at *; omega
      rw [nth_last]; exact hrk⟩
theorem JO.wide {xs zs : List (Int × Int)} {x : Int × Int} {k : Nat} (h : JO xs k (zs ++ [x])) (ha : allB xs = true) (hr : Rises xs) (hk : k < xs.length) (hge : ¬ x.1 + x.2 < (nth xs k).1) :
    JO xs (k + 1) (zs ++ [(x.1, max (x.1 + x.2) ((nth xs k).1 + (nth xs k).2) - x.1)]) := by
  have mx := mayB_iff.1 (setB_lastMay h.set)
  have ms := mayB_iff.1 (allB_at ha hk)
  have hst := h.starts hk zs.length (by simp)
  rw [nth_last] at hst
  refine ⟨setB_snoc (setB_left h.set) (mayB_iff.2 ⟨by simp; omega, by simp; omega, by simp; omega⟩) (setB_lastEnd h.set) (by simp; omega), fun i => ?_, fun hk' j hj => ?_⟩
  · rw [upto_succ, ← h.mem, wi_snoc, wi_snoc]
    unfold Has1
    simp only
    constructor
    · rintro (h1 | h1)
      · exact .inl (.inl h1)
      · rcases Int.lt_or_le i (x.1 + x.2) with h2 | h2
        · exact .inl (.inr ⟨h1.1, h2⟩)
        · exact .inr (by omega)
    · rintro ((h1 | h1) | h1)
      · exact .inl h1
      · exact .inr (by omega)
      · exact .inr (by omega)
  · have hrk := hr k (k + 1) (by omega) hk'
    rcases Nat.lt_or_ge j zs.length with h1 | h1
    · rw [nth_left h1]; have := h.starts hk j (by simp; omega); rw [nth_left h1] at this; omega
    · obtain rfl : j = zs.length := by simp at hj; omega
      rw [nth_last]; simp only; omega
theorem wi_perm {xs ys : List (Int × Int)} (h : ys.Perm xs) (i : Int) : wi ys i = wi xs i := by
  unfold wi
  rw [Bool.eq_iff_iff, List.any_eq_true, List.any_eq_true]
  exact ⟨fun ⟨x, hx, hh⟩ => ⟨x, h.mem_iff.1 hx, hh⟩, fun ⟨x, hx, hh⟩ => ⟨x, h.mem_iff.2 hx, hh⟩⟩
theorem allB_perm {xs ys : List (Int × Int)} (h : ys.Perm xs) (ha : allB xs = true) : allB ys = true := by
  unfold allB at *
  rw [List.all_eq_true] at *
  exact fun x hx => ha x (h.mem_iff.1 hx)
end Sp
end Go.Proofs.Ytjbgojccfkmlnaa

namespace Go.Proofs.Ytjbgojccfkmlnaa
open Go.RowKit
namespace Sp

open Go.Sort (flatK get_flatK size_flatK grow grow_grow alloc_eq_grow putRowK putRow putCells mapBlock onCells HoldsK SWO PermIn SortedIn heap_grow_old)
/-- A span's two cells. -/
def encSp (x : Int × Int) : List Value := [.int .i64 x.1, .int .i64 x.2]
theorem enc2_flat (d : Array (Int × Int)) (t : Nat) (h : t < d.size * 2) : (enc2 d.toList)[t]? = some (flatK encSp 2 d)[t]! := by
  rw [get_flatK _ _ _ _ h]
  have hk : t / 2 < d.toList.length := by simp; omega
  have hn : nth d.toList (t / 2) = d[t / 2]! := by
    rw [nth_eq hk, getElem!_pos d (t / 2) (by simpa using hk)]
    simp
  rcases Nat.mod_two_eq_zero_or_one t with h0 | h0
  · have := enc2_get0 d.toList (t / 2) hk
    rw [show t / 2 * 2 = t by omega] at this
    rw [this, hn, h0]; rfl
  · have := enc2_get1 d.toList (t / 2) hk
    rw [show t / 2 * 2 + 1 = t by omega] at this
    rw [this, hn, h0]; rfl

set_option maxHeartbeats 1000000 in
theorem closure35 (x y : Int × Int) (W : World) : Calls Try.prog 70 #[.agg #[.int .i64 x.1, .int .i64 x.2], .agg #[.int .i64 y.1, .int .i64 y.2]] W fun e w' => e = .returned (.int .i64 (Lib.compareInt x.1 y.1)) ∧ ∃ q os', w' = grow (W.drewN q) os' := by
  have hcon := fun W' => AnyG.cmp_Compare_int Try.cmpInt x.1 y.1 W'
  change ∀ W', Calls Try.prog 71 _ _ _ at hcon
  generalize Lib.compareInt x.1 y.1 = r at hcon ⊢
  go_enter Try.func70, Try.ntmps70
  go_wp2_with (go_at_call 71; refine (hcon _).mono ?_; rintro e w' ⟨rfl, rfl⟩)
  go_ret
  exact ⟨rfl, 0, _, by rw [alloc_eq_grow, alloc_eq_grow, grow_grow]; rfl⟩
theorem cmpLays35 (blk off size : Nat) (w : World) : CmpLays Try.prog 70 #[] encSp 2 (fun x y => Lib.compareInt x.1 y.1) blk off size w := fun _ _ _ _ x y => closure35 x y _
theorem ltSp (x y : Int × Int) : ltOf (fun x y : Int × Int => Lib.compareInt x.1 y.1) x y = decide (x.1 < y.1) := by
  unfold ltOf Lib.compareInt
  by_cases h1 : x.1 < y.1
  · simp [h1]
  · by_cases h2 : y.1 < x.1 <;> simp [h1, h2]
theorem swoSp : SWO (ltOf fun x y : Int × Int => Lib.compareInt x.1 y.1) := {
  irrefl := fun x => by rw [ltSp]; simp
  trans := fun x y z h1 h2 => by rw [ltSp] at *; simp at *; omega
  ntrans := fun x y z h1 h2 => by rw [ltSp] at *; simp at *; omega }
def SortPost (v : Value) (xs : List (Int × Int)) (w : World) (e : Ending) (w' : World) : Prop := e = .returned (.tuple #[]) ∧ ∃ ys : List (Int × Int), ys.Perm xs ∧ Rises ys ∧ Own w' v ys ∧ w.grownBy w' v.ownBlock

theorem sort_any (v : Value) (xs : List (Int × Int)) (w : World) (h : Own w v xs) (hl : xs.length ≤ 1000000) :
    Calls Try.prog 69 #[v, .func (.func 70) #[] #[]] w (SortPost v xs w) := by
  rcases id h with ⟨hx, ⟨hv, hn⟩ | ⟨g, cap, cur, hv, _, hg, hnc, hcm, hcs, htake⟩⟩
  · have hxs : xs = [] := List.eq_nil_of_length_eq_zero hn
    have hc := AnyF.slices_SortFunc_none Try.sortSp none 0 (.func (.func 70) #[] #[]) w
    change Calls Try.prog 69 _ _ _ at hc
    rw [hv]
    refine hc.mono fun e w' ⟨he, hw⟩ => ⟨he, [], by rw [hxs], fun i j _ hj => by simp at hj, ?_, ?_⟩
    · rw [hw]; exact Own.nil w
    · rw [hw]; exact ⟨rfl, rfl, rfl, Nat.le_refl _, fun _ _ _ => rfl⟩
  · have eg : ∀ args w, (callFunc 70 args).run Try.prog w = .ok (.enter 70 args) w := enters_of Try.func70 (by kernel_rfl) rfl
    have hH : HoldsK encSp 2 w g 0 xs.toArray := by
      intro t ht
      rw [size_flatK] at ht
      rw [hv] at h
      have c := World.ownsRow.cellAt h t (by simpa using ht)
      have f := World.ownsRow.frozenAt h t
      rw [Nat.zero_add]
      refine ⟨?_, f⟩
      rw [c]
      have := enc2_flat xs.toArray t ht
      simpa using this
    have hcon := AnyQ.slices_SortFunc Try.sortSp 2 Try.isAgg38 Try.sizeOf38 encSp (fun _ => rfl) (fun x v hv => by simp [encSp] at hv; rcases hv with rfl | rfl <;> rfl) (fun x y => Lib.compareInt x.1 y.1) swoSp 70 #[] g 0 cap xs.toArray w eg (cmpLays35 g 0 _ w) hH (Array.getElem?_eq_some_iff.1 hg).1 (by simp; omega)
    change Calls Try.prog 69 _ _ _ at hcon
    rw [hv]
    rw [List.size_toArray] at hcon
    refine hcon.mono fun e w' ⟨he, d', m, os, hp, hs, hw⟩ => ⟨he, d'.toList, ?_, ?_, ?_, ?_⟩
    · have h3 := hp.2.2
      have e1 : d'.extract 0 xs.length = d' := by rw [show xs.length = d'.size by simpa using hp.1.symm]; simp
      have e2 : xs.toArray.extract 0 xs.length = xs.toArray := by simp
      rw [e1, e2] at h3
      simpa using h3
    · intro i j hij hj
      have hsz : d'.size = xs.length := by simpa using hp.1
      have h1 := hs i j (Nat.zero_le _) hij (by simp at hj; omega)
      rw [ltSp] at h1
      simp only [Array.length_toList] at hj
      rw [nth_eq (by simp; omega), nth_eq (by simp; omega)]
      rw [getElem!_pos d' j hj, getElem!_pos d' i (by omega)] at h1
      simpa using h1
    · have hsz : d'.size = xs.length := by simpa using hp.1
      have hgl := (Array.getElem?_eq_some_iff.1 hg).1
      refine ⟨by rw [enc2_length], .inr ⟨g, cap, putCells id 0 (flatK encSp 2 d') cur, ?_, Nat.zero_le _, ?_, by simp [hsz]; exact hnc, hcm, by simp [putCells, hcs], ?_⟩⟩
      · simp [hsz]
      · rw [hw]
        show (grow (putRow id (Sort.ahead w m) g 0 (flatK encSp 2 d')) os).heap[g]? = _
        rw [heap_grow_old _ _ (by simpa using hgl)]
        simp [putRow, mapBlock, Sort.ahead, Array.getElem?_modify, hg, onCells]
      · apply List.ext_getElem?
        intro t
        by_cases ht : t < d'.size * 2
        · have hcur : t < cur.size := by rw [hcs]; omega
          rw [List.getElem?_take_of_lt (by simpa using ht), enc2_flat d' t ht]
          simp [putCells, hcur, ht]
        · rw [List.getElem?_eq_none (by simp; omega), List.getElem?_eq_none (by rw [enc2_length]; simp; omega)]
    · rw [hw]
      refine ⟨rfl, rfl, rfl, ?_, fun k hk hne => ?_⟩
      · show _ ≤ (grow (putRow id (Sort.ahead w m) g 0 (flatK encSp 2 d')) os).heap.size
        simp [grow, putRow, mapBlock, Sort.ahead]
      · show (grow (putRow id (Sort.ahead w m) g 0 (flatK encSp 2 d')) os).heap[k]? = _
        rw [heap_grow_old _ _ (by simpa [putRow, mapBlock, Sort.ahead] using hk)]
        have hgk : g ≠ k := fun e => hne (by rw [e]; rfl)
        simp [putRow, mapBlock, Sort.ahead, Array.getElem?_modify, hgk]

end Sp
end Go.Proofs.Ytjbgojccfkmlnaa

namespace Go.Proofs.Ytjbgojccfkmlnaa
open Go.RowKit
namespace Sp

/-- A row of the call's own. -/
def RowPost (xs : List (Int × Int)) (w : World) (e : Ending) (w' : World) : Prop := ∃ v, e = .returned v ∧ Own w' v xs ∧ From w.heap.size v ∧ Below w.heap.size w w'
theorem Sl.isNil {w : World} {n : Nat} {xs : List (Int × Int)} (h : Sl w none n xs) : n = 0 ∧ xs = [] := by
  have hl := h.len
  rcases Nat.eq_zero_or_pos xs.length with h0 | h0
  · exact ⟨by omega, List.eq_nil_of_length_eq_zero h0⟩
  · obtain ⟨b, off, hh, _⟩ := h.cells 0 h0
    simp at hh
theorem Sl.news {w : World} {ad : Addr} {n : Nat} {xs : List (Int × Int)} (h : Sl w (some ad) n xs) : ∀ j u, (enc2 xs)[j]? = some u → w.cell? (ad.add j) = some u := by
  intro j u hj
  have hl : j < xs.length * 2 := by
    have := (List.getElem?_eq_some_iff.1 hj).1
    rwa [enc2_length] at this
  obtain ⟨b, off, hh, _, c0, c1⟩ := h.cells (j / 2) (by omega)
  simp only [Option.some.injEq] at hh
  subst hh
  rw [Addr.add_lit]
  rcases Nat.mod_two_eq_zero_or_one j with h0 | h0
  · have := enc2_get0 xs (j / 2) (by omega)
    rw [show j / 2 * 2 = j by omega] at this c0
    rw [this] at hj
    rw [c0]; exact hj
  · have := enc2_get1 xs (j / 2) (by omega)
    rw [show j / 2 * 2 + 1 = j by omega] at this
    rw [show off + j / 2 * 2 + 1 = off + j by omega] at c1
    rw [this] at hj
    rw [c1]; exact hj

set_option maxHeartbeats 1000000 in
theorem clone_any (a : Option Addr) (n cap : Nat) (xs : List (Int × Int)) (w : World) (h : Sl w a n xs) (hn : xs.length ≤ 1000000) :
    Calls Try.prog 68 #[.slice a n cap] w (RowPost xs w) := by
  have heq := fun W => Lib.run_eql_slice_nil (P := Try.prog) W 59 38 a n cap 0 0 Try.underlying59
  cases a with
  | none =>
    obtain ⟨rfl, rfl⟩ := h.isNil
    go_enter Try.func68, Try.ntmps68
    go_wp2
    go_ret
    exact ⟨_, rfl, Own.nil w, From.nil _ _ _, Below.refl _ _⟩
  | some ad =>
    obtain ⟨i0, hi, hz0, hz1, hz2⟩ := info_parts info27
    have HL := hide h.len
    have hb0 := below_alloc w (.cells #[] 38)
    have hown : (w.alloc (.cells #[] 38)).ownsRow 0 38 2 (.slice (some ⟨w.heap.size, 0, none⟩) 0 0) 0 [] := World.ownsRow_made w #[] 0 (Nat.zero_le _) (Nat.zero_le _) rfl
    have hnews := (h.later hb0).news
    go_enter Try.func68, Try.ntmps68
    go_wp2_with (at_builtin; refine wpList_append_moved rfl (.tmp 5) (.tmp 6) 59 rfl 38 i0 _ 2 16 Try.underlying59 hi hz0 hz1 hz2 rfl (by decide) _ 0 [] rfl hown ad n cap (enc2 xs) rfl (by rw [enc2_length, HL.out]) hnews (enc2_oneCell xs) (by rw [HL.out]; unfold maxLen; omega) (by rw [HL.out]; omega) ?_; intro v' w' h1 h2 h3)
    go_ret
    have hfr : From w.heap.size (.slice (some ⟨w.heap.size, 0, none⟩) 0 0) := fun k hk => by simp [Value.ownBlock] at hk; omega
    refine ⟨v', rfl, ?_, ?_, ?_⟩
    · rw [HL.out] at h1
      simpa [Own] using h1
    · exact hfr.moved h3 (by simp)
    · exact below_grown hb0 h2 (by simp) hfr

theorem enc2_set : ∀ (zs : List (Int × Int)) (x : Int × Int) (u : Int), (enc2 (zs ++ [x])).set (zs.length * 2 + 1) (.int .i64 u) = enc2 (zs ++ [(x.1, u)])
  | [], x, u => rfl
  | z :: r, x, u => by
    have := enc2_set r x u
    rw [List.length_cons, show (r.length + 1) * 2 + 1 = r.length * 2 + 1 + 2 by omega]
    simp [enc2, this]
/-- The last span's length is set. -/
theorem Own.setLast {w : World} {g cap : Nat} {zs : List (Int × Int)} {x : Int × Int} (u : Int) (h : Own w (.slice (some ⟨g, 0, none⟩) (zs.length + 1) cap) (zs ++ [x])) :
    Own (w.setCell ⟨g, zs.length * 2 + 1, none⟩ (.int .i64 u)) (.slice (some ⟨g, 0, none⟩) (zs.length + 1) cap) (zs ++ [(x.1, u)]) ∧ w.grownBy (w.setCell ⟨g, zs.length * 2 + 1, none⟩ (.int .i64 u)) (some g) := by
  have e1 : (zs ++ [x]).length = zs.length + 1 := by simp
  unfold Own at *
  rw [e1] at h
  have := h.stored (zs.length * 2 + 1) (.int .i64 u)
  rw [enc2_set] at this
  simpa using this
/-- A slice that owns a span more than zs has a row. -/
theorem Own.snocForm {w : World} {v : Value} {zs : List (Int × Int)} {x : Int × Int} (h : Own w v (zs ++ [x])) : ∃ g cap, v = .slice (some ⟨g, 0, none⟩) (zs.length + 1) cap ∧ g < w.heap.size ∧ w.cell? ⟨g, zs.length * 2, none⟩ = some (.int .i64 x.1) ∧ w.cell? ⟨g, zs.length * 2 + 1, none⟩ = some (.int .i64 x.2) ∧ w.frozen? ⟨g, zs.length * 2 + 1, none⟩ = false := by
  rcases id h with ⟨hx, ⟨hv, hn⟩ | ⟨g, cap, cur, hv, _, hg, hnc, hcm, hcs, htake⟩⟩
  · simp at hn
  · have e1 : (zs ++ [x]).length = zs.length + 1 := by simp
    rw [e1] at hv
    refine ⟨g, cap, hv, (Array.getElem?_eq_some_iff.1 hg).1, ?_, ?_, ?_⟩
    all_goals
      unfold Own at h
      rw [e1, hv] at h
    · rw [h.cellAt _ (by omega), enc2_get0 _ _ (by simp), nth_last]
    · rw [h.cellAt _ (by omega), enc2_get1 _ _ (by simp), nth_last]
    · exact h.frozenAt _

set_option maxRecDepth 20000 in
set_option maxHeartbeats 2000000 in
theorem merge_any (a : Option Addr) (n cap : Nat) (xs : List (Int × Int)) (w : World) (h : Sl w a n xs) (hr : Rises xs) (ha : allB xs = true) :
    Calls Try.prog 72 #[.slice a n cap] w fun e w' => ∃ ys, JO xs xs.length ys ∧ RowPost ys w e w' := by
  have hn := h.most
  go_enter Try.func72, Try.ntmps72
  go_wp2
  go_loopw [3, 9] (fun v i wr => ∃ (k : Nat) (ys : List (Int × Int)), k ≤ n ∧ i = .int .i64 k ∧ Own wr v ys ∧ From w.heap.size v ∧ JO xs k ys ∧ Below w.heap.size w wr) (fun _ i _ => n - (intOf i).toNat)
  case atStart => exact ⟨0, [], Nat.zero_le _, rfl, Own.nil _, From.nil _ _ _, JO.start xs, Below.refl _ _⟩
  case round =>
    obtain ⟨k, ys, hk, rfl, hown, hfrom, hjo, hbr⟩ := hrel
    by_cases hlt : k < n
    · have HK := hide (show k < xs.length by have := h.len; omega)
      obtain ⟨ba, off, rfl, hbl, c0, c1⟩ := (h.later hbr).cells k HK.out
      have hms := allB_at ha HK.out
      have hlen := set_length hjo.set
      obtain ⟨i0, hi, hz0, hz1, hz2⟩ := info_parts info27
      have hb5 := below_alloc wr (.cells #[.int .i64 (nth xs k).1, .int .i64 (nth xs k).2] 38)
      rcases List.eq_nil_or_concat ys with rfl | ⟨zs, x, hzs⟩
      · have R1 := hide (hjo.first ha hr HK.out)
        obtain ⟨a', cp, rfl, _⟩ := hown.sl (fun x hx => by simp at hx)
        simp only [List.length_nil] at *
        generalize nth xs k = s at *
        have hne := later_ne (wr.alloc (.cells #[.int .i64 s.1, .int .i64 s.2] 38))
        have C0 : ∀ p : Later (wr.alloc (.cells #[.int .i64 s.1, .int .i64 s.2] 38)), p.val.cell? ⟨wr.heap.size, 0, none⟩ = some (.int .i64 s.1) := fun p => box0 p.below
        have C1 : ∀ p : Later (wr.alloc (.cells #[.int .i64 s.1, .int .i64 s.2] 38)), p.val.cell? ⟨wr.heap.size, 1, none⟩ = some (.int .i64 s.2) := fun p => box1 p.below
        clear h hjo
        go_wp2
        refine wp_region_later (by kernel_rfl) (by kernel_rfl) ?_
        (repeat (first | go_big_quiet_skip | (go_big_quiet_want; go_big_quiet_op; go_big_quiet_on)))
        refine wpQuiet_nil ?_
        rintro _ ⟨p, rfl⟩
        have hbp := hb5.trans (p.below.mono hb5.size)
        have c0p := C0 p
        have c1p := C1 p
        have hkp : ∀ o, (p.val.alloc o).ownsRow 0 38 2 (.slice a' 0 cp) 0 [] := fun o => (hown.later hbp).later (below_alloc _ _)
        clear C0 C1 hne
        go_wp2_with (at_builtin; refine wpList_append_moved rfl (.tmp 28) (.tmp 30) 59 rfl 38 i0 _ 2 16 Try.underlying59 hi hz0 hz1 hz2 rfl (by decide) _ _ _ rfl (hkp _) ⟨p.val.heap.size, 0, none⟩ 1 1 [.int .i64 s.1, .int .i64 s.2] rfl rfl (cells_two (by simp) (by simp)) (enc2_oneCell [s]) (by unfold maxLen; omega) (by omega) ?_; intro v' w' h1 h2 h3)
        have hbw := hbr.trans (hbp.mono hbr.size)
        have hpw : w.heap.size ≤ p.val.heap.size := hbw.size
        have R2 := hide (below_grown (hbw.trans ((below_alloc _ _).mono hpw)) h2 (by simp; omega) hfrom)
        have R3 := hide (hfrom.moved h3 (by simp; omega))
        have R4 : Hid (Own w' v' [s]) := h1
        clear h1 h2 h3 hkp c0p c1p
        go_wp2
        go_roundw
        case rel => exact ⟨k + 1, [s], by omega, by go_num, R4.out, R3.out, R1.out, R2.out⟩
        case measure => simp [intOf]; omega
      · rw [List.concat_eq_append] at hzs
        subst hzs
        obtain ⟨g, cp, rfl, hgl, e0, e1, ef⟩ := hown.snocForm
        have hmx := setB_lastMay hjo.set
        have hgs : g ≠ wr.heap.size := by omega
        have hlz : zs.length + 1 ≤ 65536 := by simpa using hlen
        have hd0 : decide ((zs.length : Int) < 0) = false := by simp
        clear hlen
        by_cases hcmp : x.1 + x.2 < (nth xs k).1
        · have R1 := hide (hjo.new ha hr HK.out hcmp)
          clear hjo h
          generalize nth xs k = s at *
          have bx := mayB_iff.1 hmx
          have bs := mayB_iff.1 hms
          have hne := later_ne (wr.alloc (.cells #[.int .i64 s.1, .int .i64 s.2] 38))
          have C0 : ∀ p : Later (wr.alloc (.cells #[.int .i64 s.1, .int .i64 s.2] 38)), p.val.cell? ⟨wr.heap.size, 0, none⟩ = some (.int .i64 s.1) := fun p => box0 p.below
          have C1 : ∀ p : Later (wr.alloc (.cells #[.int .i64 s.1, .int .i64 s.2] 38)), p.val.cell? ⟨wr.heap.size, 1, none⟩ = some (.int .i64 s.2) := fun p => box1 p.below
          have D0 : ∀ p : Later (wr.alloc (.cells #[.int .i64 s.1, .int .i64 s.2] 38)), p.val.cell? ⟨g, zs.length * 2, none⟩ = some (.int .i64 x.1) := fun p => (p.below.cell (by simp; omega)).trans ((hb5.cell (by simpa using hgl)).trans e0)
          have D1 : ∀ p : Later (wr.alloc (.cells #[.int .i64 s.1, .int .i64 s.2] 38)), p.val.cell? ⟨g, zs.length * 2 + 1, none⟩ = some (.int .i64 x.2) := fun p => (p.below.cell (by simp; omega)).trans ((hb5.cell (by simpa using hgl)).trans e1)
          have E1 : ∀ p : Later (wr.alloc (.cells #[.int .i64 s.1, .int .i64 s.2] 38)), _ := fun p => end_b x p.val hmx
          go_wp2
          refine wp_region_later (by kernel_rfl) (by kernel_rfl) ?_
          (repeat (first | go_big_quiet_skip | (go_big_quiet_want; go_big_quiet_op; go_big_quiet_on)))
          (go_big_quiet_want; go_big_quiet_op; apply Exists.intro; refine ⟨fun p => ?_, ?_⟩; (· exact later_of (E1 p)); go_big_quiet_on)
          (repeat (first | go_big_quiet_skip | (go_big_quiet_want; go_big_quiet_op; go_big_quiet_on)))
          refine wpQuiet_nil ?_
          rintro _ ⟨p, rfl⟩
          have hbp := hb5.trans (p.below.mono hb5.size)
          have c0p := C0 p
          have c1p := C1 p
          have hkp : ∀ o, (p.val.alloc o).ownsRow 0 38 2 (.slice (some ⟨g, 0, none⟩) (zs.length + 1) cp) (zs.length + 1) (enc2 (zs ++ [x])) := fun o => by
            have := (hown.later hbp).later (below_alloc p.val o)
            simpa [Own] using this
          clear C0 C1 D0 D1 E1 hne
          go_wp2_with (at_builtin; refine wpList_append_moved rfl (.tmp 28) (.tmp 30) 59 rfl 38 i0 _ 2 16 Try.underlying59 hi hz0 hz1 hz2 rfl (by decide) _ _ _ rfl (hkp _) ⟨p.val.heap.size, 0, none⟩ 1 1 [.int .i64 s.1, .int .i64 s.2] rfl rfl (cells_two (by simp) (by simp)) (enc2_oneCell [s]) (by unfold maxLen; omega) (by omega) ?_; intro v' w' h1 h2 h3)
          have hbw := hbr.trans (hbp.mono hbr.size)
          have hpw : w.heap.size ≤ p.val.heap.size := hbw.size
          have R2 := hide (below_grown (hbw.trans ((below_alloc _ _).mono hpw)) h2 (by simp; omega) hfrom)
          have R3 := hide (hfrom.moved h3 (by simp; omega))
          have R4 : Hid (Own w' v' (zs ++ [x] ++ [s])) := by
            show Own w' v' (zs ++ [x] ++ [s])
            unfold Own
            rw [enc2_append, show (zs ++ [x] ++ [s]).length = zs.length + 1 + 1 by simp]
            exact h1
          clear h1 h2 h3 hkp c0p c1p
          go_wp2
          go_roundw
          case rel => exact ⟨k + 1, _, by omega, by go_num, R4.out, R3.out, R1.out, R2.out⟩
          case measure => simp [intOf]; omega
        · have R1 := hide (hjo.wide ha hr HK.out hcmp)
          clear hjo h
          generalize nth xs k = s at *
          have bx := mayB_iff.1 hmx
          have bs := mayB_iff.1 hms
          obtain ⟨A, hA1, hA2⟩ : ∃ A, (if x.1 + x.2 < s.1 + s.2 then s.1 + s.2 else x.1 + x.2) = A ∧ A = max (x.1 + x.2) (s.1 + s.2) := ⟨_, rfl, by split <;> omega⟩
          have bA : x.1 ≤ A ∧ A ≤ 65536 := by omega
          have R1' : Hid (JO xs (k + 1) (zs ++ [(x.1, A - x.1)])) := by rw [hA2]; exact R1
          have hA3 := hA2.symm
          clear hA2 R1
          have hne := later_ne (wr.alloc (.cells #[.int .i64 s.1, .int .i64 s.2] 38))
          have C0 : ∀ p : Later (wr.alloc (.cells #[.int .i64 s.1, .int .i64 s.2] 38)), p.val.cell? ⟨wr.heap.size, 0, none⟩ = some (.int .i64 s.1) := fun p => box0 p.below
          have C1 : ∀ p : Later (wr.alloc (.cells #[.int .i64 s.1, .int .i64 s.2] 38)), p.val.cell? ⟨wr.heap.size, 1, none⟩ = some (.int .i64 s.2) := fun p => box1 p.below
          have D0 : ∀ p : Later (wr.alloc (.cells #[.int .i64 s.1, .int .i64 s.2] 38)), p.val.cell? ⟨g, zs.length * 2, none⟩ = some (.int .i64 x.1) := fun p => (p.below.cell (by simp; omega)).trans ((hb5.cell (by simpa using hgl)).trans e0)
          have D1 : ∀ p : Later (wr.alloc (.cells #[.int .i64 s.1, .int .i64 s.2] 38)), p.val.cell? ⟨g, zs.length * 2 + 1, none⟩ = some (.int .i64 x.2) := fun p => (p.below.cell (by simp; omega)).trans ((hb5.cell (by simpa using hgl)).trans e1)
          have E1 : ∀ p : Later (wr.alloc (.cells #[.int .i64 s.1, .int .i64 s.2] 38)), _ := fun p => end_b x p.val hmx
          go_wp2
          refine wp_region_later (by kernel_rfl) (by kernel_rfl) ?_
          (repeat (first | go_big_quiet_skip | (go_big_quiet_want; go_big_quiet_op; go_big_quiet_on)))
          (go_big_quiet_want; go_big_quiet_op; apply Exists.intro; refine ⟨fun p => ?_, ?_⟩; (· exact later_of (E1 p)); go_big_quiet_on)
          (repeat (first | go_big_quiet_skip | (go_big_quiet_want; go_big_quiet_op; go_big_quiet_on)))
          refine wpQuiet_nil ?_
          rintro _ ⟨p, rfl⟩
          have hbp := hb5.trans (p.below.mono hb5.size)
          have hgp : g < p.val.heap.size := by have := p.below.size; simp at this; omega
          have hbxp := later_box p
          have hne2 := later_ne p.val
          have C02 : ∀ q : Later p.val, q.val.cell? ⟨wr.heap.size, 0, none⟩ = some (.int .i64 s.1) := fun q => (q.below.cell hbxp).trans (C0 p)
          have C12 : ∀ q : Later p.val, q.val.cell? ⟨wr.heap.size, 1, none⟩ = some (.int .i64 s.2) := fun q => (q.below.cell hbxp).trans (C1 p)
          have D02 : ∀ q : Later p.val, q.val.cell? ⟨g, zs.length * 2, none⟩ = some (.int .i64 x.1) := fun q => (q.below.cell hgp).trans (D0 p)
          have D12 : ∀ q : Later p.val, q.val.cell? ⟨g, zs.length * 2 + 1, none⟩ = some (.int .i64 x.2) := fun q => (q.below.cell hgp).trans (D1 p)
          have E12 : ∀ q : Later p.val, _ := fun q => end_b x q.val hmx
          have E22 : ∀ q : Later p.val, _ := fun q => end_b s q.val hms
          clear C0 C1 D0 D1 E1 hne
          go_wp2
          refine wp_region_later_tail 18 (by kernel_rfl) (by kernel_rfl) ?_
          simp only [List.take, List.drop]
          (repeat (first | go_big_quiet_skip | (go_big_quiet_want; go_big_quiet_op; go_big_quiet_on)))
          (go_big_quiet_want; go_big_quiet_op; apply Exists.intro; refine ⟨fun p => ?_, ?_⟩; (· exact later_of (E12 p)); go_big_quiet_on)
          (repeat (first | go_big_quiet_skip | (go_big_quiet_want; go_big_quiet_op; go_big_quiet_on)))
          (go_big_quiet_want; go_big_quiet_op; apply Exists.intro; refine ⟨fun p => ?_, ?_⟩; (· exact later_of (E22 p)); go_big_quiet_on)
          (repeat (first | go_big_quiet_skip | (go_big_quiet_want; go_big_quiet_op; go_big_quiet_on)))
          refine wpQuiet_nil ?_
          rintro _ ⟨q, rfl⟩
          have hbq := hbp.trans (q.below.mono hbp.size)
          have efq : q.val.frozen? ⟨g, zs.length * 2 + 1, none⟩ = false := (hbq.frozen hgl).trans ef
          have d1q := D12 q
          have hownq := (hown.later hbq).setLast (A - x.1)
          have hbw := hbr.trans (hbq.mono hbr.size)
          have R2 := hide (below_grown (v := .slice (some ⟨g, 0, none⟩) (zs.length + 1) cp) hbw hownq.2 hbw.size hfrom)
          have R4 := hide hownq.1
          clear C02 C12 D02 D12 E12 E22 hne2 hownq
          go_wp2
          go_roundw
          case rel => exact ⟨k + 1, _, by omega, by go_num, R4.out, hfrom, R1'.out, R2.out⟩
          case measure => simp [intOf]; omega
    · have R1 := hide (show JO xs xs.length ys by have := h.len; rwa [show xs.length = k by omega])
      go_wp2
      go_ret
      exact ⟨ys, R1.out, _, rfl, hown, hfrom, hbr⟩

end Sp
end Go.Proofs.Ytjbgojccfkmlnaa

namespace Go.Proofs.Ytjbgojccfkmlnaa
open Go.RowKit
namespace Sp

/-- What Meet, Cut, Join and Gaps answer: a set of the call's own with these sectors. -/
def SetPost (S : Int → Prop) (w : World) (e : Ending) (w' : World) : Prop :=
  ∃ v ys, e = .returned (.tuple #[v, .int .i64 0]) ∧ Own w' v ys ∧ From w.heap.size v ∧ setB ys = true ∧ (∀ i, wi ys i = true ↔ S i) ∧ Below w.heap.size w w'
def ErrPost (w : World) (e : Ending) (w' : World) : Prop := e = .returned (.tuple #[.slice none 0 0, .int .i64 1]) ∧ Below w.heap.size w w'

end Sp
end Go.Proofs.Ytjbgojccfkmlnaa

namespace Go.Proofs.Ytjbgojccfkmlnaa
open Go.RowKit
namespace Sp

set_option maxHeartbeats 2000000 in
theorem join_ok (a : Option Addr) (n cap : Nat) (xs : List (Int × Int)) (w : World) (h : Sl w a n xs) (ha : allB xs = true) (hl : xs.length ≤ 1000000) :
    Calls Try.prog 56 #[.slice a n cap] w (SetPost (fun i => wi xs i = true) w) := by
  have hn := h.most
  go_enter Try.func56, Try.ntmps56
  go_wp2
  go_loopw [10] (fun i wr => ∃ k : Nat, k ≤ n ∧ i = .int .i64 k ∧ Below w.heap.size w wr) (fun i _ => n - (intOf i).toNat)
  case atStart => exact ⟨0, Nat.zero_le _, rfl, Below.refl _ _⟩
  case round =>
    obtain ⟨k, hk, rfl, hb⟩ := hrel
    by_cases hlt : k < n
    · have HK := hide (show k < xs.length by have := h.len; omega)
      obtain ⟨b, off, rfl, hbl, c0, c1⟩ := (h.later hb).cells k HK.out
      have hr := fun W => may_ok (nth xs k) W (allB_at ha HK.out)
      generalize nth xs k = x at *
      clear h
      go_wp2_with fail
      refine (hr _).mono ?_
      rintro e w1 ⟨rfl, hb1⟩
      go_wp2
      go_roundw
      case rel => exact ⟨k + 1, by omega, by go_num, hb.trans ((box_below hb1).mono hb.size)⟩
      case measure => simp [intOf]; omega
    · have hc := fun W hW => clone_any a n cap xs W hW hl
      go_wp2_with fail
      refine (hc _ (h.later hb)).mono ?_
      rintro e w1 ⟨v, rfl, hown, hfrom, hb1⟩
      go_wp2_with fail
      refine (sort_any v xs _ hown hl).mono ?_
      rintro e w2 ⟨rfl, ys, hperm, hris, hown2, hg2⟩
      have hb2 := hb.trans ((below_grown hb1 hg2 hb1.size hfrom).mono hb.size)
      have hays := allB_perm hperm ha
      have hwp := wi_perm hperm
      have hly : ys.length = xs.length := hperm.length_eq
      obtain ⟨a', cp, rfl, hsl⟩ := hown2.sl (fun x hx => Fit.of_may (by unfold allB at hays; rw [List.all_eq_true] at hays; exact hays x hx))
      have hm := fun W hW => merge_any a' ys.length cp ys W hW hris hays
      have HW := hide hwp
      clear hwp hly hperm h hc
      go_wp2_with fail
      refine (hm _ hsl).mono ?_
      rintro e w3 ⟨rs, hjo, v3, rfl, hown3, hfrom3, hb3⟩
      go_wp2
      go_ret2
      refine ⟨v3, rs, rfl, hown3, fun k hk => Nat.le_trans hb2.size (hfrom3 k hk), hjo.set, fun i => ?_, hb2.trans (hb3.mono hb2.size)⟩
      rw [hjo.mem, upto_all, HW.out]

set_option maxHeartbeats 2000000 in
theorem join_no (a : Option Addr) (n cap : Nat) (xs : List (Int × Int)) (w : World) (h : Sl w a n xs) (ha : allB xs = false) :
    Calls Try.prog 56 #[.slice a n cap] w (ErrPost w) := by
  have hn := h.most
  go_enter Try.func56, Try.ntmps56
  go_wp2
  go_loopw [10] (fun i wr => ∃ k : Nat, k ≤ n ∧ i = .int .i64 k ∧ (∀ j, j < k → mayB (nth xs j) = true) ∧ Below w.heap.size w wr) (fun i _ => n - (intOf i).toNat)
  case atStart => exact ⟨0, Nat.zero_le _, rfl, by intro j hj; omega, Below.refl _ _⟩
  case round =>
    obtain ⟨k, hk, rfl, hok, hb⟩ := hrel
    by_cases hlt : k < n
    · have HK := hide (show k < xs.length by have := h.len; omega)
      obtain ⟨b, off, rfl, hbl, c0, c1⟩ := (h.later hb).cells k HK.out
      cases hm : mayB (nth xs k) with
      | true =>
        have hr := fun W => may_ok (nth xs k) W hm
        have Hok := ext_lt hok hm
        generalize nth xs k = x at c0 c1 hr
        clear h hok hm
        go_wp2_with fail
        refine (hr _).mono ?_
        rintro e w1 ⟨rfl, hb1⟩
        go_wp2
        go_roundw
        case rel => exact ⟨k + 1, by omega, by go_num, Hok, hb.trans ((box_below hb1).mono hb.size)⟩
        case measure => simp [intOf]; omega
      | false =>
        have hr := fun W => may_no (nth xs k) W (h.fit _ (nth_mem HK.out)) hm
        generalize nth xs k = x at c0 c1 hr
        clear h hok hm
        go_wp2_with fail
        refine (hr _).mono ?_
        rintro e w1 ⟨rfl, hb1⟩
        go_wp2
        go_ret2
        exact ⟨rfl, hb.trans ((box_below hb1).mono hb.size)⟩
    · exfalso
      have := allB_of (xs := xs) fun j hj => hok j (by have := h.len; omega)
      rw [ha] at this
      exact Bool.false_ne_true this

end Sp
end Go.Proofs.Ytjbgojccfkmlnaa

namespace Go.Proofs.Ytjbgojccfkmlnaa
open Go.RowKit
namespace Sp

theorem Own.sl' {w : World} {v : Value} {xs : List (Int × Int)} (h : Own w v xs) (hf : ∀ x ∈ xs, Fit x) : ∃ a cap, v = .slice a xs.length cap ∧ xs.length ≤ cap ∧ Sl w a xs.length xs := by
  obtain ⟨a, cap, hv, hs⟩ := h.sl hf
  refine ⟨a, cap, hv, ?_, hs⟩
  rcases id h with ⟨_, ⟨hv', hn⟩ | ⟨g, cap', cur, hv', _, _, hnc, _⟩⟩
  · omega
  · rw [hv] at hv'
    simp only [Value.slice.injEq] at hv'
    omega
theorem fit_of_set {xs : List (Int × Int)} (h : setB xs = true) : ∀ x ∈ xs, Fit x := fun x hx => Fit.of_may (by
  have := allB_setB h
  unfold allB at this
  rw [List.all_eq_true] at this
  exact this x hx)

set_option maxHeartbeats 2000000 in
theorem cut_ok (a b : Option Addr) (n m cap cap' : Nat) (xs os : List (Int × Int)) (w : World) (hA : Sl w a n xs) (hB : Sl w b m os) (hx : setB xs = true) (ho : allB os = true) (hlo : os.length ≤ 1000000) :
    Calls Try.prog 47 #[.slice a n cap, .slice b m cap'] w (SetPost (fun i => wi xs i = true ∧ ¬ wi os i = true) w) := by
  have hn := hA.most
  have hn2 := hB.most
  have hr1 := fun W hW => check_ok a n cap xs W hW hx
  have hr2 := fun W hW => join_ok b m cap' os W hW ho hlo
  go_enter Try.func47, Try.ntmps47
  go_wp2_with fail
  refine (hr1 _ hA).mono ?_
  rintro e w1 ⟨rfl, hb1⟩
  go_wp2_with fail
  refine (hr2 _ (hB.later hb1)).mono ?_
  rintro e w2 ⟨vz, zs, rfl, hownz, _, hz, hzmem, hb2⟩
  have hb := hb1.trans (hb2.mono hb1.size)
  obtain ⟨az, capz, rfl, hcapz, hZ⟩ := hownz.sl' (fit_of_set hz)
  have hA2 := hA.later hb
  have HZM := hide hzmem
  clear hb1 hb2 hr1 hr2 hzmem hA hB
  go_wp2
  go_loopw [9, 30] (fun v i wr => ∃ (k : Nat) (ys : List (Int × Int)), k ≤ n ∧ i = .int .i64 k ∧ Own wr v ys ∧ From w2.heap.size v ∧ CO xs zs k ys ∧ Below w2.heap.size w2 wr) (fun _ i _ => n - (intOf i).toNat)
  case atStart => exact ⟨0, [], Nat.zero_le _, rfl, Own.nil _, From.nil _ _ _, CO.start xs zs hx, Below.refl _ _⟩
  case round =>
    obtain ⟨k, ys, hk, rfl, hown, hfrom, hmo, hbr⟩ := hrel
    by_cases hlt : k < n
    · obtain ⟨ba, off, rfl, hbl, c0, c1⟩ := (hA2.later hbr).cells k (by have := hA2.len; omega)
      have HK := hide (show k < xs.length by have := hA2.len; omega)
      have hms := okAt_may (setB_at hx k HK.out)
      have hnear := fun W hW => near_any az zs.length capz zs (nth xs k) W hW hcapz hz hms
      have HX : Hid (∃ s, s = nth xs k) := ⟨_, rfl⟩
      obtain ⟨s, hs⟩ := HX.out
      have HS := hide hs
      rw [← hs] at c0 c1 hnear hms
      have hap := hown.lt wr.heap.size (Nat.le_refl _)
      clear hs HX
      go_wp2_with fail
      refine (hnear _ (hZ.later (hbr.trans ((below_alloc _ _).mono hbr.size)))).mono ?_
      rintro e w3 ⟨f, t, a', cp, hN, rfl, hsl, hb3⟩
      have d0 := box0 hb3
      have d1 := box1 hb3
      have hb4 := box_below hb3
      have hsz : wr.heap.size < w3.heap.size := by have := hb3.size; simp at this; omega
      have hown3 := hown.later hb4
      have hbw := hbr.trans (hb4.mono hbr.size)
      have hslw := hsl w2 hZ
      have hml := hslw.most
      rw [HS.out] at hN
      have bs := mayB_iff.1 hms
      have R0 := hide (hmo.inner hx HK.out f)
      rw [← HS.out] at R0
      clear hnear hb3 hb4 hsl hown c0 c1 hbl hmo
      generalize hg : wr.heap.size = g at *
      clear hg
      go_wp2
      go_loopw [9, 12, 40] (fun v at' i wr => ∃ (j : Nat) (A : Int) (ys : List (Int × Int)), j ≤ t - f ∧ i = .int .i64 j ∧ at' = .int .i64 A ∧ Own wr v ys ∧ From w2.heap.size v ∧ CI xs zs k f j A ys ∧ Below w2.heap.size w2 wr ∧ wr.cell? ⟨g, 0, none⟩ = some (.int .i64 s.1) ∧ wr.cell? ⟨g, 1, none⟩ = some (.int .i64 s.2) ∧ v.ownBlock ≠ some g ∧ g < wr.heap.size) (fun _ _ i _ => (t - f) - (intOf i).toNat)
      case atStart => exact ⟨0, _, ys, Nat.zero_le _, rfl, rfl, hown3, hfrom, R0.out, hbw, d0, d1, hap, hsz⟩
      case round =>
        obtain ⟨j, A, ys2, hj, rfl, rfl, hown, hfrom2, hmi, hbr2, c0, c1, hap2, hg⟩ := hrel
        have hge := hmi.ge
        rw [← HS.out] at hge
        have hlen := set_length hmi.set
        by_cases hlt2 : j < t - f
        · have hlz := hN.len
          obtain ⟨bo, offo, rfl, hbl, e0, e1⟩ := (hslw.later hbr2).cells j (by rw [sub_length hlz]; exact hlt2)
          rw [nth_sub hlz hlt2] at e0 e1
          have hmo2 := okAt_may (setB_at hz (f + j) (by omega))
          have HST := hide (hmi.step hx hz HK.out hN (by omega))
          clear hmi
          generalize nth zs (f + j) = o at *
          have bo' := mayB_iff.1 hmo2
          have hb5 := below_alloc wr (.cells #[.int .i64 o.1, .int .i64 o.2] 38)
          have hownp := hown.later hb5
          have hbw5 := hbr2.trans (hb5.mono hbr2.size)
          have c0p : (wr.alloc (.cells #[.int .i64 o.1, .int .i64 o.2] 38)).cell? ⟨g, 0, none⟩ = some (.int .i64 s.1) := (hb5.cell hg).trans c0
          have c1p : (wr.alloc (.cells #[.int .i64 o.1, .int .i64 o.2] 38)).cell? ⟨g, 1, none⟩ = some (.int .i64 s.2) := (hb5.cell hg).trans c1
          have hapo := hown.lt wr.heap.size (Nat.le_refl _)
          have HE := fun W => end_b o W hmo2
          have hadd := fun W hW => add_any u9 ys2 A o.1 W hW (by omega) (by omega) (by omega)
          go_wp2_with fail
          refine (hadd _ hownp).mono ?_
          rintro e w5 ⟨v', rfl, hown5, hg5, hm5⟩
          have hgp : g < (wr.alloc (.cells #[.int .i64 o.1, .int .i64 o.2] 38)).heap.size := Nat.lt_of_lt_of_le hg hb5.size
          have q0 : w5.cell? ⟨wr.heap.size, 0, none⟩ = some (.int .i64 o.1) := gcell hg5 (by simp) hapo
          have q1 : w5.cell? ⟨wr.heap.size, 1, none⟩ = some (.int .i64 o.2) := gcell hg5 (by simp) hapo
          have R2 := hide (below_grown hbw5 hg5 hbw5.size hfrom2)
          have R3 := hide (hfrom2.moved hm5 hbw5.size)
          have R4 := hide (gcell hg5 c0p hap2)
          have R5 := hide (gcell hg5 c1p hap2)
          have R6 := hide (apart_moved hap2 hm5 hgp)
          have R7 := hide (Nat.lt_of_lt_of_le hgp hg5.size)
          have R8 := hide hown5
          clear hown5 hg5 hm5 c0p c1p hownp hadd e0 e1 c0 c1
          go_wp2_with fail
          refine (HE _).mono ?_
          rintro e w6 ⟨rfl, hb6⟩
          have R24 := hide ((hb6.cell R7.out).trans R4.out)
          have R25 := hide ((hb6.cell R7.out).trans R5.out)
          go_wp2
          go_roundw
          case rel => exact ⟨j + 1, _, _, by omega, by go_num, rfl, R8.out.later hb6, R3.out, HST.out, R2.out.trans (hb6.mono R2.out.size), R24.out, R25.out, R6.out, Nat.lt_of_lt_of_le R7.out hb6.size⟩
          case measure => simp [intOf]; omega
        · have R1 := hide (show CI xs zs k f (t - f) A ys2 by rwa [show t - f = j by omega])
          have R9 := hide (R1.out.done hx hz HK.out hN)
          rw [← HS.out] at R9
          clear hmi R1
          have HE := fun W => end_b s W hms
          go_wp2_with fail
          refine (HE _).mono ?_
          rintro e w5 ⟨rfl, hb5⟩
          have hadd := add_any u9 ys2 A (s.1 + s.2) w5 (hown.later hb5) (by omega) (by omega) (by omega)
          go_wp2_with fail
          refine hadd.mono ?_
          rintro e w6 ⟨v', rfl, hown6, hg6, hm6⟩
          have hbw5 := hbr2.trans (hb5.mono hbr2.size)
          have R2 := hide (below_grown hbw5 hg6 hbw5.size hfrom2)
          have R3 := hide (hfrom2.moved hm6 hbw5.size)
          have R8 := hide hown6
          clear hown6 hg6 hm6 hadd
          go_wp2
          go_roundw
          case rel => exact ⟨k + 1, _, by omega, by go_num, R8.out, R3.out, R9.out, R2.out⟩
          case measure => simp [intOf]; omega
    · have HF := hide (show CO xs zs xs.length ys by have := hA2.len; rwa [show xs.length = k by omega])
      go_wp2
      go_ret2
      exact ⟨_, ys, rfl, hown, fun q hq => Nat.le_trans hb.size (hfrom q hq), HF.out.all.1, fun i => by rw [HF.out.all.2, HZM.out], hb.trans (hbr.mono hb.size)⟩

set_option maxHeartbeats 1000000 in
theorem cut_no (a b : Option Addr) (n m cap cap' : Nat) (xs os : List (Int × Int)) (w : World) (hA : Sl w a n xs) (hB : Sl w b m os) (hx : setB xs = false ∨ allB os = false) :
    Calls Try.prog 47 #[.slice a n cap, .slice b m cap'] w (ErrPost w) := by
  have hn := hA.most
  have hn2 := hB.most
  cases hs : setB xs with
  | false =>
    have hr1 := fun W hW => check_no a n cap xs W hW hs
    clear hx hs
    go_enter Try.func47, Try.ntmps47
    go_wp2_with fail
    refine (hr1 _ hA).mono ?_
    rintro e w1 ⟨rfl, hb1⟩
    go_wp2
    go_ret2
    exact ⟨rfl, hb1⟩
  | true =>
    have hr1 := fun W hW => check_ok a n cap xs W hW hs
    have hr2 := fun W hW => join_no b m cap' os W hW (hx.resolve_left (by rw [hs]; simp))
    clear hx hs
    go_enter Try.func47, Try.ntmps47
    go_wp2_with fail
    refine (hr1 _ hA).mono ?_
    rintro e w1 ⟨rfl, hb1⟩
    go_wp2_with fail
    refine (hr2 _ (hB.later hb1)).mono ?_
    rintro e w2 ⟨rfl, hb2⟩
    go_wp2
    go_ret2
    exact ⟨rfl, hb1.trans (hb2.mono hb1.size)⟩

end Sp
end Go.Proofs.Ytjbgojccfkmlnaa

namespace Go.Proofs.Ytjbgojccfkmlnaa
open Go.RowKit
namespace Sp

theorem Sl.one {w : World} {b : Nat} {s : Int × Int} (hb : b < w.heap.size) (hf : Fit s) (c0 : w.cell? ⟨b, 0, none⟩ = some (.int .i64 s.1)) (c1 : w.cell? ⟨b, 1, none⟩ = some (.int .i64 s.2)) : Sl w (some ⟨b, 0, none⟩) 1 [s] :=
  ⟨rfl, by omega, fun x hx => by simp at hx; subst hx; exact hf, fun i hi => by
    have : i = 0 := by simpa using hi
    subst this
    exact ⟨b, 0, rfl, hb, by simpa [nth] using c0, by simpa [nth] using c1⟩⟩
theorem Sl.lit (w : World) {s : Int × Int} (hf : Fit s) : Sl (w.alloc (.cells #[.int .i64 s.1, .int .i64 s.2] 38)) (some ⟨w.heap.size, 0, none⟩) 1 [s] :=
  Sl.one (by simp) hf (by simp) (by simp)
theorem setB_one_no {s : Int × Int} (h : mayB s = false) : setB [s] = false := setB_false (k := 0) (by simp) (okAt_no_may (by simpa [nth] using h))
theorem wi_one {s : Int × Int} {i : Int} : wi [s] i = true ↔ Has1 s i := by simp [wi, Has1]
theorem SetPost.mono {S S' : Int → Prop} {w w0 : World} {e : Ending} {w' : World} (h : SetPost S w e w') (hS : ∀ i, S i ↔ S' i) (hb : Below w0.heap.size w0 w) : SetPost S' w0 e w' := by
  obtain ⟨v, ys, he, ho, hf, hs, hm, hb'⟩ := h
  exact ⟨v, ys, he, ho, fun k hk => Nat.le_trans hb.size (hf k hk), hs, fun i => (hm i).trans (hS i), hb.trans (hb'.mono hb.size)⟩

/-- The first span of at least n sectors, cut to n. -/
def fitS (ys : List (Int × Int)) (n : Int) : Int × Int := match ys.find? (fun g => decide (n ≤ g.2)) with | some g => (g.1, n) | none => (0, 0)
def fitE (ys : List (Int × Int)) (n : Int) : Int := match ys.find? (fun g => decide (n ≤ g.2)) with | some _ => 0 | none => 15
theorem find_none {ys : List (Int × Int)} {n : Int} (h : ∀ j, j < ys.length → (nth ys j).2 < n) : ys.find? (fun g => decide (n ≤ g.2)) = none := by
  rw [List.find?_eq_none]
  intro x hx
  obtain ⟨k, hk, rfl⟩ := List.getElem_of_mem hx
  have := h k hk
  rw [nth_eq hk] at this
  simp; omega
theorem find_some {ys : List (Int × Int)} {n : Int} {k : Nat} (h : ∀ j, j < k → (nth ys j).2 < n) (hk : k < ys.length) (hc : n ≤ (nth ys k).2) : ys.find? (fun g => decide (n ≤ g.2)) = some (nth ys k) := by
  rw [List.find?_eq_some_iff_getElem]
  refine ⟨by simp [hc], k, hk, (nth_eq hk).symm, fun j hj => ?_⟩
  have := h j hj
  rw [nth_eq (by omega)] at this
  simp; omega
def FitPost (S : Int → Prop) (n : Int) (w : World) (e : Ending) (w' : World) : Prop := ∃ ys, setB ys = true ∧ (∀ i, wi ys i = true ↔ S i) ∧ e = .returned (.tuple #[.agg #[.int .i64 (fitS ys n).1, .int .i64 (fitS ys n).2], .int .i64 (fitE ys n)]) ∧ Below w.heap.size w w'
theorem two_box {w : World} {a b c d : Value} : Below w.heap.size w ((w.alloc (.cells #[a, b] 38)).alloc (.cells #[c, d] 38)) := (below_alloc w _).trans ((below_alloc _ _).mono (by simp))

def FitNo (w : World) (e : Ending) (w' : World) : Prop := e = .returned (.tuple #[.agg #[.int .i64 0, .int .i64 0], .int .i64 1]) ∧ Below w.heap.size w w'
end Sp
end Go.Proofs.Ytjbgojccfkmlnaa

namespace Go.Proofs.Ytjbgojccfkmlnaa
open Go.RowKit
namespace Sp

theorem same_false {xs ys : List (Int × Int)} {k : Nat} (_h1 : k < xs.length) (_h2 : k < ys.length) (h : ¬ nth xs k = nth ys k) : decide (xs = ys) = false := by
  simp only [decide_eq_false_iff_not]
  intro e
  subst e
  exact h rfl
theorem same_true {xs ys : List (Int × Int)} (hl : xs.length = ys.length) (h : ∀ k, k < xs.length → nth xs k = nth ys k) : decide (xs = ys) = true := by
  simp only [decide_eq_true_eq]
  refine List.ext_getElem hl fun k h1 h2 => ?_
  have := h k h1
  rwa [nth_eq h1, nth_eq h2] at this

set_option maxHeartbeats 1000000 in
theorem same_any (a b : Option Addr) (n m cap cap' : Nat) (xs ys : List (Int × Int)) (w : World) (hA : Sl w a n xs) (hB : Sl w b m ys) :
    Calls Try.prog 30 #[.slice a n cap, .slice b m cap'] w fun e w' => e = .returned (.bool (decide (xs = ys))) ∧ Below w.heap.size w w' := by
  have hn := hA.most
  have hn2 := hB.most
  by_cases hnm : n = m
  · have HL1 := hide hA.len
    have HL2 := hide hB.len
    subst hnm
    go_enter Try.func30, Try.ntmps30
    go_wp2
    go_loopw [5] (fun i wr => ∃ k : Nat, k ≤ n ∧ i = .int .i64 k ∧ (∀ j, j < k → nth xs j = nth ys j) ∧ Below w.heap.size w wr) (fun i _ => n - (intOf i).toNat)
    case atStart => exact ⟨0, Nat.zero_le _, rfl, by intro j hj; omega, Below.refl _ _⟩
    case round =>
      obtain ⟨k, hk, rfl, hok, hb⟩ := hrel
      by_cases hlt : k < n
      · obtain ⟨ba, offa, rfl, hbla, c0, c1⟩ := (hA.later hb).cells k (by have := HL1.out; omega)
        obtain ⟨bb, offb, rfl, hblb, d0, d1⟩ := (hB.later hb).cells k (by have := HL2.out; omega)
        have C0 := lcell hbla c0
        have C1 := lcell hbla c1
        have D0 := lcell hblb d0
        have D1 := lcell hblb d1
        have hne := later_ne wr
        have hgt : Try.prog.eqGuardType Try.prog.depth 27 = false := by kernel_rfl
        by_cases he : nth xs k = nth ys k
        · have Hok := hide (ext_lt hok he)
          rw [← he] at D0 D1
          clear hA hB hok he c0 c1 d0 d1
          generalize nth xs k = x at C0 C1 D0 D1
          go_wp2
          refine wp_region_later (by kernel_rfl) (by kernel_rfl) ?_
          (repeat (first | go_big_quiet_skip | (go_big_quiet_want; go_big_quiet_op; go_big_quiet_on)))
          refine wpQuiet_nil ?_
          rintro _ ⟨p, rfl⟩
          go_wp2
          go_roundw
          case rel => exact ⟨k + 1, by omega, by go_num, Hok.out, hb.trans (p.below.mono hb.size)⟩
          case measure => simp [intOf]; omega
        · have Hf := hide (same_false (by have := HL1.out; omega) (by have := HL2.out; omega) he)
          clear hA hB hok c0 c1 d0 d1
          generalize nth xs k = x at *
          generalize nth ys k = y at *
          by_cases h1 : x.1 = y.1
          · have h2 : ¬ x.2 = y.2 := fun h2 => he (Prod.ext h1 h2)
            clear he
            go_wp2
            refine wp_region_later (by kernel_rfl) (by kernel_rfl) ?_
            (repeat (first | go_big_quiet_skip | (go_big_quiet_want; go_big_quiet_op; go_big_quiet_on)))
            refine wpQuiet_nil ?_
            rintro _ ⟨p, rfl⟩
            go_wp2
            go_ret
            exact ⟨ret_bool Hf.out.symm, hb.trans (p.below.mono hb.size)⟩
          · clear he
            go_wp2
            refine wp_region_later (by kernel_rfl) (by kernel_rfl) ?_
            (repeat (first | go_big_quiet_skip | (go_big_quiet_want; go_big_quiet_op; go_big_quiet_on)))
            refine wpQuiet_nil ?_
            rintro _ ⟨p, rfl⟩
            go_wp2
            go_ret
            exact ⟨ret_bool Hf.out.symm, hb.trans (p.below.mono hb.size)⟩
      · have Ht := hide (same_true (xs := xs) (ys := ys) (by rw [← HL1.out, ← HL2.out]) fun j hj => hok j (by have := HL1.out; omega))
        clear hA hB hok
        go_wp2
        go_ret
        exact ⟨ret_bool Ht.out.symm, hb⟩
  · have Hf : Hid (decide (xs = ys) = false) := by
      show decide (xs = ys) = false
      simp only [decide_eq_false_iff_not]
      intro e
      apply hnm
      rw [hA.len, hB.len, e]
    have hd : ((n : Int) != (m : Int)) = true := by simp; omega
    clear hA hB
    go_enter Try.func30, Try.ntmps30
    go_wp2
    go_ret
    exact ⟨ret_bool Hf.out.symm, Below.refl _ _⟩

end Sp
end Go.Proofs.Ytjbgojccfkmlnaa

namespace Go.Proofs.Ytjbgojccfkmlnaa
namespace Sp
/-- What Set has when k sectors are through. -/
structure SO (f : Nat → Bool) (k : Nat) (ys : List (Int × Int)) : Prop where
  set : setB ys = true
  mem : ∀ i : Int, wi ys i = true ↔ ∃ j : Nat, j < k ∧ i = (j : Int) ∧ f j = true
  ends : EndLe ys (k : Int)
  off : ∀ j, k = j + 1 → f j = false → EndLe ys (j : Int)
  on : ∀ j, k = j + 1 → f j = true → ∃ zs x, ys = zs ++ [x] ∧ x.1 + x.2 = (k : Int)
theorem SO.start (f : Nat → Bool) : SO f 0 [] := ⟨setB_nil, fun i => ⟨fun h => by simp [wi] at h, fun ⟨j, hj, _⟩ => by omega⟩, EndLe.nil _, fun j hj => by omega, fun j hj => by omega⟩
theorem SO.skip {f : Nat → Bool} {k : Nat} {ys : List (Int × Int)} (h : SO f k ys) (hf : f k = false) : SO f (k + 1) ys :=
  ⟨h.set, fun i => by
    rw [h.mem]
    constructor
    · rintro ⟨j, hj, hi, hh⟩; exact ⟨j, by omega, hi, hh⟩
    · rintro ⟨j, hj, hi, hh⟩
      by_cases e : j = k
      · rw [e, hf] at hh; cases hh
      · exact ⟨j, by omega, hi, hh⟩, h.ends.mono (by omega), fun j hj _ => by
    obtain rfl : j = k := by omega
    exact h.ends, fun j hj hh => by
    obtain rfl : j = k := by omega
    rw [hf] at hh; cases hh⟩
theorem SO.memStep {f : Nat → Bool} {k : Nat} {ys ys' : List (Int × Int)} (h : SO f k ys) (hf : f k = true) (hw : ∀ i, wi ys' i = true ↔ wi ys i = true ∨ i = (k : Int)) (i : Int) : wi ys' i = true ↔ ∃ j : Nat, j < k + 1 ∧ i = (j : Int) ∧ f j = true := by
  rw [hw, h.mem]
  constructor
  · rintro (⟨j, hj, hi, hh⟩ | hi)
    · exact ⟨j, by omega, hi, hh⟩
    · exact ⟨k, by omega, hi, hf⟩
  · rintro ⟨j, hj, hi, hh⟩
    by_cases e : j = k
    · subst e; exact .inr hi
    · exact .inl ⟨j, by omega, hi, hh⟩
/-- A sector that begins a run. -/
theorem SO.fresh {f : Nat → Bool} {k : Nat} {ys : List (Int × Int)} (h : SO f k ys) (hf : f k = true) (hp : ∀ j, k = j + 1 → f j = false) (hk : k < 65536) : SO f (k + 1) (ys ++ [((k : Int), 1)]) := by
  have hE : ∃ E, E < (k : Int) ∧ EndLe ys E := by
    cases k with
    | zero =>
      refine ⟨-1, by omega, fun j hj => ?_⟩
      have hm := mayB_iff.1 (okAt_may (setB_at h.set j hj))
      have := h.ends j hj
      omega
    | succ k => exact ⟨k, by omega, h.off k rfl (hp k rfl)⟩
  obtain ⟨E, hE1, hE2⟩ := hE
  refine ⟨setB_snoc h.set (mayB_iff.2 ⟨by simp, by simp, by simp; omega⟩) hE2 hE1, h.memStep hf fun i => ?_, (h.ends.mono (by omega)).snoc (by simp), fun j hj hh => ?_, fun j hj _ => ⟨ys, _, rfl, by simp⟩⟩
  · rw [wi_snoc]; unfold Has1; simp only
    constructor
    · rintro (h1 | h1)
      · exact .inl h1
      · exact .inr (by omega)
    · rintro (h1 | h1)
      · exact .inl h1
      · exact .inr (by omega)
  · obtain rfl : j = k := by omega
    rw [hf] at hh; cases hh
/-- A sector that goes on with one. -/
theorem SO.more {f : Nat → Bool} {k : Nat} {zs : List (Int × Int)} {x : Int × Int} (h : SO f k (zs ++ [x])) (hf : f k = true) (hx : x.1 + x.2 = (k : Int)) (hk : k < 65536) : SO f (k + 1) (zs ++ [(x.1, x.2 + 1)]) := by
  have mx := mayB_iff.1 (setB_lastMay h.set)
  have hz : EndLe zs (x.1 - 1) := setB_lastEnd h.set
  refine ⟨setB_snoc (setB_left h.set) (mayB_iff.2 ⟨by simp; omega, by simp; omega, by simp; omega⟩) hz (by simp; omega), h.memStep hf fun i => ?_, (hz.mono (by omega)).snoc (by simp; omega), fun j hj hh => ?_, fun j hj _ => ⟨zs, _, rfl, by simp; omega⟩⟩
  · rw [wi_snoc, wi_snoc]; unfold Has1; simp only
    constructor
    · rintro (h1 | h1)
      · exact .inl (.inl h1)
      · rcases Int.lt_or_le i (x.1 + x.2) with h2 | h2
        · exact .inl (.inr ⟨h1.1, h2⟩)
        · exact .inr (by omega)
    · rintro ((h1 | h1) | h1)
      · exact .inl h1
      · exact .inr (by omega)
      · exact .inr (by omega)
  · obtain rfl : j = k := by omega
    rw [hf] at hh; cases hh
end Sp
end Go.Proofs.Ytjbgojccfkmlnaa

namespace Go.Proofs.Ytjbgojccfkmlnaa
open Go.RowKit
namespace Sp

/-- A slice's memory holds these bools. -/
structure Sb (w : World) (a : Option Addr) (n : Nat) (f : Nat → Bool) : Prop where
  most : n ≤ 65536
  cells : ∀ i, i < n → ∃ b off, a = some ⟨b, off, none⟩ ∧ b < w.heap.size ∧ w.cell? ⟨b, off + i, none⟩ = some (.bool (f i))
theorem Sb.later {w : World} {a : Option Addr} {n : Nat} {f : Nat → Bool} (h : Sb w a n f) {wr : World} (hb : Below w.heap.size w wr) : Sb wr a n f :=
  ⟨h.most, fun i hi => by
    obtain ⟨b, off, ha, hbl, c0⟩ := h.cells i hi
    exact ⟨b, off, ha, Nat.lt_of_lt_of_le hbl hb.size, (hb.cell hbl).trans c0⟩⟩

set_option maxRecDepth 100000 in
set_option maxHeartbeats 2000000 in
theorem set_any (a : Option Addr) (n cap : Nat) (f : Nat → Bool) (w : World) (h : Sb w a n f) :
    Calls Try.prog 49 #[.slice a n cap] w fun e w' => ∃ ys, SO f n ys ∧ RowPost ys w e w' := by
  have hn := h.most
  go_enter Try.func49, Try.ntmps49
  go_wp2
  go_loopw [3, 4] (fun v i wr => ∃ (k : Nat) (ys : List (Int × Int)), k ≤ n ∧ i = .int .i64 k ∧ Own wr v ys ∧ From w.heap.size v ∧ SO f k ys ∧ Below w.heap.size w wr) (fun _ i _ => n - (intOf i).toNat)
  case atStart => exact ⟨0, [], Nat.zero_le _, rfl, Own.nil _, From.nil _ _ _, SO.start f, Below.refl _ _⟩
  case round =>
    obtain ⟨k, ys, hk, rfl, hown, hfrom, hso, hbr⟩ := hrel
    by_cases hlt : k < n
    · obtain ⟨ba, off, rfl, hbl, c0⟩ := (h.later hbr).cells k hlt
      have hlen := set_length hso.set
      obtain ⟨i0, hi, hz0, hz1, hz2⟩ := info_parts info27
      cases hf : f k with
      | false =>
        have R1 := hide (hso.skip hf)
        rw [hf] at c0
        clear h hso hf
        go_wp2
        go_roundw
        case rel => exact ⟨k + 1, ys, by omega, by go_num, hown, hfrom, R1.out, hbr⟩
        case measure => simp [intOf]; omega
      | true =>
        rw [hf] at c0
        have hkk : ∀ o, (wr.alloc o).ownsRow 0 38 2 u3 ys.length (enc2 ys) := fun o => hown.later (below_alloc _ _)
        rcases Nat.eq_zero_or_pos k with h0 | h0
        · have R1 := hide (hso.fresh hf (fun j hj => by omega) (by omega))
          have hd : decide (0 < k) = false := by simp; omega
          clear h hso hf h0
          go_wp2_with (at_builtin; refine wpList_append_moved rfl (.tmp 39) (.tmp 42) 59 rfl 38 i0 _ 2 16 Try.underlying59 hi hz0 hz1 hz2 rfl (by decide) _ _ _ rfl (hkk _) ⟨wr.heap.size, 0, none⟩ 1 1 [.int .i64 k, .int .i64 1] rfl rfl (cells_two (by simp) (by simp)) (enc2_oneCell [((k : Int), 1)]) (by unfold maxLen; omega) (by omega) ?_; intro v' w' h1 h2 h3)
          have R2 := hide (below_grown (hbr.trans ((below_alloc _ _).mono hbr.size)) h2 (by have := hbr.size; simp; omega) hfrom)
          have R3 := hide (hfrom.moved h3 (by have := hbr.size; simp; omega))
          have R4 : Hid (Own w' v' (ys ++ [((k : Int), 1)])) := by
            show Own w' v' (ys ++ [((k : Int), 1)])
            unfold Own
            rw [enc2_append, show (ys ++ [((k : Int), (1 : Int))]).length = ys.length + 1 by simp]
            exact h1
          clear h1 h2 h3 hkk
          go_wp2
          go_roundw
          case rel => exact ⟨k + 1, _, by omega, by go_num, R4.out, R3.out, R1.out, R2.out⟩
          case measure => simp [intOf]; omega
        · obtain ⟨k, rfl⟩ : ∃ j, k = j + 1 := ⟨k - 1, by omega⟩
          obtain ⟨b', off', ha', hbl', d0⟩ := (h.later hbr).cells k (by omega)
          simp only [Option.some.injEq, Addr.mk.injEq, and_true] at ha'
          obtain ⟨rfl, rfl⟩ := ha'
          cases hf2 : f k with
          | false =>
            rw [hf2] at d0
            have R1 := hide (hso.fresh hf (fun j hj => by rw [show j = k by omega]; exact hf2) (by omega))
            clear h hso hf hf2 h0
            go_wp2_with (at_builtin; refine wpList_append_moved rfl (.tmp 39) (.tmp 42) 59 rfl 38 i0 _ 2 16 Try.underlying59 hi hz0 hz1 hz2 rfl (by decide) _ _ _ rfl (hkk _) ⟨wr.heap.size, 0, none⟩ 1 1 [.int .i64 ((k : Int) + 1), .int .i64 1] rfl rfl (cells_two (by simp) (by simp)) (enc2_oneCell [((k : Int) + 1, 1)]) (by unfold maxLen; omega) (by omega) ?_; intro v' w' h1 h2 h3)
            have R2 := hide (below_grown (hbr.trans ((below_alloc _ _).mono hbr.size)) h2 (by have := hbr.size; simp; omega) hfrom)
            have R3 := hide (hfrom.moved h3 (by have := hbr.size; simp; omega))
            have R4 : Hid (Own w' v' (ys ++ [(((k + 1 : Nat) : Int), 1)])) := by
              show Own w' v' (ys ++ [(((k + 1 : Nat) : Int), 1)])
              unfold Own
              rw [enc2_append, show (ys ++ [(((k + 1 : Nat) : Int), (1 : Int))]).length = ys.length + 1 by simp]
              exact h1
            clear h1 h2 h3 hkk
            go_wp2
            go_roundw
            case rel => exact ⟨k + 1 + 1, _, by omega, by go_num, R4.out, R3.out, R1.out, R2.out⟩
            case measure => simp [intOf]; omega
          | true =>
            rw [hf2] at d0
            obtain ⟨zs, x, rfl, hxe⟩ := hso.on k rfl hf2
            have R1 := hide (hso.more hf hxe (by omega))
            have mx := mayB_iff.1 (setB_lastMay hso.set)
            obtain ⟨g, cp, rfl, hgl, e0, e1, ef⟩ := hown.snocForm
            have hlz : zs.length + 1 ≤ 65536 := by simpa using hlen
            have hownq := hown.setLast (x.2 + 1)
            have R2 := hide (below_grown (v := .slice (some ⟨g, 0, none⟩) (zs.length + 1) cp) hbr hownq.2 hbr.size hfrom)
            have R4 := hide hownq.1
            clear h hso hf hf2 h0 hlen hxe hownq hkk
            go_wp2
            go_roundw
            case rel => exact ⟨k + 1 + 1, _, by omega, by go_num, R4.out, hfrom, R1.out, R2.out⟩
            case measure => simp [intOf]; omega
    · have R1 := hide (show SO f n ys by rwa [show n = k by omega])
      clear hso
      go_wp2
      go_ret
      exact ⟨ys, R1.out, _, rfl, hown, hfrom, hbr⟩

end Sp
end Go.Proofs.Ytjbgojccfkmlnaa
