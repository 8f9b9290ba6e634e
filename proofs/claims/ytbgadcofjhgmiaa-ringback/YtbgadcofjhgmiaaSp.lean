/- What the document's sets of spans answer, call by call (carried over from the proofs about package span). -/
import Derived.Test.YtbgadcofjhgmiaaProg
import Derived.WalkKit
import Derived.WalkSpells
import Derived.WalkLawsBesides
import Derived.Deep.QuietTactic
import Derived.BigQuiet
import Derived.StillTail
import Derived.Lib.SliceRun
namespace Go.Proofs.Ytbgadcofjhgmiaa
namespace Sp

def mayB (x : Int × Int) : Bool := decide (0 ≤ x.1 ∧ 1 ≤ x.2 ∧ x.1 + x.2 ≤ 65536)
def errMay (x : Int × Int) : Int := if mayB x then 0 else 1
theorem errMay_ok {x : Int × Int} (h : mayB x = true) : errMay x = 0 := by simp [errMay, h]
theorem errMay_no {x : Int × Int} (h : mayB x = false) : errMay x = 1 := by simp [errMay, h]
theorem mayB_ok {x : Int × Int} (h : 0 ≤ x.1 ∧ 1 ≤ x.2 ∧ x.1 + x.2 ≤ 65536) : mayB x = true := by simp [mayB]; omega
theorem mayB_no {x : Int × Int} (h : ¬ (0 ≤ x.1 ∧ 1 ≤ x.2 ∧ x.1 + x.2 ≤ 65536)) : mayB x = false := by simp [mayB]; omega
theorem mayB_iff {x : Int × Int} : mayB x = true ↔ 0 ≤ x.1 ∧ 1 ≤ x.2 ∧ x.1 + x.2 ≤ 65536 := by simp [mayB]

/-- The k-th span (a default beyond the end). -/
def nth (xs : List (Int × Int)) (k : Nat) : Int × Int := xs.getD k (0, 0)
/-- The k-th span may be, and begins behind the end of the one ahead. -/
def okAt (xs : List (Int × Int)) (k : Nat) : Bool := mayB (nth xs k) && (decide (k = 0) || decide ((nth xs (k - 1)).1 + (nth xs (k - 1)).2 < (nth xs k).1))
/-- A list is a set. -/
def setB (xs : List (Int × Int)) : Bool := (List.range xs.length).all (okAt xs)
def allB (xs : List (Int × Int)) : Bool := xs.all mayB

theorem nth_eq {xs : List (Int × Int)} {k : Nat} (h : k < xs.length) : nth xs k = xs[k] := by simp [nth, h]
theorem nth_mem {xs : List (Int × Int)} {k : Nat} (h : k < xs.length) : nth xs k ∈ xs := by
  rw [nth_eq h]; exact List.getElem_mem h
theorem setB_true {xs : List (Int × Int)} (h : ∀ k, k < xs.length → okAt xs k = true) : setB xs = true := by
  unfold setB; rw [List.all_eq_true]; intro k hk; exact h k (by simpa using hk)
theorem setB_false {xs : List (Int × Int)} {k : Nat} (hk : k < xs.length) (h : okAt xs k = false) : setB xs = false := by
  unfold setB; rw [List.all_eq_false]; exact ⟨k, by simpa using hk, by simp [h]⟩
theorem setB_at {xs : List (Int × Int)} (h : setB xs = true) (k : Nat) (hk : k < xs.length) : okAt xs k = true := by
  unfold setB at h; rw [List.all_eq_true] at h; exact h k (by simpa using hk)
theorem okAt_no_may {xs : List (Int × Int)} {k : Nat} (h : mayB (nth xs k) = false) : okAt xs k = false := by simp [okAt, h]
theorem okAt_zero {xs : List (Int × Int)} (h : mayB (nth xs 0) = true) : okAt xs 0 = true := by simp [okAt, h]
theorem okAt_first {xs : List (Int × Int)} {k : Nat} (hk : k = 0) (h : mayB (nth xs k) = true) : okAt xs k = true := by subst hk; exact okAt_zero h
theorem ext_lt {p : Nat → Prop} {k : Nat} (h : ∀ j, j < k → p j) (hk : p k) : ∀ j, j < k + 1 → p j := fun j hj => by
  by_cases e : j = k
  · rw [e]; exact hk
  · exact h j (by omega)
theorem okAt_succ {xs : List (Int × Int)} {k : Nat} (h : mayB (nth xs (k + 1)) = true) (h' : (nth xs k).1 + (nth xs k).2 < (nth xs (k + 1)).1) : okAt xs (k + 1) = true := by simp [okAt, h, h']
theorem okAt_succ_no {xs : List (Int × Int)} {k : Nat} (h' : ¬ (nth xs k).1 + (nth xs k).2 < (nth xs (k + 1)).1) : okAt xs (k + 1) = false := by simp [okAt]; omega
theorem okAt_may {xs : List (Int × Int)} {k : Nat} (h : okAt xs k = true) : mayB (nth xs k) = true := by simp [okAt] at h; exact h.1
theorem okAt_lt {xs : List (Int × Int)} {k : Nat} (h : okAt xs (k + 1) = true) : (nth xs k).1 + (nth xs k).2 < (nth xs (k + 1)).1 := by simp [okAt] at h; exact h.2
theorem allB_of {xs : List (Int × Int)} (h : ∀ k, k < xs.length → mayB (nth xs k) = true) : allB xs = true := by
  unfold allB; rw [List.all_eq_true]; intro x hx
  obtain ⟨k, hk, rfl⟩ := List.getElem_of_mem hx
  have := h k hk; rwa [nth_eq hk] at this
theorem allB_no {xs : List (Int × Int)} {k : Nat} (hk : k < xs.length) (h : mayB (nth xs k) = false) : allB xs = false := by
  unfold allB; rw [List.all_eq_false]; exact ⟨_, nth_mem hk, by simp [h]⟩
theorem allB_at {xs : List (Int × Int)} (h : allB xs = true) {k : Nat} (hk : k < xs.length) : mayB (nth xs k) = true := by
  unfold allB at h; rw [List.all_eq_true] at h; exact h _ (nth_mem hk)
theorem allB_setB {xs : List (Int × Int)} (h : setB xs = true) : allB xs = true := allB_of fun k hk => okAt_may (setB_at h k hk)

/-- A sector is in one of the spans. -/
def wi (xs : List (Int × Int)) (i : Int) : Bool := xs.any fun x => decide (x.1 ≤ i) && decide (i < x.1 + x.2)
/-- How many sectors all spans have, those before place k. -/
def sumTo (xs : List (Int × Int)) : Nat → Int
  | 0 => 0
  | k + 1 => sumTo xs k + (nth xs k).2
def total (xs : List (Int × Int)) : Int := sumTo xs xs.length

theorem wi_true {xs : List (Int × Int)} {i : Int} {k : Nat} (hk : k < xs.length) (h : (nth xs k).1 ≤ i ∧ i < (nth xs k).1 + (nth xs k).2) : wi xs i = true := by
  unfold wi; rw [List.any_eq_true]; exact ⟨_, nth_mem hk, by simp [h]⟩
theorem wi_false {xs : List (Int × Int)} {i : Int} (h : ∀ k, k < xs.length → ¬ ((nth xs k).1 ≤ i ∧ i < (nth xs k).1 + (nth xs k).2)) : wi xs i = false := by
  unfold wi; rw [List.any_eq_false]; intro x hx
  obtain ⟨k, hk, rfl⟩ := List.getElem_of_mem hx
  have := h k hk; rw [nth_eq hk] at this
  simpa using this
theorem wi_get {xs : List (Int × Int)} {i : Int} (h : wi xs i = true) : ∃ k, k < xs.length ∧ (nth xs k).1 ≤ i ∧ i < (nth xs k).1 + (nth xs k).2 := by
  unfold wi at h; rw [List.any_eq_true] at h
  obtain ⟨x, hx, h⟩ := h
  obtain ⟨k, hk, rfl⟩ := List.getElem_of_mem hx
  refine ⟨k, hk, ?_⟩
  rw [nth_eq hk]; simpa using h

/-- In a set, what lies ahead ends ahead of what follows. -/
theorem set_lt {xs : List (Int × Int)} (h : setB xs = true) : ∀ (d k : Nat), k + d + 1 < xs.length → (nth xs k).1 + (nth xs k).2 < (nth xs (k + d + 1)).1
  | 0, k, hk => okAt_lt (setB_at h (k + 1) hk)
  | d + 1, k, hk => by
    have h1 := set_lt h d k (by omega)
    have h2 := okAt_lt (setB_at h (k + d + 1 + 1) (by omega))
    have h3 := mayB_iff.1 (okAt_may (setB_at h (k + d + 1) (by omega)))
    show _ < (nth xs (k + d + 1 + 1)).1
    omega
theorem set_lt' {xs : List (Int × Int)} (h : setB xs = true) {j k : Nat} (hjk : j < k) (hk : k < xs.length) : (nth xs j).1 + (nth xs j).2 < (nth xs k).1 := by
  have := set_lt h (k - j - 1) j (by omega)
  rwa [show j + (k - j - 1) + 1 = k by omega] at this
theorem sumTo_le {xs : List (Int × Int)} (h : setB xs = true) : ∀ k, k < xs.length → 0 ≤ sumTo xs k ∧ sumTo xs k ≤ (nth xs k).1
  | 0, hk => by have := mayB_iff.1 (okAt_may (setB_at h 0 hk)); simp [sumTo]; omega
  | k + 1, hk => by
    have h1 := sumTo_le h k (by omega)
    have h2 := okAt_lt (setB_at h (k + 1) hk)
    have h3 := mayB_iff.1 (okAt_may (setB_at h k (by omega)))
    simp only [sumTo]; omega
theorem sumTo_bd {xs : List (Int × Int)} (h : setB xs = true) (k : Nat) (hk : k ≤ xs.length) : 0 ≤ sumTo xs k ∧ sumTo xs k ≤ 65536 := by
  cases k with
  | zero => simp [sumTo]
  | succ k =>
    have h1 := sumTo_le h k (by omega)
    have h3 := mayB_iff.1 (okAt_may (setB_at h k (by omega)))
    simp only [sumTo]; omega

/-- How many spans end at a sector or ahead of it. -/
def placeN (xs : List (Int × Int)) (i : Int) : Nat := xs.countP fun x => decide (x.1 + x.2 ≤ i)
theorem placeN_eq {xs : List (Int × Int)} {i : Int} {k : Nat} (hk : k ≤ xs.length) (h1 : ∀ j, j < k → (nth xs j).1 + (nth xs j).2 ≤ i) (h2 : ∀ j, k ≤ j → j < xs.length → i < (nth xs j).1 + (nth xs j).2) : placeN xs i = k := by
  unfold placeN
  rw [← List.take_append_drop k xs, List.countP_append]
  have e1 : (xs.take k).countP (fun x => decide (x.1 + x.2 ≤ i)) = k := by
    rw [List.countP_eq_length.2 _, List.length_take, Nat.min_eq_left hk]
    intro x hx
    obtain ⟨j, hj, rfl⟩ := List.getElem_of_mem hx
    simp only [List.length_take] at hj
    have := h1 j (by omega)
    rw [nth_eq (by omega)] at this
    simpa using this
  have e2 : (xs.drop k).countP (fun x => decide (x.1 + x.2 ≤ i)) = 0 := by
    rw [List.countP_eq_zero]
    intro x hx
    obtain ⟨j, hj, rfl⟩ := List.getElem_of_mem hx
    simp only [List.length_drop] at hj
    have := h2 (k + j) (by omega) (by omega)
    rw [nth_eq (by omega)] at this
    simpa using this
  rw [e1, e2]; rfl
theorem placeN_le (xs : List (Int × Int)) (i : Int) : placeN xs i ≤ xs.length := List.countP_le_length
end Sp
end Go.Proofs.Ytbgadcofjhgmiaa

namespace Go.Proofs.Ytbgadcofjhgmiaa
open Go.RowKit
namespace Sp

theorem ret_int {k : IntKind} {a b : Int} (h : a = b) : Ending.returned (.int k a) = .returned (.int k b) := by rw [h]
theorem ret_bool {a b : Bool} (h : a = b) : Ending.returned (.bool a) = .returned (.bool b) := by rw [h]

end Sp
end Go.Proofs.Ytbgadcofjhgmiaa

namespace Go.Proofs.Ytbgadcofjhgmiaa
open Go.RowKit
namespace Sp

/-- A later world: all that lay in w lies unturned. -/
structure Later (w : World) where
  val : World
  below : Below w.heap.size w val

theorem later_ne (w : World) : Nonempty (Later w) := ⟨⟨w, Below.refl _ _⟩⟩

theorem wp_region_later {P : Program} {id : Nat} {Q : Exit → Act → World → Prop} {a : Act} {w : World} {l : List Oper} (hm : P.follows .mixedOrders = true) (hB : Region.lexB .any l.toArray = true)
    (h : wpQuiet P l.toArray (fun w' => ∃ p : Later w, w' = p.val) (fun a' => ∀ w', (∃ p : Later w, w' = p.val) → Q .normal a' w') l a) : (Code.region id l.toArray true).wp P Q a w :=
  wp_region_quiet (C := fun w' => ∃ p : Later w, w' = p.val) hm hB ⟨⟨w.drew, (Below.refl _ _).drew⟩, rfl⟩ (by simpa using h)

/-- A callee's contract, met in a later world. -/
theorem later_of {P : Program} {f : FuncId} {args : Array Value} {w : World} {p : Later w} {v : Value}
    (h : Calls P f args p.val fun e w' => e = .returned v ∧ Below p.val.heap.size p.val w') : Calls P f args p.val fun e w'' => e = .returned v ∧ ∃ p : Later w, w'' = p.val :=
  h.mono fun _ w' ⟨he, hb⟩ => ⟨he, ⟨w', p.below.trans (hb.mono p.below.size)⟩, rfl⟩

/-- Both numbers of a span are of the machine. -/
def Fit (x : Int × Int) : Prop := (-9223372036854775808 ≤ x.1 ∧ x.1 ≤ 9223372036854775807) ∧ (-9223372036854775808 ≤ x.2 ∧ x.2 ≤ 9223372036854775807)
theorem Fit.of_may {x : Int × Int} (h : mayB x = true) : Fit x := by rw [mayB_iff] at h; unfold Fit; omega

/-- A slice's memory holds these spans. -/
structure Sl (w : World) (a : Option Addr) (n : Nat) (xs : List (Int × Int)) : Prop where
  len : n = xs.length
  most : n ≤ 9223372036854775807
  fit : ∀ x ∈ xs, Fit x
  cells : ∀ i, i < xs.length → ∃ b off, a = some ⟨b, off, none⟩ ∧ b < w.heap.size ∧ w.cell? ⟨b, off + i * 2, none⟩ = some (.int .i64 (nth xs i).1) ∧ w.cell? ⟨b, off + i * 2 + 1, none⟩ = some (.int .i64 (nth xs i).2)

theorem Sl.later {w : World} {a : Option Addr} {n : Nat} {xs : List (Int × Int)} (h : Sl w a n xs) {wr : World} (hb : Below w.heap.size w wr) : Sl wr a n xs :=
  ⟨h.len, h.most, h.fit, fun i hi => by
    obtain ⟨b, off, ha, hbl, c0, c1⟩ := h.cells i hi
    exact ⟨b, off, ha, Nat.lt_of_lt_of_le hbl hb.size, (hb.cell hbl).trans c0, (hb.cell hbl).trans c1⟩⟩
theorem lcell {w : World} {a : Addr} {v : Value} (hb : a.block < w.heap.size) (h : w.cell? a = some v) (p : Later w) : p.val.cell? a = some v := (p.below.cell hb).trans h
theorem below_alloc (w : World) (o : Obj) : Below w.heap.size w (w.alloc o) := (Below.refl _ _).alloc (Nat.le_refl _) _


end Sp
end Go.Proofs.Ytbgadcofjhgmiaa

namespace Go.Proofs.Ytbgadcofjhgmiaa
open Go.RowKit
namespace Sp

def errSet (xs : List (Int × Int)) : Int := if setB xs then 0 else 1
theorem errSet_ok {xs : List (Int × Int)} (h : setB xs = true) : errSet xs = 0 := by simp [errSet, h]
theorem errSet_no {xs : List (Int × Int)} (h : setB xs = false) : errSet xs = 1 := by simp [errSet, h]

/-- The cells of a box that was laid last. -/
theorem box0 {w w1 : World} {u v : Value} {t : TypeId} (hb : Below (w.alloc (.cells #[u, v] t)).heap.size (w.alloc (.cells #[u, v] t)) w1) : w1.cell? ⟨w.heap.size, 0, none⟩ = some u := (hb.cell (by simp)).trans (by simp)
theorem box1 {w w1 : World} {u v : Value} {t : TypeId} (hb : Below (w.alloc (.cells #[u, v] t)).heap.size (w.alloc (.cells #[u, v] t)) w1) : w1.cell? ⟨w.heap.size, 1, none⟩ = some v := (hb.cell (by simp)).trans (by simp)
theorem box_below {w w1 : World} {o : Obj} (hb : Below (w.alloc o).heap.size (w.alloc o) w1) : Below w.heap.size w w1 := (below_alloc w o).trans (hb.mono (by simp))

end Sp
end Go.Proofs.Ytbgadcofjhgmiaa

namespace Go.Proofs.Ytbgadcofjhgmiaa
namespace Sp
/-- In a set the spans that end at a sector or ahead of it stand first. -/
theorem placeN_split {xs : List (Int × Int)} (h : setB xs = true) (i : Int) : ∃ k, k ≤ xs.length ∧ (∀ j, j < k → (nth xs j).1 + (nth xs j).2 ≤ i) ∧ (∀ j, k ≤ j → j < xs.length → i < (nth xs j).1 + (nth xs j).2) := by
  have main : ∀ m, m ≤ xs.length → ∃ k, k ≤ m ∧ (∀ j, j < k → (nth xs j).1 + (nth xs j).2 ≤ i) ∧ (∀ j, k ≤ j → j < m → i < (nth xs j).1 + (nth xs j).2) := by
    intro m
    induction m with
    | zero => intro _; exact ⟨0, Nat.le_refl _, by omega, by omega⟩
    | succ m ih =>
      intro hm
      obtain ⟨k, hk, h1, h2⟩ := ih (by omega)
      by_cases hc : (nth xs m).1 + (nth xs m).2 ≤ i
      · refine ⟨m + 1, Nat.le_refl _, fun j hj => ?_, by omega⟩
        rcases Nat.lt_or_ge j m with hjm | hjm
        · have := set_lt' h hjm (by omega); have := mayB_iff.1 (okAt_may (setB_at h m (by omega))); omega
        · rw [show j = m by omega]; exact hc
      · refine ⟨k, by omega, h1, fun j hj hj' => ?_⟩
        rcases Nat.lt_or_ge j m with hjm | hjm
        · exact h2 j hj hjm
        · rw [show j = m by omega]; omega
  exact main _ (Nat.le_refl _)
theorem placeN_lt {xs : List (Int × Int)} (h : setB xs = true) {k : Nat} {i : Int} (hk : k < placeN xs i) : (nth xs k).1 + (nth xs k).2 ≤ i := by
  obtain ⟨m, hm, h1, h2⟩ := placeN_split h i
  rw [placeN_eq hm h1 h2] at hk
  exact h1 k hk
theorem placeN_ge {xs : List (Int × Int)} (h : setB xs = true) {i : Int} (hk : placeN xs i < xs.length) : i < (nth xs (placeN xs i)).1 + (nth xs (placeN xs i)).2 := by
  obtain ⟨m, hm, h1, h2⟩ := placeN_split h i
  rw [placeN_eq hm h1 h2] at hk ⊢
  exact h2 m (Nat.le_refl _) hk
theorem placeN_ge' {xs : List (Int × Int)} (h : setB xs = true) {i : Int} {k : Nat} (hp : placeN xs i ≤ k) (hk : k < xs.length) : i < (nth xs k).1 + (nth xs k).2 := by
  obtain ⟨m, hm, h1, h2⟩ := placeN_split h i
  rw [placeN_eq hm h1 h2] at hp
  exact h2 k hp hk
end Sp
end Go.Proofs.Ytbgadcofjhgmiaa

namespace Go.Proofs.Ytbgadcofjhgmiaa
open Go.RowKit
namespace Sp

def totalB (xs : List (Int × Int)) : Int := if setB xs then total xs else 0
theorem totalB_ok {xs : List (Int × Int)} (h : setB xs = true) : totalB xs = total xs := by simp [totalB, h]
theorem totalB_no {xs : List (Int × Int)} (h : setB xs = false) : totalB xs = 0 := by simp [totalB, h]

def hasB (xs : List (Int × Int)) (i : Int) : Bool := setB xs && wi xs i
theorem hasB_no {xs : List (Int × Int)} {i : Int} (h : setB xs = false) : hasB xs i = false := by simp [hasB, h]
theorem hasB_out {xs : List (Int × Int)} {i : Int} (h : setB xs = true) (hp : placeN xs i = xs.length) : hasB xs i = false := by
  simp only [hasB, h, Bool.true_and]
  exact wi_false fun k hk hh => by have := placeN_lt h (k := k) (i := i) (by omega); omega
theorem hasB_at {xs : List (Int × Int)} {i : Int} (h : setB xs = true) (hp : placeN xs i < xs.length) : hasB xs i = decide ((nth xs (placeN xs i)).1 ≤ i) := by
  simp only [hasB, h, Bool.true_and]
  have hge := placeN_ge h hp
  by_cases hc : (nth xs (placeN xs i)).1 ≤ i
  · rw [wi_true hp ⟨hc, hge⟩]; simp [hc]
  · rw [wi_false fun k hk hh => ?_]
    · simp [hc]
    · rcases Nat.lt_or_ge k (placeN xs i) with h1 | h1
      · have := placeN_lt h h1; omega
      · rcases Nat.lt_or_ge (placeN xs i) k with h2 | h2
        · have := set_lt' h h2 hk; have := mayB_iff.1 (okAt_may (setB_at h (placeN xs i) hp)); omega
        · rw [show k = placeN xs i by omega] at hh; omega

end Sp
end Go.Proofs.Ytbgadcofjhgmiaa

namespace Go.Proofs.Ytbgadcofjhgmiaa
open Go.RowKit
namespace Sp

set_option maxRecDepth 100000 in
set_option maxHeartbeats 1000000 in
theorem within_any (a : Option Addr) (n cap : Nat) (xs : List (Int × Int)) (i : Int) (w : World) (h : Sl w a n xs) (hs : allB xs = true) (hi : i ≤ 9223372036854775807) :
    Calls Try.prog 21 #[.slice a n cap, .int .i64 i] w fun e w' => e = .returned (.bool (wi xs i)) ∧ Below w.heap.size w w' := by
  have hn := h.most
  go_enter Try.func21, Try.ntmps21
  go_wp2
  go_loopw [5] (fun c wr => ∃ k : Nat, k ≤ n ∧ c = .int .i64 k ∧ (∀ j, j < k → ¬ ((nth xs j).1 ≤ i ∧ i < (nth xs j).1 + (nth xs j).2)) ∧ Below w.heap.size w wr) (fun c _ => n - (intOf c).toNat)
  case atStart => exact ⟨0, Nat.zero_le _, rfl, by intro j hj; omega, Below.refl _ _⟩
  case round =>
    obtain ⟨k, hk, rfl, hok, hb⟩ := hrel
    have hlen := h.len
    by_cases hlt : k < n
    · obtain ⟨b, off, rfl, hbl, c0, c1⟩ := (h.later hb).cells k (by omega)
      have hm := mayB_iff.1 (allB_at hs (k := k) (by omega))
      have C0 := lcell hbl c0
      have C1 := lcell hbl c1
      have hne := later_ne wr
      by_cases g1 : (nth xs k).1 ≤ i
      · by_cases g2 : i - (nth xs k).1 < (nth xs k).2
        · have Hf : Hid (wi xs i = true) := wi_true (k := k) (by omega) ⟨g1, by omega⟩
          clear c0 c1 hok hlen h hs
          generalize nth xs k = x at *
          go_wp2
          refine wp_region_later (by kernel_rfl) (by kernel_rfl) ?_
          (repeat (first | go_big_quiet_skip | (go_big_quiet_want; go_big_quiet_op; go_big_quiet_on)))
          refine wpQuiet_nil ?_
          rintro _ ⟨p, rfl⟩
          go_wp2
          go_ret
          exact ⟨ret_bool Hf.out.symm, hb.trans (p.below.mono hb.size)⟩
        · have Hok := ext_lt hok (by omega)
          clear c0 c1 hok hlen h hs
          generalize nth xs k = x at C0 C1 g1 g2 hm
          go_wp2
          refine wp_region_later (by kernel_rfl) (by kernel_rfl) ?_
          (repeat (first | go_big_quiet_skip | (go_big_quiet_want; go_big_quiet_op; go_big_quiet_on)))
          refine wpQuiet_nil ?_
          rintro _ ⟨p, rfl⟩
          go_wp2
          go_roundw
          case rel => exact ⟨k + 1, by omega, by go_num, Hok, hb.trans (p.below.mono hb.size)⟩
          case measure => simp [intOf]; omega
      · have Hok := ext_lt hok (by omega)
        have g1' : decide ((nth xs k).1 ≤ i) = false := by simp; omega
        clear c0 c1 hok hlen h hs g1
        generalize nth xs k = x at C0 C1 g1' hm
        go_wp2
        refine wp_region_later (by kernel_rfl) (by kernel_rfl) ?_
        (repeat (first | go_big_quiet_skip | (go_big_quiet_want; go_big_quiet_op; go_big_quiet_on)))
        refine wpQuiet_nil ?_
        rintro _ ⟨p, rfl⟩
        go_wp2
        go_roundw
        case rel => exact ⟨k + 1, by omega, by go_num, Hok, hb.trans (p.below.mono hb.size)⟩
        case measure => simp [intOf]; omega
    · have Ht : Hid (wi xs i = false) := wi_false fun j hj => hok j (by omega)
      clear hok hlen h
      go_wp2
      go_ret
      exact ⟨ret_bool Ht.out.symm, hb⟩

/-- None that may be ends beyond the sector 400, and there are no more than forty. -/
def fewB (xs : List (Int × Int)) : Bool := (xs.all fun x => !(mayB x && decide (400 < x.1 + x.2))) && decide (xs.length ≤ 40)
theorem fewB_no {xs : List (Int × Int)} {k : Nat} (hk : k < xs.length) (hm : mayB (nth xs k) = true) (h : 400 < (nth xs k).1 + (nth xs k).2) : fewB xs = false := by
  have : (xs.all fun x => !(mayB x && decide (400 < x.1 + x.2))) = false := by
    rw [List.all_eq_false]; exact ⟨_, nth_mem hk, by simp [hm, h]⟩
  unfold fewB; rw [this]; rfl
theorem fewB_ok {xs : List (Int × Int)} (h : ∀ k, k < xs.length → ¬ (mayB (nth xs k) = true ∧ 400 < (nth xs k).1 + (nth xs k).2)) : fewB xs = decide (xs.length ≤ 40) := by
  have : (xs.all fun x => !(mayB x && decide (400 < x.1 + x.2))) = true := by
    rw [List.all_eq_true]; intro x hx
    obtain ⟨k, hk, rfl⟩ := List.getElem_of_mem hx
    have := h k hk
    rw [nth_eq hk] at this
    simp only [Bool.not_eq_true', Bool.and_eq_false_iff, decide_eq_false_iff_not]
    by_cases hm : mayB xs[k] = true
    · right; exact fun h' => this ⟨hm, h'⟩
    · left; simpa using hm
  unfold fewB; rw [this]; rfl

end Sp
end Go.Proofs.Ytbgadcofjhgmiaa

namespace Go.Proofs.Ytbgadcofjhgmiaa
open Go.RowKit
namespace Sp

/-- The slice's own block is not among the first B. -/
def From (B : Nat) (v : Value) : Prop := ∀ k, v.ownBlock = some k → B ≤ k
/-- v' lies where v lay, or in memory that is new. -/
def Moved (w : World) (v v' : Value) : Prop := v'.ownBlock = v.ownBlock ∨ From w.heap.size v'
theorem From.moved {B : Nat} {w : World} {v v' : Value} (h : From B v) (hm : Moved w v v') (hB : B ≤ w.heap.size) : From B v' := fun k hk => by
  rcases hm with hm | hm
  · exact h k (hm ▸ hk)
  · exact Nat.le_trans hB (hm k hk)
theorem apart_moved {w : World} {v v' : Value} {g : Nat} (h : v.ownBlock ≠ some g) (hm : Moved w v v') (hg : g < w.heap.size) : v'.ownBlock ≠ some g := by
  rcases hm with hm | hm
  · rw [hm]; exact h
  · intro e; have := hm g e; omega
theorem Moved.refl (w : World) (v : Value) : Moved w v v := .inl rfl
theorem Moved.trans {w w1 : World} {v v1 v2 : Value} (h : Moved w v v1) (h1 : Moved w1 v1 v2) (hs : w.heap.size ≤ w1.heap.size) : Moved w v v2 := by
  rcases h1 with h1 | h1
  · rcases h with h | h
    · exact .inl (h1.trans h)
    · exact .inr fun k hk => h k (h1 ▸ hk)
  · exact .inr fun k hk => Nat.le_trans hs (h1 k hk)
theorem From.nil (B : Nat) (n c : Nat) : From B (.slice none n c) := fun k hk => by simp [Value.ownBlock] at hk
/-- A growth of one row of the call's own keeps all that lay below. -/
theorem below_grown {B : Nat} {a w w' : World} {v : Value} (h : Below B a w) (hg : w.grownBy w' v.ownBlock) (hB : B ≤ w.heap.size) (hv : From B v) : Below B a w' := h.grown hg hB hv

theorem run_append_moved {P : Program} {w : World} (t ty e : TypeId) (i : TypeInfo) (z : Value) (size bytes : Nat) (ht : P.underlying t = some (.slice e)) (hi : P.info? e = some i) (hz : i.zero = some z)
    (hsize : i.size = size) (hby : i.bytes = bytes) (hzs : z.cells.size = size) (hsz : 0 < size)
    (v : Value) (n : Nat) (xs : List Value) (hown : w.ownsRow 0 e size v n xs)
    (a : Addr) (m c : Nat) (news : List Value) (hl : news.length = m * size) (hnews : ∀ j u, news[j]? = some u → w.cell? (a.add j) = some u) (h1 : ∀ u ∈ news, u.oneCell' = true)
    (h63 : n + m ≤ maxLen) (hbytes : (n + m) * bytes ≤ 140737488355328) :
    ∃ v' w', (Builtin.append_ #[t, t] ty #[v, .slice (some a) m c]).run P w = .ok v' w' ∧ w'.ownsRow 0 e size v' (n + m) (xs ++ news) ∧ w.grownBy w' v.ownBlock ∧ Moved w v v' := by
  obtain ⟨v', w', hr, ho, hg, hn⟩ := run_append_own (P := P) w 0 t ty e i z size bytes ht hi hz hsize hby hzs hsz v n xs hown a m c news hl hnews h1 h63 hbytes (Nat.zero_le _)
  refine ⟨v', w', hr, ho, hg, ?_⟩
  subst hsize
  rcases hown.2 with ⟨hv, hn0⟩ | ⟨g, cap, cur, hv, hbg, hgg, hnc, hcm, hcs, htake⟩
  · obtain ⟨v2, w2, hr2, ho2, _⟩ := run_append_own (P := P) w w.heap.size t ty e i z i.size bytes ht hi hz rfl hby hzs hsz v n xs ⟨hown.1, .inl ⟨hv, hn0⟩⟩ a m c news hl hnews h1 h63 hbytes (Nat.le_refl _)
    rw [hr] at hr2
    cases hr2
    exact .inr fun k hk => (ho2.lt k hk).1
  · by_cases hroom : n + m ≤ cap
    · have hfit : n * i.size + news.length ≤ cur.size := by rw [hl, hcs, ← Nat.add_mul]; exact Nat.mul_le_mul_right _ hroom
      have hr2 := run_append_room (P := P) w t ty e i ht hi g n cap cur hgg a m c news hl hnews h1 hroom hfit
      rw [hv] at hr ⊢
      rw [hr2] at hr
      cases hr
      exact .inl rfl
    · subst hv
      have holds : ∀ j u, xs[j]? = some u → w.cell? ((⟨g, 0, none⟩ : Addr).add j) = some u := hown.cells (g := g) rfl
      subst hby
      have hr2 := run_append_grow (P := P) w t ty e i z ht hi hz ⟨g, 0, none⟩ n cap xs hown.1 holds a m c news hl hnews (by omega) (by simp only [maxLen] at h63; omega) (growslice_fits (by omega) hbytes)
      rw [hr2] at hr
      cases hr
      exact .inr fun k hk => by simp [Value.ownBlock] at hk; omega

theorem wpList_append_moved {P : Program} {w : World} {ops : Array Oper} {rest : List Oper} {o : Oper} {a : Act} {Q : Exit → Act → World → Prop} (hgd : o.guard = none) (s x : Operand) (t : TypeId)
    (ho : o.op = .call { callee := .builtin .append, args := #[s, x], argTypes := #[t, t] })
    (e : TypeId) (i : TypeInfo) (z : Value) (size bytes : Nat) (ht : P.underlying t = some (.slice e)) (hi : P.info? e = some i) (hz : i.zero = some z)
    (hsize : i.size = size) (hby : i.bytes = bytes) (hzs : z.cells.size = size) (hsz : 0 < size)
    (v : Value) (n : Nat) (xs : List Value) (hs : a.eval s = v) (hown : w.ownsRow 0 e size v n xs)
    (ad : Addr) (m c : Nat) (news : List Value) (hx : a.eval x = .slice (some ad) m c) (hl : news.length = m * size) (hnews : ∀ j u, news[j]? = some u → w.cell? (ad.add j) = some u) (h1 : ∀ u ∈ news, u.oneCell' = true)
    (h63 : n + m ≤ maxLen) (hbytes : (n + m) * bytes ≤ 140737488355328)
    (h : ∀ v' w', w'.ownsRow 0 e size v' (n + m) (xs ++ news) → w.grownBy w' v.ownBlock → Moved w v v' → wpList P ops Q rest (a.put o.dst v') w') : wpList P ops Q (o :: rest) a w := by
  refine wpList_plain hgd fun _ hK => ?_
  obtain ⟨v', w', hr, h2, h3, h4⟩ := run_append_moved (P := P) (w := w) t o.type e i z size bytes ht hi hz hsize hby hzs hsz v n xs hown ad m c news hl hnews h1 h63 hbytes
  unfold Oper.wp execOp
  simp only [ho, resolve, invoke, builtin, Sem.run_bind, Sem.run_pure, Result.andThen_ok, List.map_toArray, List.map_cons, List.map_nil, hs, hx, hr]
  exact hK _ _ (h v' w' h2 h3 h4)

/-- The cells of spans, one behind the other. -/
def enc2 : List (Int × Int) → List Value
  | [] => []
  | x :: r => .int .i64 x.1 :: .int .i64 x.2 :: enc2 r
theorem enc2_length : ∀ xs, (enc2 xs).length = xs.length * 2
  | [] => rfl
  | _ :: r => by simp [enc2, enc2_length r]; omega
theorem enc2_append : ∀ xs ys, enc2 (xs ++ ys) = enc2 xs ++ enc2 ys
  | [], _ => rfl
  | _ :: r, ys => by simp [enc2, enc2_append r ys]
theorem enc2_get0 : ∀ (xs : List (Int × Int)) (i : Nat), i < xs.length → (enc2 xs)[i * 2]? = some (.int .i64 (nth xs i).1)
  | [], i, h => by simp at h
  | x :: r, 0, _ => rfl
  | x :: r, i + 1, h => by
    have := enc2_get0 r i (by simpa using h)
    rw [show (i + 1) * 2 = i * 2 + 2 by omega]
    simpa [enc2, nth] using this
theorem enc2_get1 : ∀ (xs : List (Int × Int)) (i : Nat), i < xs.length → (enc2 xs)[i * 2 + 1]? = some (.int .i64 (nth xs i).2)
  | [], i, h => by simp at h
  | x :: r, 0, _ => rfl
  | x :: r, i + 1, h => by
    have := enc2_get1 r i (by simpa using h)
    rw [show (i + 1) * 2 + 1 = i * 2 + 1 + 2 by omega]
    simpa [enc2, nth] using this
theorem enc2_oneCell : ∀ xs, ∀ u ∈ enc2 xs, u.oneCell' = true
  | [], u, h => by simp [enc2] at h
  | x :: r, u, h => by
    simp only [enc2, List.mem_cons] at h
    rcases h with rfl | rfl | h
    · rfl
    · rfl
    · exact enc2_oneCell r u h

/-- The value v owns the spans xs. -/
def Own (w : World) (v : Value) (xs : List (Int × Int)) : Prop := w.ownsRow 0 43 2 v xs.length (enc2 xs)
theorem Own.nil (w : World) : Own w (.slice none 0 0) [] := World.ownsRow_nil w 0 43 2
theorem Own.kept {w w' : World} {v : Value} {xs : List (Int × Int)} {row : Option Nat} (h : Own w v xs) (hg : w.grownBy w' row) (hne : v.ownBlock = none ∨ v.ownBlock ≠ row) : Own w' v xs := World.ownsRow.kept h hg hne
/-- .. it is kept where all lies as it lay. -/
theorem Own.later {w w' : World} {v : Value} {xs : List (Int × Int)} (h : Own w v xs) (hb : Below w.heap.size w w') : Own w' v xs :=
  h.kept (row := none) ⟨hb.os, hb.tape, hb.output, hb.size, fun k hk _ => hb.block k hk⟩ (by rcases hv : v.ownBlock with _ | k <;> simp)
theorem Own.lt {w : World} {v : Value} {xs : List (Int × Int)} (h : Own w v xs) (g : Nat) (hg : w.heap.size ≤ g) : v.ownBlock ≠ some g := fun e => by
  have := (World.ownsRow.lt h g e).2; omega
/-- .. and what is owned can be read. -/
theorem Own.sl {w : World} {v : Value} {xs : List (Int × Int)} (h : Own w v xs) (hf : ∀ x ∈ xs, Fit x) : ∃ a cap, v = .slice a xs.length cap ∧ Sl w a xs.length xs := by
  obtain ⟨hl, h2⟩ := id h
  rcases h2 with ⟨hv, hn⟩ | ⟨g, cap, cur, hv, hbg, hgg, hnc, hcm, hcs, htake⟩
  · have : xs = [] := List.eq_nil_of_length_eq_zero hn
    subst this
    exact ⟨none, 0, hv, rfl, by simp, hf, fun i hi => by simp at hi⟩
  · refine ⟨some ⟨g, 0, none⟩, cap, hv, rfl, Nat.le_trans hnc (by simpa [maxLen] using hcm), hf, fun i hi => ⟨g, 0, rfl, (Array.getElem?_eq_some_iff.1 hgg).1, ?_, ?_⟩⟩
    · have := World.ownsRow.cellAt (w := w) (base := 0) (e := 43) (size := 2) (g := g) (n := xs.length) (cap := cap) (xs := enc2 xs) (hv ▸ h) (i * 2) (by omega)
      rw [Nat.zero_add, this, enc2_get0 xs i hi]
    · have := World.ownsRow.cellAt (w := w) (base := 0) (e := 43) (size := 2) (g := g) (n := xs.length) (cap := cap) (xs := enc2 xs) (hv ▸ h) (i * 2 + 1) (by omega)
      rw [Nat.zero_add, this, enc2_get1 xs i hi]
/-- What one call's own memory grew by leaves the rest as it lay. -/
theorem grown_none {w w' : World} {v : Value} (hg : w.grownBy w' v.ownBlock) (hv : v.ownBlock = none) : Below w.heap.size w w' :=
  ⟨hg.os, hg.tape, hg.output, hg.size, fun k hk => hg.block k hk (by rw [hv]; simp)⟩
theorem gcell {w w' : World} {v : Value} (hg : w.grownBy w' v.ownBlock) {a : Addr} {u : Value} (h : w.cell? a = some u) (hne : v.ownBlock ≠ some a.block) : w'.cell? a = some u := hg.cell h (fun e => hne e.symm)
theorem below_grownBy {w w' : World} (hb : Below w.heap.size w w') (row : Option Nat) : w.grownBy w' row := ⟨hb.os, hb.tape, hb.output, hb.size, fun k hk _ => hb.block k hk⟩
theorem grownBy_trans {a b c : World} {v v' : Value} (h : a.grownBy b v.ownBlock) (h' : b.grownBy c v'.ownBlock) (hm : Moved a v v') : a.grownBy c v.ownBlock :=
  ⟨h'.os.trans h.os, h'.tape.trans h.tape, h'.output.trans h.output, Nat.le_trans h.size h'.size, fun k hk hne => by
    rw [h'.block k (Nat.lt_of_lt_of_le hk h.size) (fun e => ?_), h.block k hk hne]
    rcases hm with hm | hm
    · exact hne (e.trans hm)
    · have := hm k e.symm; omega⟩

end Sp
end Go.Proofs.Ytbgadcofjhgmiaa

namespace Go.Proofs.Ytbgadcofjhgmiaa
namespace Sp
/-- Sector i is one of the span's. -/
def Has1 (x : Int × Int) (i : Int) : Prop := x.1 ≤ i ∧ i < x.1 + x.2
theorem wi_iff {xs : List (Int × Int)} {i : Int} : wi xs i = true ↔ ∃ k, k < xs.length ∧ Has1 (nth xs k) i :=
  ⟨fun h => wi_get h, fun ⟨_, hk, h⟩ => wi_true hk h⟩
def EndLe (xs : List (Int × Int)) (E : Int) : Prop := ∀ k, k < xs.length → (nth xs k).1 + (nth xs k).2 ≤ E
theorem EndLe.mono {xs : List (Int × Int)} {E F : Int} (h : EndLe xs E) (hEF : E ≤ F) : EndLe xs F := fun k hk => by have := h k hk; omega
theorem EndLe.nil (E : Int) : EndLe [] E := fun k hk => by simp at hk
theorem nth_left {xs ys : List (Int × Int)} {k : Nat} (h : k < xs.length) : nth (xs ++ ys) k = nth xs k := by simp [nth, List.getElem?_append, h]
theorem nth_right {xs ys : List (Int × Int)} {k : Nat} (h : xs.length ≤ k) : nth (xs ++ ys) k = nth ys (k - xs.length) := by simp [nth, List.getElem?_append]; rw [if_neg (by omega)]
theorem nth_last {xs : List (Int × Int)} {x : Int × Int} : nth (xs ++ [x]) xs.length = x := by simp [nth]
theorem okAt_left {xs ys : List (Int × Int)} {k : Nat} (h : k < xs.length) : okAt (xs ++ ys) k = okAt xs k := by
  unfold okAt
  rw [nth_left h, nth_left (k := k - 1) (by omega)]
theorem setB_nil : setB [] = true := rfl
theorem setB_one {x : Int × Int} (h : mayB x = true) : setB [x] = true := setB_true fun k hk => by
  have : k = 0 := by simpa using hk
  subst this
  exact okAt_zero h
theorem setB_snoc {xs : List (Int × Int)} {x : Int × Int} {E : Int} (h : setB xs = true) (hx : mayB x = true) (hE : EndLe xs E) (hlt : E < x.1) : setB (xs ++ [x]) = true := by
  refine setB_true fun k hk => ?_
  simp only [List.length_append, List.length_cons, List.length_nil] at hk
  rcases Nat.lt_or_ge k xs.length with h1 | h1
  · rw [okAt_left h1]; exact setB_at h k h1
  · obtain rfl : k = xs.length := by omega
    rcases Nat.eq_zero_or_pos xs.length with h0 | h0
    · exact okAt_first h0 (by rw [nth_last]; exact hx)
    · obtain ⟨m, hm⟩ : ∃ m, xs.length = m + 1 := ⟨xs.length - 1, by omega⟩
      have hl : nth (xs ++ [x]) (m + 1) = x := by rw [← hm]; exact nth_last
      rw [hm]
      refine okAt_succ (by rw [hl]; exact hx) ?_
      rw [hl, nth_left (by omega)]
      have := hE m (by omega)
      omega
theorem wi_snoc {xs : List (Int × Int)} {x : Int × Int} {i : Int} : wi (xs ++ [x]) i = true ↔ wi xs i = true ∨ Has1 x i := by
  unfold wi Has1
  simp
theorem EndLe.snoc {xs : List (Int × Int)} {x : Int × Int} {E : Int} (hE : EndLe xs E) (h : x.1 + x.2 ≤ E) : EndLe (xs ++ [x]) E := fun k hk => by
  simp only [List.length_append, List.length_cons, List.length_nil] at hk
  rcases Nat.lt_or_ge k xs.length with h1 | h1
  · rw [nth_left h1]; exact hE k h1
  · obtain rfl : k = xs.length := by omega
    rw [nth_last]; exact h
theorem set_bounds {xs : List (Int × Int)} (h : setB xs = true) {i : Int} (hi : wi xs i = true) : 0 ≤ i ∧ i < 65536 := by
  obtain ⟨k, hk, h1, h2⟩ := wi_iff.1 hi
  have := mayB_iff.1 (okAt_may (setB_at h k hk))
  omega

/-- With what lies from a on, ahead of e, behind it, if there is any. -/
def addF (xs : List (Int × Int)) (at' en : Int) : List (Int × Int) := if en ≤ at' then xs else xs ++ [(at', en - at')]
theorem addF_no {xs : List (Int × Int)} {a e : Int} (h : e ≤ a) : addF xs a e = xs := by simp [addF, h]
theorem addF_yes {xs : List (Int × Int)} {a e : Int} (h : ¬ e ≤ a) : addF xs a e = xs ++ [(a, e - a)] := by simp [addF, h]
theorem addF_length (xs : List (Int × Int)) (a e : Int) : (addF xs a e).length ≤ xs.length + 1 := by unfold addF; split <;> simp
theorem addF_set {xs : List (Int × Int)} {a e E : Int} (h : setB xs = true) (hE : EndLe xs E) (hlt : E < a) (h0 : 0 ≤ a) (h1 : e ≤ 65536) : setB (addF xs a e) = true := by
  by_cases hc : e ≤ a
  · rw [addF_no hc]; exact h
  · rw [addF_yes hc]; exact setB_snoc h (mayB_iff.2 ⟨h0, by simp; omega, by simp; omega⟩) hE hlt
theorem addF_wi {xs : List (Int × Int)} {a e i : Int} : wi (addF xs a e) i = true ↔ wi xs i = true ∨ (a ≤ i ∧ i < e) := by
  by_cases hc : e ≤ a
  · rw [addF_no hc]
    constructor
    · exact Or.inl
    · rintro (h | h)
      · exact h
      · omega
  · rw [addF_yes hc, wi_snoc]
    unfold Has1
    constructor
    · rintro (h | h)
      · exact .inl h
      · exact .inr (by simp at h; omega)
    · rintro (h | h)
      · exact .inl h
      · exact .inr (by simp; omega)
theorem addF_end {xs : List (Int × Int)} {a e E F : Int} (hE : EndLe xs E) (h1 : E ≤ F) (h2 : e ≤ F) : EndLe (addF xs a e) F := by
  by_cases hc : e ≤ a
  · rw [addF_no hc]; exact hE.mono h1
  · rw [addF_yes hc]; exact (hE.mono h1).snoc (by simp; omega)

/-- The sectors of the first k spans. -/
def Upto (xs : List (Int × Int)) (k : Nat) (i : Int) : Prop := ∃ j, j < k ∧ Has1 (nth xs j) i
theorem upto_zero {xs : List (Int × Int)} {i : Int} : ¬ Upto xs 0 i := fun ⟨j, hj, _⟩ => by omega
theorem upto_succ {xs : List (Int × Int)} {k : Nat} {i : Int} : Upto xs (k + 1) i ↔ Upto xs k i ∨ Has1 (nth xs k) i := by
  constructor
  · rintro ⟨j, hj, h⟩
    by_cases e : j = k
    · exact .inr (e ▸ h)
    · exact .inl ⟨j, by omega, h⟩
  · rintro (⟨j, hj, h⟩ | h)
    · exact ⟨j, by omega, h⟩
    · exact ⟨k, by omega, h⟩
theorem upto_all {xs : List (Int × Int)} {i : Int} : Upto xs xs.length i ↔ wi xs i = true := wi_iff.symm

/-- Two sets of the same sectors are one list. -/
theorem set_ext_aux : ∀ (n : Nat) {xs ys : List (Int × Int)}, setB xs = true → setB ys = true → (∀ i, wi xs i = true ↔ wi ys i = true) →
    ∀ k, k < n → (k < xs.length ↔ k < ys.length) ∧ (k < xs.length → nth xs k = nth ys k) := by
  intro n
  induction n with
  | zero => intro xs ys _ _ _ k hk; omega
  | succ n ih =>
    intro xs ys hx hy h k hk
    rcases Nat.lt_or_ge k n with hkn | hkn
    · exact ih hx hy h k hkn
    · obtain rfl : k = n := by omega
      have IH := ih hx hy h
      -- half: whatever the one has at k the other has
      have half : ∀ {us vs : List (Int × Int)}, setB us = true → setB vs = true → (∀ i, wi us i = true ↔ wi vs i = true) → (∀ j, j < k → (j < us.length ↔ j < vs.length) ∧ (j < us.length → nth us j = nth vs j)) → k < us.length → k < vs.length ∧ (nth vs k).1 ≤ (nth us k).1 := by
        intro us vs hu hv huv hI hku
        have mk := mayB_iff.1 (okAt_may (setB_at hu k hku))
        obtain ⟨j, hj, hh⟩ := wi_iff.1 ((huv (nth us k).1).1 (wi_iff.2 ⟨k, hku, by unfold Has1; omega⟩))
        rcases Nat.lt_or_ge j k with hjk | hjk
        · have := (hI j hjk)
          have e := this.2 (this.1.2 hj)
          have := set_lt' hu hjk hku
          rw [← e] at hh
          unfold Has1 at hh; omega
        · refine ⟨by omega, ?_⟩
          rcases Nat.lt_or_ge k j with h2 | h2
          · have := set_lt' hv h2 hj; have := mayB_iff.1 (okAt_may (setB_at hv k (by omega))); unfold Has1 at hh; omega
          · obtain rfl : j = k := by omega
            exact hh.1
      have IH' : ∀ j, j < k → (j < ys.length ↔ j < xs.length) ∧ (j < ys.length → nth ys j = nth xs j) := fun j hj => ⟨(IH j hj).1.symm, fun h2 => ((IH j hj).2 ((IH j hj).1.2 h2)).symm⟩
      have h' : ∀ i, wi ys i = true ↔ wi xs i = true := fun i => (h i).symm
      refine ⟨⟨fun hk => (half hx hy h IH hk).1, fun hk => (half hy hx h' IH' hk).1⟩, fun hkx => ?_⟩
      have a1 := half hx hy h IH hkx
      have a2 := half hy hx h' IH' a1.1
      have e1 : (nth xs k).1 = (nth ys k).1 := by omega
      -- the ends
      have ends : ∀ {us vs : List (Int × Int)}, setB us = true → setB vs = true → (∀ i, wi us i = true ↔ wi vs i = true) → (∀ j, j < k → (j < us.length ↔ j < vs.length) ∧ (j < us.length → nth us j = nth vs j)) → k < us.length → k < vs.length → (nth us k).1 = (nth vs k).1 → (nth us k).2 ≤ (nth vs k).2 := by
        intro us vs hu hv huv hI hku hkv he
        rcases Int.lt_or_le (nth vs k).2 (nth us k).2 with hlt | hle
        · exfalso
          have mk := mayB_iff.1 (okAt_may (setB_at hv k hkv))
          obtain ⟨j, hj, hh⟩ := wi_iff.1 ((huv ((nth vs k).1 + (nth vs k).2)).1 (wi_iff.2 ⟨k, hku, by unfold Has1; omega⟩))
          rcases Nat.lt_or_ge j k with hjk | hjk
          · have := set_lt' hv hjk hkv; unfold Has1 at hh; omega
          · rcases Nat.lt_or_ge k j with h2 | h2
            · have := set_lt' hv h2 hj; unfold Has1 at hh; omega
            · obtain rfl : j = k := by omega
              unfold Has1 at hh; omega
        · exact hle
      have b1 := ends hx hy h IH hkx a1.1 e1
      have b2 := ends hy hx h' IH' a1.1 hkx e1.symm
      exact Prod.ext e1 (by omega)
theorem set_ext {xs ys : List (Int × Int)} (hx : setB xs = true) (hy : setB ys = true) (h : ∀ i, wi xs i = true ↔ wi ys i = true) : xs = ys := by
  have H := set_ext_aux (xs.length + ys.length + 1) hx hy h
  have hl : xs.length = ys.length := by
    rcases Nat.lt_trichotomy xs.length ys.length with h1 | h1 | h1
    · have := (H xs.length (by omega)).1; omega
    · exact h1
    · have := (H ys.length (by omega)).1; omega
  refine List.ext_getElem hl fun k h1 h2 => ?_
  have := (H k (by omega)).2 h1
  rwa [nth_eq h1, nth_eq h2] at this
end Sp
end Go.Proofs.Ytbgadcofjhgmiaa

namespace Go.Proofs.Ytbgadcofjhgmiaa
open Go.RowKit
namespace Sp

theorem info27 : (Try.prog.info? 43).map (fun i => (i.zero, i.size, i.bytes)) = some (some (.agg #[.int .i64 0, .int .i64 0]), 2, 16) := by kernel_rfl

theorem cells_two {w : World} {b : Nat} {u v : Value} (h0 : w.cell? ⟨b, 0, none⟩ = some u) (h1 : w.cell? ⟨b, 1, none⟩ = some v) : ∀ j x, [u, v][j]? = some x → w.cell? ((⟨b, 0, none⟩ : Addr).add j) = some x
  | 0, x, h => by simp at h; subst h; exact h0
  | 1, x, h => by simp at h; subst h; exact h1
  | j + 2, x, h => by simp at h

end Sp
end Go.Proofs.Ytbgadcofjhgmiaa

namespace Go.Proofs.Ytbgadcofjhgmiaa
namespace Sp
/-- The spans of a set that have a sector of s are those from place f on, ahead of place t. -/
structure NearP (xs : List (Int × Int)) (s : Int × Int) (f t : Nat) : Prop where
  le : f ≤ t
  len : t ≤ xs.length
  lo : ∀ j, j < f → (nth xs j).1 + (nth xs j).2 ≤ s.1
  mid : ∀ j, f ≤ j → j < t → s.1 < (nth xs j).1 + (nth xs j).2 ∧ (nth xs j).1 < s.1 + s.2
  hi : ∀ j, t ≤ j → j < xs.length → s.1 + s.2 ≤ (nth xs j).1

theorem placeN_mono {xs : List (Int × Int)} (h : setB xs = true) {i k : Int} (hik : i ≤ k) : placeN xs i ≤ placeN xs k := by
  rcases Nat.lt_or_ge (placeN xs k) (placeN xs i) with hl | hl
  · have h1 := placeN_lt h hl
    have := placeN_le xs i
    have h2 := placeN_ge h (i := k) (by omega)
    omega
  · exact hl
theorem near_in {xs : List (Int × Int)} (h : setB xs = true) {s : Int × Int} (hs : mayB s = true) (hl : placeN xs (s.1 + s.2) < xs.length) (hc : (nth xs (placeN xs (s.1 + s.2))).1 < s.1 + s.2) : NearP xs s (placeN xs s.1) (placeN xs (s.1 + s.2) + 1) := by
  have hs' := mayB_iff.1 hs
  have hm := placeN_mono h (i := s.1) (k := s.1 + s.2) (by omega)
  refine ⟨by omega, hl, fun j hj => placeN_lt h hj, fun j h1 h2 => ⟨placeN_ge' h h1 (by omega), ?_⟩, fun j h1 h2 => ?_⟩
  · rcases Nat.lt_or_ge j (placeN xs (s.1 + s.2)) with h3 | h3
    · have := set_lt' h h3 hl; have := mayB_iff.1 (okAt_may (setB_at h j (by omega))); omega
    · rw [show j = placeN xs (s.1 + s.2) by omega]; exact hc
  · have := set_lt' h (show placeN xs (s.1 + s.2) < j by omega) h2
    have := placeN_ge h hl
    omega
theorem near_out {xs : List (Int × Int)} (h : setB xs = true) {s : Int × Int} (hs : mayB s = true) (hc : ¬ (placeN xs (s.1 + s.2) < xs.length ∧ (nth xs (placeN xs (s.1 + s.2))).1 < s.1 + s.2)) : NearP xs s (placeN xs s.1) (placeN xs (s.1 + s.2)) := by
  have hs' := mayB_iff.1 hs
  have hm := placeN_mono h (i := s.1) (k := s.1 + s.2) (by omega)
  have hle := placeN_le xs (s.1 + s.2)
  refine ⟨hm, hle, fun j hj => placeN_lt h hj, fun j h1 h2 => ⟨placeN_ge' h h1 (by omega), ?_⟩, fun j h1 h2 => ?_⟩
  · have := placeN_lt h h2; have := mayB_iff.1 (okAt_may (setB_at h j (by omega))); omega
  · rcases Nat.lt_or_ge (placeN xs (s.1 + s.2)) j with h3 | h3
    · have := set_lt' h h3 h2; have := placeN_ge h (i := s.1 + s.2) (by omega); omega
    · obtain rfl : j = placeN xs (s.1 + s.2) := by omega
      omega


theorem set_at_ge {xs : List (Int × Int)} (h : setB xs = true) : ∀ k, k < xs.length → (k : Int) ≤ (nth xs k).1
  | 0, hk => by have := mayB_iff.1 (okAt_may (setB_at h 0 hk)); omega
  | k + 1, hk => by
    have h1 := set_at_ge h k (by omega)
    have h2 := okAt_lt (setB_at h (k + 1) hk)
    have h3 := mayB_iff.1 (okAt_may (setB_at h k (by omega)))
    omega
theorem set_length {xs : List (Int × Int)} (h : setB xs = true) : xs.length ≤ 65536 := by
  rcases Nat.eq_zero_or_pos xs.length with h0 | h0
  · omega
  · have h1 := set_at_ge h (xs.length - 1) (by omega)
    have h3 := mayB_iff.1 (okAt_may (setB_at h (xs.length - 1) (by omega)))
    omega

/-- No span that is near is left out: a sector of s is in the set just if it is in one that is near. -/
theorem NearP.wi {zs : List (Int × Int)} {s : Int × Int} {f t : Nat} (h : NearP zs s f t) {i : Int} (hi : Has1 s i) : Sp.wi zs i = true ↔ ∃ j, f ≤ j ∧ j < t ∧ Has1 (nth zs j) i := by
  rw [wi_iff]
  constructor
  · rintro ⟨j, hj, hh⟩
    refine ⟨j, ?_, ?_, hh⟩
    · rcases Nat.lt_or_ge j f with h1 | h1
      · have := h.lo j h1; unfold Has1 at *; omega
      · exact h1
    · rcases Nat.lt_or_ge j t with h1 | h1
      · exact h1
      · have := h.hi j h1 hj; unfold Has1 at *; omega
  · rintro ⟨j, _, h2, hh⟩
    exact ⟨j, Nat.lt_of_lt_of_le h2 h.len, hh⟩

/-- Meet, when k spans are through. -/
structure MO (xs zs : List (Int × Int)) (k : Nat) (ys : List (Int × Int)) : Prop where
  set : setB ys = true
  mem : ∀ i, wi ys i = true ↔ Upto xs k i ∧ wi zs i = true
  lt : k < xs.length → ∃ E, E < (nth xs k).1 ∧ EndLe ys E
/-- .. and of the k-th one so many that are near. -/
structure MI (xs zs : List (Int × Int)) (k f m : Nat) (ys : List (Int × Int)) : Prop where
  set : setB ys = true
  mem : ∀ i, wi ys i = true ↔ (Upto xs k i ∧ wi zs i = true) ∨ (Has1 (nth xs k) i ∧ ∃ j, f ≤ j ∧ j < f + m ∧ Has1 (nth zs j) i)
  ends : ∃ E, EndLe ys E ∧ E ≤ (nth xs k).1 + (nth xs k).2 ∧ (m = 0 → E < (nth xs k).1) ∧ (∀ j, m = j + 1 → E ≤ (nth zs (f + j)).1 + (nth zs (f + j)).2)
theorem MO.start (xs zs : List (Int × Int)) (hx : setB xs = true) : MO xs zs 0 [] :=
  ⟨setB_nil, fun i => ⟨fun h => by simp [wi] at h, fun h => absurd h.1 upto_zero⟩, fun h => ⟨-1, by have := mayB_iff.1 (okAt_may (setB_at hx 0 h)); omega, EndLe.nil _⟩⟩
theorem MO.inner {xs zs ys : List (Int × Int)} {k : Nat} (h : MO xs zs k ys) (hx : setB xs = true) (hk : k < xs.length) (f : Nat) : MI xs zs k f 0 ys :=
  ⟨h.set, fun i => by rw [h.mem]; exact ⟨.inl, fun h' => h'.elim id fun ⟨_, j, h1, h2, _⟩ => by omega⟩, by
    obtain ⟨E, h1, h2⟩ := h.lt hk
    have := mayB_iff.1 (okAt_may (setB_at hx k hk))
    exact ⟨E, h2, by omega, fun _ => h1, fun j hj => by omega⟩⟩
theorem MI.step {xs zs ys : List (Int × Int)} {k f m t : Nat} (h : MI xs zs k f m ys) (hx : setB xs = true) (hz : setB zs = true) (hk : k < xs.length) (hN : NearP zs (nth xs k) f t) (hm : f + m < t) :
    MI xs zs k f (m + 1) (addF ys (max (nth xs k).1 (nth zs (f + m)).1) (min ((nth xs k).1 + (nth xs k).2) ((nth zs (f + m)).1 + (nth zs (f + m)).2))) := by
  have hl := hN.len
  have ms := mayB_iff.1 (okAt_may (setB_at hx k hk))
  have mo := mayB_iff.1 (okAt_may (setB_at hz (f + m) (by omega)))
  obtain ⟨E, e1, e2, e3, e4⟩ := h.ends
  have hE : E < max (nth xs k).1 (nth zs (f + m)).1 := by
    rcases Nat.eq_zero_or_pos m with h0 | h0
    · have := e3 h0; omega
    · obtain ⟨j, rfl⟩ : ∃ j, m = j + 1 := ⟨m - 1, by omega⟩
      have := e4 j rfl
      have := set_lt' hz (show f + j < f + (j + 1) by omega) (by omega)
      omega
  refine ⟨addF_set h.set e1 hE (by omega) (by omega), fun i => ?_, ?_⟩
  · rw [addF_wi, h.mem]
    constructor
    · rintro ((h1 | ⟨h1, j, h2, h3, h4⟩) | h1)
      · exact .inl h1
      · exact .inr ⟨h1, j, h2, by omega, h4⟩
      · exact .inr ⟨by unfold Has1; omega, f + m, by omega, by omega, by unfold Has1; omega⟩
    · rintro (h1 | ⟨h1, j, h2, h3, h4⟩)
      · exact .inl (.inl h1)
      · by_cases e : j = f + m
        · subst e; unfold Has1 at *; exact .inr (by omega)
        · exact .inl (.inr ⟨h1, j, h2, by omega, h4⟩)
  · refine ⟨max E (min ((nth xs k).1 + (nth xs k).2) ((nth zs (f + m)).1 + (nth zs (f + m)).2)), addF_end e1 (by omega) (by omega), by omega, fun h0 => by omega, fun j hj => ?_⟩
    obtain rfl : j = m := by omega
    rcases Nat.eq_zero_or_pos j with h0 | h0
    · have := e3 h0
      have := hN.mid (f + j) (by omega) hm
      omega
    · obtain ⟨j', rfl⟩ : ∃ j', j = j' + 1 := ⟨j - 1, by omega⟩
      have := e4 j' rfl
      have := set_lt' hz (show f + j' < f + (j' + 1) by omega) (by omega)
      omega
theorem MI.done {xs zs ys : List (Int × Int)} {k f t : Nat} (h : MI xs zs k f (t - f) ys) (hx : setB xs = true) (_hk : k < xs.length) (hN : NearP zs (nth xs k) f t) : MO xs zs (k + 1) ys :=
  ⟨h.set, fun i => by
    rw [h.mem, upto_succ, show f + (t - f) = t by have := hN.le; omega]
    constructor
    · rintro (h1 | ⟨h1, h2⟩)
      · exact ⟨.inl h1.1, h1.2⟩
      · exact ⟨.inr h1, (hN.wi h1).2 h2⟩
    · rintro ⟨h1 | h1, h2⟩
      · exact .inl ⟨h1, h2⟩
      · exact .inr ⟨h1, (hN.wi h1).1 h2⟩, fun hk' => by
    obtain ⟨E, e1, e2, _⟩ := h.ends
    exact ⟨E, by have := set_lt' hx (show k < k + 1 by omega) hk'; omega, e1⟩⟩
theorem MO.all {xs zs ys : List (Int × Int)} (h : MO xs zs xs.length ys) : setB ys = true ∧ ∀ i, wi ys i = true ↔ wi xs i = true ∧ wi zs i = true :=
  ⟨h.set, fun i => by rw [h.mem, upto_all]⟩

/-- Cut, when k spans are through. -/
structure CO (xs zs : List (Int × Int)) (k : Nat) (ys : List (Int × Int)) : Prop where
  set : setB ys = true
  mem : ∀ i, wi ys i = true ↔ Upto xs k i ∧ ¬ wi zs i = true
  lt : k < xs.length → ∃ E, E < (nth xs k).1 ∧ EndLe ys E
/-- .. and of the k-th one so many that are near: A is the first sector that is not looked at yet. -/
structure CI (xs zs : List (Int × Int)) (k f m : Nat) (A : Int) (ys : List (Int × Int)) : Prop where
  set : setB ys = true
  mem : ∀ i, wi ys i = true ↔ (Upto xs k i ∧ ¬ wi zs i = true) ∨ ((nth xs k).1 ≤ i ∧ i < A ∧ i < (nth xs k).1 + (nth xs k).2 ∧ ¬ wi zs i = true)
  ge : (nth xs k).1 ≤ A ∧ A ≤ 65536
  at0 : m = 0 → A = (nth xs k).1
  at1 : ∀ j, m = j + 1 → A = (nth zs (f + j)).1 + (nth zs (f + j)).2
  ends : ∃ E, EndLe ys E ∧ E < A ∧ E ≤ (nth xs k).1 + (nth xs k).2
theorem CO.start (xs zs : List (Int × Int)) (hx : setB xs = true) : CO xs zs 0 [] :=
  ⟨setB_nil, fun i => ⟨fun h => by simp [wi] at h, fun h => absurd h.1 upto_zero⟩, fun h => ⟨-1, by have := mayB_iff.1 (okAt_may (setB_at hx 0 h)); omega, EndLe.nil _⟩⟩
theorem CO.inner {xs zs ys : List (Int × Int)} {k : Nat} (h : CO xs zs k ys) (hx : setB xs = true) (hk : k < xs.length) (f : Nat) : CI xs zs k f 0 (nth xs k).1 ys := by
  have ms := mayB_iff.1 (okAt_may (setB_at hx k hk))
  obtain ⟨E, h1, h2⟩ := h.lt hk
  exact ⟨h.set, fun i => by rw [h.mem]; exact ⟨.inl, fun h' => h'.elim id fun ⟨_, _, _⟩ => by omega⟩, by omega, fun _ => rfl, fun j hj => by omega, ⟨E, h2, h1, by omega⟩⟩
/-- Between two neighbours of a set there is no sector of it. -/
theorem gap {zs : List (Int × Int)} (hz : setB zs = true) {j : Nat} {i : Int} (hj : j + 1 < zs.length) (h1 : (nth zs j).1 + (nth zs j).2 ≤ i) (h2 : i < (nth zs (j + 1)).1) : ¬ wi zs i = true := fun h => by
  obtain ⟨m, hm, hh⟩ := wi_iff.1 h
  unfold Has1 at hh
  rcases Nat.lt_or_ge j m with h3 | h3
  · rcases Nat.lt_or_ge (j + 1) m with h4 | h4
    · have := set_lt' hz h4 hm; have := mayB_iff.1 (okAt_may (setB_at hz (j + 1) hj)); omega
    · rw [show m = j + 1 by omega] at hh; omega
  · rcases Nat.lt_or_ge m j with h4 | h4
    · have := set_lt' hz h4 (by omega); have := mayB_iff.1 (okAt_may (setB_at hz j (by omega))); omega
    · rw [show m = j by omega] at hh; omega
/-- From A on, ahead of the next one that is near, no sector of s is in the set. -/
theorem CI.free {xs zs ys : List (Int × Int)} {k f m t : Nat} {A : Int} (h : CI xs zs k f m A ys) (hz : setB zs = true) (hN : NearP zs (nth xs k) f t) (hm : f + m ≤ t) {i : Int} (h1 : A ≤ i) (h2 : i < (nth xs k).1 + (nth xs k).2) (h3 : f + m < t → i < (nth zs (f + m)).1) : ¬ wi zs i = true := fun hw => by
  have hge := h.ge
  obtain ⟨j, hj1, hj2, hh⟩ := (hN.wi (i := i) ⟨by omega, h2⟩).1 hw
  have hl := hN.len
  unfold Has1 at hh
  rcases Nat.lt_or_ge j (f + m) with h4 | h4
  · obtain ⟨q, rfl⟩ : ∃ q, m = q + 1 := ⟨m - 1, by omega⟩
    have hA := h.at1 q rfl
    rcases Nat.lt_or_ge j (f + q) with h5 | h5
    · have := set_lt' hz h5 (by omega); have := mayB_iff.1 (okAt_may (setB_at hz (f + q) (by omega))); omega
    · rw [show j = f + q by omega] at hh; omega
  · have := h3 (by omega)
    rcases Nat.lt_or_ge (f + m) j with h5 | h5
    · have := set_lt' hz h5 (by omega); have := mayB_iff.1 (okAt_may (setB_at hz (f + m) (by omega))); omega
    · rw [show j = f + m by omega] at hh; omega
theorem CI.step {xs zs ys : List (Int × Int)} {k f m t : Nat} {A : Int} (h : CI xs zs k f m A ys) (hx : setB xs = true) (hz : setB zs = true) (hk : k < xs.length) (hN : NearP zs (nth xs k) f t) (hm : f + m < t) :
    CI xs zs k f (m + 1) ((nth zs (f + m)).1 + (nth zs (f + m)).2) (addF ys A (nth zs (f + m)).1) := by
  have hl := hN.len
  have ms := mayB_iff.1 (okAt_may (setB_at hx k hk))
  have mo := mayB_iff.1 (okAt_may (setB_at hz (f + m) (by omega)))
  have hmid := hN.mid (f + m) (by omega) hm
  obtain ⟨E, e1, e2, e3⟩ := h.ends
  have hge := h.ge
  refine ⟨addF_set h.set e1 e2 (by omega) (by omega), fun i => ?_, by omega, fun h0 => by omega, fun j hj => by rw [show j = m by omega], ⟨max E (nth zs (f + m)).1, addF_end e1 (by omega) (by omega), ?_, by omega⟩⟩
  · rw [addF_wi, h.mem]
    have self : ∀ i, (nth zs (f + m)).1 ≤ i → i < (nth zs (f + m)).1 + (nth zs (f + m)).2 → wi zs i = true := fun i h1 h2 => wi_iff.2 ⟨f + m, by omega, h1, h2⟩
    constructor
    · rintro ((h1 | ⟨h1, h2, h3, h4⟩) | h1)
      · exact .inl h1
      · refine .inr ⟨h1, ?_, h3, h4⟩
        rcases Int.lt_or_le i ((nth zs (f + m)).1 + (nth zs (f + m)).2) with h5 | h5
        · exact h5
        · exfalso
          rcases Nat.eq_zero_or_pos m with h0 | h0
          · have := h.at0 h0; omega
          · obtain ⟨q, rfl⟩ : ∃ q, m = q + 1 := ⟨m - 1, by omega⟩
            have := h.at1 q rfl
            have := set_lt' hz (show f + q < f + (q + 1) by omega) (by omega)
            omega
      · exact .inr ⟨by omega, by omega, by omega, h.free hz hN (by omega) h1.1 (by omega) (fun _ => h1.2)⟩
    · rintro (h1 | ⟨h1, h2, h3, h4⟩)
      · exact .inl (.inl h1)
      · rcases Int.lt_or_le i A with h5 | h5
        · exact .inl (.inr ⟨h1, h5, h3, h4⟩)
        · rcases Int.lt_or_le i (nth zs (f + m)).1 with h6 | h6
          · exact .inr ⟨h5, h6⟩
          · exact absurd (self i h6 h2) h4
  · rcases Nat.eq_zero_or_pos m with h0 | h0
    · have := h.at0 h0; omega
    · obtain ⟨q, rfl⟩ : ∃ q, m = q + 1 := ⟨m - 1, by omega⟩
      have := h.at1 q rfl
      have := set_lt' hz (show f + q < f + (q + 1) by omega) (by omega)
      omega
theorem CI.done {xs zs ys : List (Int × Int)} {k f t : Nat} {A : Int} (h : CI xs zs k f (t - f) A ys) (hx : setB xs = true) (hz : setB zs = true) (hk : k < xs.length) (hN : NearP zs (nth xs k) f t) :
    CO xs zs (k + 1) (addF ys A ((nth xs k).1 + (nth xs k).2)) := by
  have ms := mayB_iff.1 (okAt_may (setB_at hx k hk))
  obtain ⟨E, e1, e2, e3⟩ := h.ends
  have hge := h.ge
  have hle := hN.le
  refine ⟨addF_set h.set e1 e2 (by omega) (by omega), fun i => ?_, fun hk' => ⟨_, by have := set_lt' hx (show k < k + 1 by omega) hk'; omega, addF_end e1 e3 (Int.le_refl _)⟩⟩
  rw [addF_wi, h.mem, upto_succ]
  constructor
  · rintro ((h1 | ⟨h1, h2, h3, h4⟩) | h1)
    · exact ⟨.inl h1.1, h1.2⟩
    · exact ⟨.inr ⟨h1, h3⟩, h4⟩
    · exact ⟨.inr ⟨by omega, h1.2⟩, h.free hz hN (by omega) h1.1 h1.2 (fun _ => by omega)⟩
  · rintro ⟨h1 | h1, h2⟩
    · exact .inl (.inl ⟨h1, h2⟩)
    · unfold Has1 at h1
      rcases Int.lt_or_le i A with h5 | h5
      · exact .inl (.inr ⟨h1.1, h5, h1.2, h2⟩)
      · exact .inr ⟨h5, h1.2⟩
theorem CO.all {xs zs ys : List (Int × Int)} (h : CO xs zs xs.length ys) : setB ys = true ∧ ∀ i, wi ys i = true ↔ wi xs i = true ∧ ¬ wi zs i = true :=
  ⟨h.set, fun i => by rw [h.mem, upto_all]⟩
end Sp
end Go.Proofs.Ytbgadcofjhgmiaa

namespace Go.Proofs.Ytbgadcofjhgmiaa
open Go.RowKit
namespace Sp

theorem nth_sub {xs : List (Int × Int)} {f t i : Nat} (_h : t ≤ xs.length) (hi : i < t - f) : nth ((xs.drop f).take (t - f)) i = nth xs (f + i) := by
  simp [nth, hi]
theorem sub_length {xs : List (Int × Int)} {f t : Nat} (h : t ≤ xs.length) : ((xs.drop f).take (t - f)).length = t - f := by simp; omega
theorem Sl.sub {w : World} {b off n : Nat} {xs : List (Int × Int)} (h : Sl w (some ⟨b, off, none⟩) n xs) {f t : Nat} (hft : f ≤ t) (ht : t ≤ xs.length) : Sl w (some ⟨b, off + f * 2, none⟩) (t - f) ((xs.drop f).take (t - f)) :=
  ⟨(sub_length ht).symm, by have := h.most; have := h.len; omega, fun x hx => h.fit x (List.mem_of_mem_drop (List.mem_of_mem_take hx)), fun i hi => by
    rw [sub_length ht] at hi
    obtain ⟨b', off', he, hb, c0, c1⟩ := h.cells (f + i) (by omega)
    simp only [Option.some.injEq, Addr.mk.injEq, and_true] at he
    obtain ⟨rfl, rfl⟩ := he
    refine ⟨b, off + f * 2, rfl, hb, ?_, ?_⟩
    · rw [nth_sub ht hi, show off + f * 2 + i * 2 = off + (f + i) * 2 by omega]; exact c0
    · rw [nth_sub ht hi, show off + f * 2 + i * 2 + 1 = off + (f + i) * 2 + 1 by omega]; exact c1⟩

theorem later_box {w : World} {o : Obj} (p : Later (w.alloc o)) : w.heap.size < p.val.heap.size := by have := p.below.size; simp at this; omega
theorem hide {p : Prop} (h : p) : Hid p := h
theorem Sl.sub' {w : World} {a : Option Addr} {n cap : Nat} {xs : List (Int × Int)} (h : Sl w a n xs) (hcap : n ≤ cap) {f t : Nat} (hft : f ≤ t) (ht : t ≤ xs.length) :
    Sl w (if cap = f then a else a.map (·.add (f * 2))) (t - f) ((xs.drop f).take (t - f)) := by
  rcases Nat.lt_or_ge f t with h1 | h1
  · have hl := h.len
    rw [if_neg (by omega)]
    obtain ⟨b, off, rfl, _⟩ := h.cells f (by omega)
    have := h.sub hft ht
    simpa [Addr.add_lit] using this
  · rw [show t - f = 0 by omega]
    exact ⟨by simp, by omega, by simp, fun i hi => by simp at hi⟩

def NearPost (a : Option Addr) (n : Nat) (xs : List (Int × Int)) (s : Int × Int) (w : World) (e : Ending) (w' : World) : Prop := ∃ f t a' cap', NearP xs s f t ∧ e = .returned (.slice a' (t - f) cap') ∧ (∀ W, Sl W a n xs → Sl W a' (t - f) ((xs.drop f).take (t - f))) ∧ Below w.heap.size w w'

end Sp
end Go.Proofs.Ytbgadcofjhgmiaa

namespace Go.Proofs.Ytbgadcofjhgmiaa
open Go.RowKit
namespace Sp

section
variable {P : Program} {ops : Array Oper} {C : World → Prop} {n : Nat}

/-- Whatever order is picked among the first n operations, each of them quiet in the class, L holds of what is left when f of them have come up. -/
def Heads (P : Program) (ops : Array Oper) (C : World → Prop) (n : Nat) (L : Array Bool → Act → Prop) : Nat → Array Bool → Act → Prop
  | 0, done, a => L done a
  | f + 1, done, a => Region.ready .any ops done ≠ [] ∧ ∀ i ∈ Region.ready .any ops done, i < n ∧ qOp P ops C i (Heads P ops C n L f (done.setIfInBounds i true)) a

theorem Heads.any {g : Nat} {L : Array Bool → Act → Prop} {Q : Exit → Act → World → Prop} (hL : ∀ done a, L done a → ∀ w, C w → wpAny P .any ops Q g done a w) :
    ∀ f done a, Heads P ops C n L f done a → ∀ w, C w → wpAny P .any ops Q (f + g) done a w := by
  intro f
  induction f with
  | zero => intro done a h w hw; rw [Nat.zero_add]; exact hL done a h w hw
  | succ f ih =>
    intro done a h w hw
    rw [Nat.succ_add]
    exact ⟨fun e => absurd e h.1, fun i hi => wpOp_of_qOp hw (fun a' w' hw' h' => ih _ a' h' w' hw') (h.2 i hi).2⟩

theorem Heads.first {i : Nat} {oi : Oper} {v : Value} {L : Array Bool → Act → Prop} (hi : ops[i]? = some oi) (hsel : Region.noSelect ops = true)
    (hs : Region.sinkB .any ops n = true) (hc : Region.chainB .any ops n = true) (hn : n < ops.size) (hin : i < n)
    (hL : ∀ done a, L done a → ∀ j ∈ Region.ready .any ops done, n ≤ j) :
    ∀ f done a, HeadInv .any ops n done →
      (∀ j oj, ops[j]? = some oj → j ≠ i → done.getD j true = false → (∀ e ∈ oj.after, Region.binds .any e = true → e.on ≠ i) → oi.apart ops oj = true) →
      i ∈ Region.ready .any ops done → YieldsIn P ops C oi v a → Heads P ops C n L f (done.setIfInBounds i true) (a.put oi.dst v) → Heads P ops C n L (f + 1) done a := by
  have sel := Region.noSelect_spec hsel
  have low : ∀ done, HeadInv .any ops n done → i ∈ Region.ready .any ops done → ∀ j ∈ Region.ready .any ops done, j < n := fun done inv hr j hj =>
    (Nat.lt_or_ge j n).resolve_right fun hge => tail_waits hs hc hn inv _ i rfl hin (mem_ready.1 hr).1 j hge hj
  intro f
  induction f with
  | zero =>
    intro done a inv _ hr hy H
    refine ⟨List.ne_nil_of_mem hr, fun j hj => ⟨low done inv hr j hj, ?_⟩⟩
    by_cases hji : j = i
    · subst hji; exact hy.qOp hi H
    · have h1 := hL _ _ H j (ready_mono hj hji)
      have h2 := low done inv hr j hj
      omega
  | succ f ih =>
    intro done a inv hfree hr hy H
    refine ⟨List.ne_nil_of_mem hr, fun j hj => ⟨low done inv hr j hj, ?_⟩⟩
    by_cases hji : j = i
    · subst hji; exact hy.qOp hi H
    · obtain ⟨hjun, oj, hoj, hall⟩ := mem_ready.1 hj
      have hnot : ∀ e ∈ oj.after, Region.binds .any e = true → e.on ≠ i := fun e he hb heq => by
        have h1 := hall e he hb
        rw [heq, getD_both (mem_ready.1 hr).1] at h1
        exact Bool.false_ne_true h1
      refine qOp_mono (fun a' h3 => ih (done.setIfInBounds j true) a' (inv.set hj (low done inv hr j hj)) (fun k ok hk hki hun hno => hfree k ok hk hki ?_ hno) (ready_mono hr (Ne.symm hji)) h3.1 ?_)
        (qOp_put hoj (hfree j oj hoj hji hjun hnot) (fun cs b => sel i oi cs b hi) (fun cs b => sel j oj cs b hoj) hy (H.2 j (ready_mono hj hji)).2)
      · by_cases hjk : j = k
        · subst hjk; exact hjun
        · rw [getD_set_ne true hjk] at hun; exact hun
      · rw [Array.setIfInBounds_comm _ _ hji]
        exact h3.2

theorem Heads.lex {g : Nat} {L : Act → Prop} (hsel : Region.noSelect ops = true) (hs : Region.sinkB .any ops n = true) (hc : Region.chainB .any ops n = true) (hn : n < ops.size) :
    ∀ (l : List Oper) (k : Nat) (done : Array Bool) (a : Act), (∀ j, j < l.length → l[j]? = ops[k + j]?) → k + l.length = n → HeadInv .any ops n done →
    Region.lexHead .any ops g l.length k done = true → wpQuiet P ops C L l a → Heads P ops C n (fun done' a' => Region.seqB .any ops g n done' = true ∧ L a') l.length done a := by
  intro l
  induction l with
  | nil =>
    intro k done a _ hk _ hB h
    obtain rfl : k = n := by simpa using hk
    exact ⟨by simpa [Region.lexHead] using hB, h⟩
  | cons o l ih =>
    intro k done a hl hk inv hB h
    have h0 : ops[k]? = some o := by simpa using (hl 0 (by simp)).symm
    simp only [List.length_cons, Region.lexHead, Bool.and_eq_true] at hB
    have hkn : k < n := by simp only [List.length_cons] at hk; omega
    have hr : k ∈ Region.ready .any ops done := by simpa using hB.1.1
    have hq : qOp P ops C k (wpQuiet P ops C L l) a := by unfold qOp; simp only [h0]; exact h
    obtain ⟨v, hy, hK⟩ := yieldsIn_of_qOp h0 hq
    exact Heads.first h0 hsel hs hc hn hkn (fun _ _ hL => seqB_ready hL.1) l.length done a inv (Region.free_spec h0 hB.1.2) hr hy
      (ih (k + 1) _ _ (fun j hj => by have := hl (j + 1) (by simp; omega); simpa [Nat.add_assoc, Nat.add_comm 1 j] using this) (by simp only [List.length_cons] at hk; omega) (inv.set hr hkn) hB.2 hK)
end

/-- A region that draws its order: its first n operations are quiet in the class, the others come behind them all, one by one. -/
theorem wp_region_class_tail {P : Program} {C : World → Prop} {id : Nat} {Q : Exit → Act → World → Prop} {a : Act} {w : World} {l : List Oper} (n : Nat) (hm : P.follows .mixedOrders = true) (hB : Region.lexTailB .any l.toArray n = true) (hC : C w.drew)
    (h : wpQuiet P l.toArray C (fun a' => ∀ w', C w' → wpList P l.toArray Q (l.drop n) a' w') (l.take n) a) : (Code.region id l.toArray true).wp P Q a w := by
  simp only [Region.lexTailB, Bool.and_eq_true, decide_eq_true_eq] at hB
  obtain ⟨⟨⟨⟨hsel, hn⟩, hs⟩, hc⟩, hlex⟩ := hB
  have hnl : n < l.length := by simpa using hn
  have htl : (l.take n).length = n := by simp; omega
  have hdl : (l.drop n).length = l.toArray.size - n := by simp
  have inv0 : HeadInv .any l.toArray n (Array.replicate l.toArray.size false) :=
    ⟨by simp, fun j oj _ hl => absurd hl (by rw [getD_replicate_false]; simp), fun t _ ht => getD_in (by simpa using ht) (getD_replicate_false _ _)⟩
  have H := Heads.lex (g := l.toArray.size - n) hsel hs hc hn (l.take n) 0 _ a (fun j hj => by rw [htl] at hj; simp [hj]) (by simpa using htl) inv0 (by rw [htl]; exact hlex) h
  have R := Heads.any (Q := Q) (g := l.toArray.size - n) (fun done a' hL w' hw' => by
    have := wpAny_of_seq (md := .any) (Q' := Q) (l.drop n) n done a' w' (fun j => by simp [List.getElem?_drop]) (by rw [hdl]; exact hL.1) (hL.2 w' hw')
    rwa [hdl] at this) _ _ _ H w.drew hC
  rw [htl, show n + (l.toArray.size - n) = l.toArray.size by omega] at R
  exact wp_region_any hm R

theorem wp_region_later_tail {P : Program} {id : Nat} {Q : Exit → Act → World → Prop} {a : Act} {w : World} {l : List Oper} (n : Nat) (hm : P.follows .mixedOrders = true) (hB : Region.lexTailB .any l.toArray n = true)
    (h : wpQuiet P l.toArray (fun w' => ∃ p : Later w, w' = p.val) (fun a' => ∀ w', (∃ p : Later w, w' = p.val) → wpList P l.toArray Q (l.drop n) a' w') (l.take n) a) : (Code.region id l.toArray true).wp P Q a w :=
  wp_region_class_tail n hm hB ⟨⟨w.drew, (Below.refl _ _).drew⟩, rfl⟩ h

end Sp
end Go.Proofs.Ytbgadcofjhgmiaa

namespace Go.Proofs.Ytbgadcofjhgmiaa
namespace Sp
/-- Each begins no later than those behind it. -/
def Rises (xs : List (Int × Int)) : Prop := ∀ i j, i < j → j < xs.length → (nth xs i).1 ≤ (nth xs j).1
/-- What is joined when k spans are through. -/
structure JO (xs : List (Int × Int)) (k : Nat) (ys : List (Int × Int)) : Prop where
  set : setB ys = true
  mem : ∀ i, wi ys i = true ↔ Upto xs k i
  starts : k < xs.length → ∀ j, j < ys.length → (nth ys j).1 ≤ (nth xs k).1
theorem JO.start (xs : List (Int × Int)) : JO xs 0 [] := ⟨setB_nil, fun i => ⟨fun h => by simp [wi] at h, fun h => absurd h upto_zero⟩, fun _ j hj => by simp at hj⟩
theorem setB_left {xs ys : List (Int × Int)} (h : setB (xs ++ ys) = true) : setB xs = true := setB_true fun k hk => by
  rw [← okAt_left (ys := ys) hk]; exact setB_at h k (by simp; omega)
theorem setB_lastMay {xs : List (Int × Int)} {x : Int × Int} (h : setB (xs ++ [x]) = true) : mayB x = true := by
  have := okAt_may (setB_at h xs.length (by simp)); rwa [nth_last] at this
theorem setB_lastEnd {xs : List (Int × Int)} {x : Int × Int} (h : setB (xs ++ [x]) = true) : EndLe xs (x.1 - 1) := fun k hk => by
  have := set_lt' h (j := k) (k := xs.length) hk (by simp)
  rw [nth_last, nth_left hk] at this
  omega
theorem setB_endLe {xs : List (Int × Int)} {x : Int × Int} (h : setB (xs ++ [x]) = true) : EndLe (xs ++ [x]) (x.1 + x.2) := by
  have := mayB_iff.1 (setB_lastMay h)
  exact ((setB_lastEnd h).mono (by omega)).snoc (Int.le_refl _)
theorem JO.first {xs : List (Int × Int)} {k : Nat} (h : JO xs k []) (ha : allB xs = true) (hr : Rises xs) (hk : k < xs.length) : JO xs (k + 1) [nth xs k] :=
  ⟨setB_one (allB_at ha hk), fun i => by
    rw [upto_succ, ← h.mem]
    simp [wi, Has1], fun hk' j hj => by
    have : j = 0 := by simpa using hj
    subst this
    exact hr k (k + 1) (by omega) hk'⟩
theorem JO.new {xs zs : List (Int × Int)} {x : Int × Int} {k : Nat} (h : JO xs k (zs ++ [x])) (ha : allB xs = true) (hr : Rises xs) (hk : k < xs.length) (hlt : x.1 + x.2 < (nth xs k).1) : JO xs (k + 1) (zs ++ [x] ++ [nth xs k]) :=
  ⟨setB_snoc h.set (allB_at ha hk) (setB_endLe h.set) hlt, fun i => by rw [wi_snoc, h.mem, upto_succ], fun hk' j hj => by
    have hrk := hr k (k + 1) (by omega) hk'
    rcases Nat.lt_or_ge j (zs ++ [x]).length with h1 | h1
    · rw [nth_left h1]; have := h.starts hk j h1; omega
    · obtain rfl : j = (zs ++ [x]).length := by simp only [List.length_append, List.length_cons, List.length_nil] at *; omega
      rw [nth_last]; exact hrk⟩
theorem JO.wide {xs zs : List (Int × Int)} {x : Int × Int} {k : Nat} (h : JO xs k (zs ++ [x])) (ha : allB xs = true) (hr : Rises xs) (hk : k < xs.length) (hge : ¬ x.1 + x.2 < (nth xs k).1) :
    JO xs (k + 1) (zs ++ [(x.1, max (x.1 + x.2) ((nth xs k).1 + (nth xs k).2) - x.1)]) := by
  have mx := mayB_iff.1 (setB_lastMay h.set)
  have ms := mayB_iff.1 (allB_at ha hk)
  have hst := h.starts hk zs.length (by simp)
  rw [nth_last] at hst
  refine ⟨setB_snoc (setB_left h.set) (mayB_iff.2 ⟨by simp; omega, by simp; omega, by simp; omega⟩) (setB_lastEnd h.set) (by simp; omega), fun i => ?_, fun hk' j hj => ?_⟩
  · rw [upto_succ, ← h.mem, wi_snoc, wi_snoc]
    unfold Has1
    simp only
    constructor
    · rintro (h1 | h1)
      · exact .inl (.inl h1)
      · rcases Int.lt_or_le i (x.1 + x.2) with h2 | h2
        · exact .inl (.inr ⟨h1.1, h2⟩)
        · exact .inr (by omega)
    · rintro ((h1 | h1) | h1)
      · exact .inl h1
      · exact .inr (by omega)
      · exact .inr (by omega)
  · have hrk := hr k (k + 1) (by omega) hk'
    rcases Nat.lt_or_ge j zs.length with h1 | h1
    · rw [nth_left h1]; have := h.starts hk j (by simp; omega); rw [nth_left h1] at this; omega
    · obtain rfl : j = zs.length := by simp at hj; omega
      rw [nth_last]; simp only; omega
theorem wi_perm {xs ys : List (Int × Int)} (h : ys.Perm xs) (i : Int) : wi ys i = wi xs i := by
  unfold wi
  rw [Bool.eq_iff_iff, List.any_eq_true, List.any_eq_true]
  exact ⟨fun ⟨x, hx, hh⟩ => ⟨x, h.mem_iff.1 hx, hh⟩, fun ⟨x, hx, hh⟩ => ⟨x, h.mem_iff.2 hx, hh⟩⟩
theorem allB_perm {xs ys : List (Int × Int)} (h : ys.Perm xs) (ha : allB xs = true) : allB ys = true := by
  unfold allB at *
  rw [List.all_eq_true] at *
  exact fun x hx => ha x (h.mem_iff.1 hx)
end Sp
end Go.Proofs.Ytbgadcofjhgmiaa

namespace Go.Proofs.Ytbgadcofjhgmiaa
open Go.RowKit
namespace Sp

/-- A row of the call's own. -/
def RowPost (xs : List (Int × Int)) (w : World) (e : Ending) (w' : World) : Prop := ∃ v, e = .returned v ∧ Own w' v xs ∧ From w.heap.size v ∧ Below w.heap.size w w'
theorem Sl.isNil {w : World} {n : Nat} {xs : List (Int × Int)} (h : Sl w none n xs) : n = 0 ∧ xs = [] := by
  have hl := h.len
  rcases Nat.eq_zero_or_pos xs.length with h0 | h0
  · exact ⟨by omega, List.eq_nil_of_length_eq_zero h0⟩
  · obtain ⟨b, off, hh, _⟩ := h.cells 0 h0
    simp at hh
theorem Sl.news {w : World} {ad : Addr} {n : Nat} {xs : List (Int × Int)} (h : Sl w (some ad) n xs) : ∀ j u, (enc2 xs)[j]? = some u → w.cell? (ad.add j) = some u := by
  intro j u hj
  have hl : j < xs.length * 2 := by
    have := (List.getElem?_eq_some_iff.1 hj).1
    rwa [enc2_length] at this
  obtain ⟨b, off, hh, _, c0, c1⟩ := h.cells (j / 2) (by omega)
  simp only [Option.some.injEq] at hh
  subst hh
  rw [Addr.add_lit]
  rcases Nat.mod_two_eq_zero_or_one j with h0 | h0
  · have := enc2_get0 xs (j / 2) (by omega)
    rw [show j / 2 * 2 = j by omega] at this c0
    rw [this] at hj
    rw [c0]; exact hj
  · have := enc2_get1 xs (j / 2) (by omega)
    rw [show j / 2 * 2 + 1 = j by omega] at this
    rw [show off + j / 2 * 2 + 1 = off + j by omega] at c1
    rw [this] at hj
    rw [c1]; exact hj

theorem enc2_set : ∀ (zs : List (Int × Int)) (x : Int × Int) (u : Int), (enc2 (zs ++ [x])).set (zs.length * 2 + 1) (.int .i64 u) = enc2 (zs ++ [(x.1, u)])
  | [], x, u => rfl
  | z :: r, x, u => by
    have := enc2_set r x u
    rw [List.length_cons, show (r.length + 1) * 2 + 1 = r.length * 2 + 1 + 2 by omega]
    simp [enc2, this]
/-- The last span's length is set. -/
theorem Own.setLast {w : World} {g cap : Nat} {zs : List (Int × Int)} {x : Int × Int} (u : Int) (h : Own w (.slice (some ⟨g, 0, none⟩) (zs.length + 1) cap) (zs ++ [x])) :
    Own (w.setCell ⟨g, zs.length * 2 + 1, none⟩ (.int .i64 u)) (.slice (some ⟨g, 0, none⟩) (zs.length + 1) cap) (zs ++ [(x.1, u)]) ∧ w.grownBy (w.setCell ⟨g, zs.length * 2 + 1, none⟩ (.int .i64 u)) (some g) := by
  have e1 : (zs ++ [x]).length = zs.length + 1 := by simp
  unfold Own at *
  rw [e1] at h
  have := h.stored (zs.length * 2 + 1) (.int .i64 u)
  rw [enc2_set] at this
  simpa using this
/-- A slice that owns a span more than zs has a row. -/
theorem Own.snocForm {w : World} {v : Value} {zs : List (Int × Int)} {x : Int × Int} (h : Own w v (zs ++ [x])) : ∃ g cap, v = .slice (some ⟨g, 0, none⟩) (zs.length + 1) cap ∧ g < w.heap.size ∧ w.cell? ⟨g, zs.length * 2, none⟩ = some (.int .i64 x.1) ∧ w.cell? ⟨g, zs.length * 2 + 1, none⟩ = some (.int .i64 x.2) ∧ w.frozen? ⟨g, zs.length * 2 + 1, none⟩ = false := by
  rcases id h with ⟨hx, ⟨hv, hn⟩ | ⟨g, cap, cur, hv, _, hg, hnc, hcm, hcs, htake⟩⟩
  · simp at hn
  · have e1 : (zs ++ [x]).length = zs.length + 1 := by simp
    rw [e1] at hv
    refine ⟨g, cap, hv, (Array.getElem?_eq_some_iff.1 hg).1, ?_, ?_, ?_⟩
    all_goals
      unfold Own at h
      rw [e1, hv] at h
    · rw [h.cellAt _ (by omega), enc2_get0 _ _ (by simp), nth_last]
    · rw [h.cellAt _ (by omega), enc2_get1 _ _ (by simp), nth_last]
    · exact h.frozenAt _

end Sp
end Go.Proofs.Ytbgadcofjhgmiaa

namespace Go.Proofs.Ytbgadcofjhgmiaa
open Go.RowKit
namespace Sp

/-- What Meet, Cut, Join and Gaps answer: a set of the call's own with these sectors. -/
def SetPost (S : Int → Prop) (w : World) (e : Ending) (w' : World) : Prop :=
  ∃ v ys, e = .returned (.tuple #[v, .int .i64 0]) ∧ Own w' v ys ∧ From w.heap.size v ∧ setB ys = true ∧ (∀ i, wi ys i = true ↔ S i) ∧ Below w.heap.size w w'
def ErrPost (w : World) (e : Ending) (w' : World) : Prop := e = .returned (.tuple #[.slice none 0 0, .int .i64 1]) ∧ Below w.heap.size w w'

end Sp
end Go.Proofs.Ytbgadcofjhgmiaa

namespace Go.Proofs.Ytbgadcofjhgmiaa
open Go.RowKit
namespace Sp

end Sp
end Go.Proofs.Ytbgadcofjhgmiaa

namespace Go.Proofs.Ytbgadcofjhgmiaa
open Go.RowKit
namespace Sp

theorem Own.sl' {w : World} {v : Value} {xs : List (Int × Int)} (h : Own w v xs) (hf : ∀ x ∈ xs, Fit x) : ∃ a cap, v = .slice a xs.length cap ∧ xs.length ≤ cap ∧ Sl w a xs.length xs := by
  obtain ⟨a, cap, hv, hs⟩ := h.sl hf
  refine ⟨a, cap, hv, ?_, hs⟩
  rcases id h with ⟨_, ⟨hv', hn⟩ | ⟨g, cap', cur, hv', _, _, hnc, _⟩⟩
  · omega
  · rw [hv] at hv'
    simp only [Value.slice.injEq] at hv'
    omega
theorem fit_of_set {xs : List (Int × Int)} (h : setB xs = true) : ∀ x ∈ xs, Fit x := fun x hx => Fit.of_may (by
  have := allB_setB h
  unfold allB at this
  rw [List.all_eq_true] at this
  exact this x hx)

end Sp
end Go.Proofs.Ytbgadcofjhgmiaa

namespace Go.Proofs.Ytbgadcofjhgmiaa
open Go.RowKit
namespace Sp

theorem Sl.one {w : World} {b : Nat} {s : Int × Int} (hb : b < w.heap.size) (hf : Fit s) (c0 : w.cell? ⟨b, 0, none⟩ = some (.int .i64 s.1)) (c1 : w.cell? ⟨b, 1, none⟩ = some (.int .i64 s.2)) : Sl w (some ⟨b, 0, none⟩) 1 [s] :=
  ⟨rfl, by omega, fun x hx => by simp at hx; subst hx; exact hf, fun i hi => by
    have : i = 0 := by simpa using hi
    subst this
    exact ⟨b, 0, rfl, hb, by simpa [nth] using c0, by simpa [nth] using c1⟩⟩
theorem Sl.lit (w : World) {s : Int × Int} (hf : Fit s) : Sl (w.alloc (.cells #[.int .i64 s.1, .int .i64 s.2] 43)) (some ⟨w.heap.size, 0, none⟩) 1 [s] :=
  Sl.one (by simp) hf (by simp) (by simp)
theorem setB_one_no {s : Int × Int} (h : mayB s = false) : setB [s] = false := setB_false (k := 0) (by simp) (okAt_no_may (by simpa [nth] using h))
theorem wi_one {s : Int × Int} {i : Int} : wi [s] i = true ↔ Has1 s i := by simp [wi, Has1]
theorem SetPost.mono {S S' : Int → Prop} {w w0 : World} {e : Ending} {w' : World} (h : SetPost S w e w') (hS : ∀ i, S i ↔ S' i) (hb : Below w0.heap.size w0 w) : SetPost S' w0 e w' := by
  obtain ⟨v, ys, he, ho, hf, hs, hm, hb'⟩ := h
  exact ⟨v, ys, he, ho, fun k hk => Nat.le_trans hb.size (hf k hk), hs, fun i => (hm i).trans (hS i), hb.trans (hb'.mono hb.size)⟩

/-- The first span of at least n sectors, cut to n. -/
def fitS (ys : List (Int × Int)) (n : Int) : Int × Int := match ys.find? (fun g => decide (n ≤ g.2)) with | some g => (g.1, n) | none => (0, 0)
def fitE (ys : List (Int × Int)) (n : Int) : Int := match ys.find? (fun g => decide (n ≤ g.2)) with | some _ => 0 | none => 15
theorem find_none {ys : List (Int × Int)} {n : Int} (h : ∀ j, j < ys.length → (nth ys j).2 < n) : ys.find? (fun g => decide (n ≤ g.2)) = none := by
  rw [List.find?_eq_none]
  intro x hx
  obtain ⟨k, hk, rfl⟩ := List.getElem_of_mem hx
  have := h k hk
  rw [nth_eq hk] at this
  simp; omega
theorem find_some {ys : List (Int × Int)} {n : Int} {k : Nat} (h : ∀ j, j < k → (nth ys j).2 < n) (hk : k < ys.length) (hc : n ≤ (nth ys k).2) : ys.find? (fun g => decide (n ≤ g.2)) = some (nth ys k) := by
  rw [List.find?_eq_some_iff_getElem]
  refine ⟨by simp [hc], k, hk, (nth_eq hk).symm, fun j hj => ?_⟩
  have := h j hj
  rw [nth_eq (by omega)] at this
  simp; omega
def FitPost (S : Int → Prop) (n : Int) (w : World) (e : Ending) (w' : World) : Prop := ∃ ys, setB ys = true ∧ (∀ i, wi ys i = true ↔ S i) ∧ e = .returned (.tuple #[.agg #[.int .i64 (fitS ys n).1, .int .i64 (fitS ys n).2], .int .i64 (fitE ys n)]) ∧ Below w.heap.size w w'
theorem two_box {w : World} {a b c d : Value} : Below w.heap.size w ((w.alloc (.cells #[a, b] 43)).alloc (.cells #[c, d] 43)) := (below_alloc w _).trans ((below_alloc _ _).mono (by simp))

def FitNo (w : World) (e : Ending) (w' : World) : Prop := e = .returned (.tuple #[.agg #[.int .i64 0, .int .i64 0], .int .i64 1]) ∧ Below w.heap.size w w'
end Sp
end Go.Proofs.Ytbgadcofjhgmiaa

namespace Go.Proofs.Ytbgadcofjhgmiaa
open Go.RowKit
namespace Sp

theorem same_false {xs ys : List (Int × Int)} {k : Nat} (_h1 : k < xs.length) (_h2 : k < ys.length) (h : ¬ nth xs k = nth ys k) : decide (xs = ys) = false := by
  simp only [decide_eq_false_iff_not]
  intro e
  subst e
  exact h rfl
theorem same_true {xs ys : List (Int × Int)} (hl : xs.length = ys.length) (h : ∀ k, k < xs.length → nth xs k = nth ys k) : decide (xs = ys) = true := by
  simp only [decide_eq_true_eq]
  refine List.ext_getElem hl fun k h1 h2 => ?_
  have := h k h1
  rwa [nth_eq h1, nth_eq h2] at this

set_option maxRecDepth 100000 in
set_option maxHeartbeats 1000000 in
theorem same_any (a b : Option Addr) (n m cap cap' : Nat) (xs ys : List (Int × Int)) (w : World) (hA : Sl w a n xs) (hB : Sl w b m ys) :
    Calls Try.prog 16 #[.slice a n cap, .slice b m cap'] w fun e w' => e = .returned (.bool (decide (xs = ys))) ∧ Below w.heap.size w w' := by
  have hn := hA.most
  have hn2 := hB.most
  by_cases hnm : n = m
  · have HL1 := hide hA.len
    have HL2 := hide hB.len
    subst hnm
    go_enter Try.func16, Try.ntmps16
    go_wp2
    go_loopw [5] (fun i wr => ∃ k : Nat, k ≤ n ∧ i = .int .i64 k ∧ (∀ j, j < k → nth xs j = nth ys j) ∧ Below w.heap.size w wr) (fun i _ => n - (intOf i).toNat)
    case atStart => exact ⟨0, Nat.zero_le _, rfl, by intro j hj; omega, Below.refl _ _⟩
    case round =>
      obtain ⟨k, hk, rfl, hok, hb⟩ := hrel
      by_cases hlt : k < n
      · obtain ⟨ba, offa, rfl, hbla, c0, c1⟩ := (hA.later hb).cells k (by have := HL1.out; omega)
        obtain ⟨bb, offb, rfl, hblb, d0, d1⟩ := (hB.later hb).cells k (by have := HL2.out; omega)
        have C0 := lcell hbla c0
        have C1 := lcell hbla c1
        have D0 := lcell hblb d0
        have D1 := lcell hblb d1
        have hne := later_ne wr
        have hgt : Try.prog.eqGuardType Try.prog.depth 27 = false := by kernel_rfl
        by_cases he : nth xs k = nth ys k
        · have Hok := hide (ext_lt hok he)
          rw [← he] at D0 D1
          clear hA hB hok he c0 c1 d0 d1
          generalize nth xs k = x at C0 C1 D0 D1
          go_wp2
          refine wp_region_later (by kernel_rfl) (by kernel_rfl) ?_
          (repeat (first | go_big_quiet_skip | (go_big_quiet_want; go_big_quiet_op; go_big_quiet_on)))
          refine wpQuiet_nil ?_
          rintro _ ⟨p, rfl⟩
          go_wp2
          go_roundw
          case rel => exact ⟨k + 1, by omega, by go_num, Hok.out, hb.trans (p.below.mono hb.size)⟩
          case measure => simp [intOf]; omega
        · have Hf := hide (same_false (by have := HL1.out; omega) (by have := HL2.out; omega) he)
          clear hA hB hok c0 c1 d0 d1
          generalize nth xs k = x at *
          generalize nth ys k = y at *
          by_cases h1 : x.1 = y.1
          · have h2 : ¬ x.2 = y.2 := fun h2 => he (Prod.ext h1 h2)
            clear he
            go_wp2
            refine wp_region_later (by kernel_rfl) (by kernel_rfl) ?_
            (repeat (first | go_big_quiet_skip | (go_big_quiet_want; go_big_quiet_op; go_big_quiet_on)))
            refine wpQuiet_nil ?_
            rintro _ ⟨p, rfl⟩
            go_wp2
            go_ret
            exact ⟨ret_bool Hf.out.symm, hb.trans (p.below.mono hb.size)⟩
          · clear he
            go_wp2
            refine wp_region_later (by kernel_rfl) (by kernel_rfl) ?_
            (repeat (first | go_big_quiet_skip | (go_big_quiet_want; go_big_quiet_op; go_big_quiet_on)))
            refine wpQuiet_nil ?_
            rintro _ ⟨p, rfl⟩
            go_wp2
            go_ret
            exact ⟨ret_bool Hf.out.symm, hb.trans (p.below.mono hb.size)⟩
      · have Ht := hide (same_true (xs := xs) (ys := ys) (by rw [← HL1.out, ← HL2.out]) fun j hj => hok j (by have := HL1.out; omega))
        clear hA hB hok
        go_wp2
        go_ret
        exact ⟨ret_bool Ht.out.symm, hb⟩
  · have Hf : Hid (decide (xs = ys) = false) := by
      show decide (xs = ys) = false
      simp only [decide_eq_false_iff_not]
      intro e
      apply hnm
      rw [hA.len, hB.len, e]
    have hd : ((n : Int) != (m : Int)) = true := by simp; omega
    clear hA hB
    go_enter Try.func16, Try.ntmps16
    go_wp2
    go_ret
    exact ⟨ret_bool Hf.out.symm, Below.refl _ _⟩

end Sp
end Go.Proofs.Ytbgadcofjhgmiaa
