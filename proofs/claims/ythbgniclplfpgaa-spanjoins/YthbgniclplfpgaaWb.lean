/- A part of the proofs about package span: what its functions answer, call by call. -/
import Derived.Test.YthbgniclplfpgaaWa
namespace Go.Proofs.Ythbgniclplfpgaa
open Go.RowKit
namespace Sp

/-- A later world: all that lay in w lies unturned. -/
structure Later (w : World) where
  val : World
  below : Below w.heap.size w val

theorem later_ne (w : World) : Nonempty (Later w) := ⟨⟨w, Below.refl _ _⟩⟩

theorem wp_region_later {P : Program} {id : Nat} {Q : Exit → Act → World → Prop} {a : Act} {w : World} {l : List Oper} (hm : P.follows .mixedOrders = true) (hB : Region.lexB .any l.toArray = true)
    (h : wpQuiet P l.toArray (fun w' => ∃ p : Later w, w' = p.val) (fun a' => ∀ w', (∃ p : Later w, w' = p.val) → Q .normal a' w') l a) : (Code.region id l.toArray true).wp P Q a w :=
  wp_region_quiet (C := fun w' => ∃ p : Later w, w' = p.val) hm hB ⟨⟨w.drew, (Below.refl _ _).drew⟩, rfl⟩ (by simpa using h)

/-- A callee's contract, met in a later world. -/
theorem later_of {P : Program} {f : FuncId} {args : Array Value} {w : World} {p : Later w} {v : Value}
    (h : Calls P f args p.val fun e w' => e = .returned v ∧ Below p.val.heap.size p.val w') : Calls P f args p.val fun e w'' => e = .returned v ∧ ∃ p : Later w, w'' = p.val :=
  h.mono fun _ w' ⟨he, hb⟩ => ⟨he, ⟨w', p.below.trans (hb.mono p.below.size)⟩, rfl⟩

/-- Both numbers of a span are of the machine. -/
def Fit (x : Int × Int) : Prop := (-9223372036854775808 ≤ x.1 ∧ x.1 ≤ 9223372036854775807) ∧ (-9223372036854775808 ≤ x.2 ∧ x.2 ≤ 9223372036854775807)
theorem Fit.of_may {x : Int × Int} (h : mayB x = true) : Fit x := by rw [mayB_iff] at h; unfold Fit; omega

/-- A slice's memory holds these spans. -/
structure Sl (w : World) (a : Option Addr) (n : Nat) (xs : List (Int × Int)) : Prop where
  len : n = xs.length
  most : n ≤ 9223372036854775807
  fit : ∀ x ∈ xs, Fit x
  cells : ∀ i, i < xs.length → ∃ b off, a = some ⟨b, off, none⟩ ∧ b < w.heap.size ∧ w.cell? ⟨b, off + i * 2, none⟩ = some (.int .i64 (nth xs i).1) ∧ w.cell? ⟨b, off + i * 2 + 1, none⟩ = some (.int .i64 (nth xs i).2)

theorem Sl.later {w : World} {a : Option Addr} {n : Nat} {xs : List (Int × Int)} (h : Sl w a n xs) {wr : World} (hb : Below w.heap.size w wr) : Sl wr a n xs :=
  ⟨h.len, h.most, h.fit, fun i hi => by
    obtain ⟨b, off, ha, hbl, c0, c1⟩ := h.cells i hi
    exact ⟨b, off, ha, Nat.lt_of_lt_of_le hbl hb.size, (hb.cell hbl).trans c0, (hb.cell hbl).trans c1⟩⟩
theorem lcell {w : World} {a : Addr} {v : Value} (hb : a.block < w.heap.size) (h : w.cell? a = some v) (p : Later w) : p.val.cell? a = some v := (p.below.cell hb).trans h
theorem below_alloc (w : World) (o : Obj) : Below w.heap.size w (w.alloc o) := (Below.refl _ _).alloc (Nat.le_refl _) _

theorem rmay_b (x : Int × Int) (w : World) (h : Fit x) : Calls Try.prog 14 #[.agg #[.int .i64 x.1, .int .i64 x.2]] w fun e w' => e = .returned (.bool (mayB x)) ∧ Below w.heap.size w w' :=
  (rmay_any x.1 x.2 w h.1 h.2).mono fun _ _ ⟨he, hw⟩ => ⟨he, by rw [hw]; exact below_alloc _ _⟩
theorem may_b (x : Int × Int) (w : World) (h : Fit x) : Calls Try.prog 13 #[.agg #[.int .i64 x.1, .int .i64 x.2]] w fun e w' => e = .returned (.int .i64 (errMay x)) ∧ Below w.heap.size w w' :=
  (may_any x.1 x.2 w h.1 h.2).mono fun _ _ ⟨he, hw⟩ => ⟨he, by rw [hw]; exact below_alloc _ _⟩
theorem end_b (x : Int × Int) (w : World) (h : mayB x = true) : Calls Try.prog 31 #[.agg #[.int .i64 x.1, .int .i64 x.2]] w fun e w' => e = .returned (.int .i64 (x.1 + x.2)) ∧ Below w.heap.size w w' :=
  (end_any x.1 x.2 w (by rw [mayB_iff] at h; omega)).mono fun _ _ ⟨he, hw⟩ => ⟨he, by rw [hw]; exact below_alloc _ _⟩

set_option maxHeartbeats 1000000 in
theorem rcheck_any (a : Option Addr) (n cap : Nat) (xs : List (Int × Int)) (w : World) (h : Sl w a n xs) :
    Calls Try.prog 15 #[.slice a n cap] w fun e w' => e = .returned (.bool (setB xs)) ∧ Below w.heap.size w w' := by
  have hn := h.most
  go_enter Try.func15, Try.ntmps15
  go_wp2
  go_loopw [3] (fun i wr => ∃ k : Nat, k ≤ n ∧ i = .int .i64 k ∧ (∀ j, j < k → okAt xs j = true) ∧ Below w.heap.size w wr) (fun i _ => n - (intOf i).toNat)
  case atStart => exact ⟨0, Nat.zero_le _, rfl, by intro j hj; omega, Below.refl _ _⟩
  case round =>
    obtain ⟨k, hk, rfl, hok, hb⟩ := hrel
    have hlen := h.len
    by_cases hlt : k < n
    · obtain ⟨b, off, rfl, hbl, c0, c1⟩ := (h.later hb).cells k (by omega)
      have hfit := h.fit _ (nth_mem (k := k) (by omega))
      have hr : ∀ p : Later wr, _ := fun p => rmay_b (nth xs k) p.val hfit
      have C0 := lcell hbl c0
      have C1 := lcell hbl c1
      have hne := later_ne wr
      cases hm : mayB (nth xs k) with
      | false =>
        have Hf : Hid (setB xs = false) := setB_false (by omega) (okAt_no_may hm)
        rw [hm] at hr
        clear c0 c1 hok hfit hm hlen h
        generalize nth xs k = x at *
        go_wp2
        refine wp_region_later (by kernel_rfl) (by kernel_rfl) ?_
        repeat (first | go_big_quiet_skip | (go_big_quiet_want; go_big_quiet_op; first | go_big_quiet_on | (apply Exists.intro; refine ⟨fun p => ?_, ?_⟩; (· exact later_of (hr p)); go_big_quiet_on)))
        refine wpQuiet_nil ?_
        rintro _ ⟨p, rfl⟩
        go_wp2
        go_ret
        exact ⟨ret_bool Hf.out.symm, hb.trans (p.below.mono hb.size)⟩
      | true =>
        by_cases hk0 : k = 0
        · have Hok : ∀ j, j < k + 1 → okAt xs j = true := ext_lt hok (okAt_first hk0 hm)
          have hkd : decide (0 < k) = false := by simp; omega
          rw [hm] at hr
          clear c0 c1 hok hfit hm hk0 hlen h
          generalize nth xs k = x at *
          go_wp2
          refine wp_region_later (by kernel_rfl) (by kernel_rfl) ?_
          repeat (first | go_big_quiet_skip | (go_big_quiet_want; go_big_quiet_op; first | go_big_quiet_on | (apply Exists.intro; refine ⟨fun p => ?_, ?_⟩; (· exact later_of (hr p)); go_big_quiet_on)))
          refine wpQuiet_nil ?_
          rintro _ ⟨p, rfl⟩
          go_wp2
          go_roundw
          case rel => exact ⟨k + 1, by omega, by go_num, Hok, hb.trans (p.below.mono hb.size)⟩
          case measure => simp [intOf]; omega
        · obtain ⟨k, rfl⟩ : ∃ j, k = j + 1 := ⟨k - 1, by omega⟩
          obtain ⟨b', off', ha', hbl', d0, d1⟩ := (h.later hb).cells k (by omega)
          simp only [Option.some.injEq, Addr.mk.injEq, and_true] at ha'
          obtain ⟨rfl, rfl⟩ := ha'
          have D0 := lcell hbl d0
          have D1 := lcell hbl d1
          have hmk := mayB_iff.1 (okAt_may (hok k (by omega)))
          have hbd := hfit
          unfold Fit at hbd
          by_cases hcmp : (nth xs k).1 + (nth xs k).2 < (nth xs (k + 1)).1
          · have Hok : ∀ j, j < k + 1 + 1 → okAt xs j = true := ext_lt hok (okAt_succ hm hcmp)
            rw [hm] at hr
            clear c0 c1 hok hfit hm d0 d1 hlen h
            generalize nth xs (k + 1) = x at *
            generalize nth xs k = y at *
            go_wp2
            refine wp_region_later (by kernel_rfl) (by kernel_rfl) ?_
            repeat (first | go_big_quiet_skip | (go_big_quiet_want; go_big_quiet_op; first | go_big_quiet_on | (apply Exists.intro; refine ⟨fun p => ?_, ?_⟩; (· exact later_of (hr p)); go_big_quiet_on)))
            refine wpQuiet_nil ?_
            rintro _ ⟨p, rfl⟩
            go_wp2
            go_roundw
            case rel => exact ⟨k + 1 + 1, by omega, by go_num, Hok, hb.trans (p.below.mono hb.size)⟩
            case measure => simp [intOf]; omega
          · have Hf : Hid (setB xs = false) := setB_false (k := k + 1) (by omega) (okAt_succ_no hcmp)
            rw [hm] at hr
            clear c0 c1 hok hfit hm d0 d1 hlen h
            generalize nth xs (k + 1) = x at *
            generalize nth xs k = y at *
            go_wp2
            refine wp_region_later (by kernel_rfl) (by kernel_rfl) ?_
            repeat (first | go_big_quiet_skip | (go_big_quiet_want; go_big_quiet_op; first | go_big_quiet_on | (apply Exists.intro; refine ⟨fun p => ?_, ?_⟩; (· exact later_of (hr p)); go_big_quiet_on)))
            refine wpQuiet_nil ?_
            rintro _ ⟨p, rfl⟩
            go_wp2
            go_ret
            exact ⟨ret_bool Hf.out.symm, hb.trans (p.below.mono hb.size)⟩
    · have Ht : Hid (setB xs = true) := setB_true fun j hj => hok j (by omega)
      clear hok hlen h
      go_wp2
      go_ret
      exact ⟨ret_bool Ht.out.symm, hb⟩
end Sp
end Go.Proofs.Ythbgniclplfpgaa
