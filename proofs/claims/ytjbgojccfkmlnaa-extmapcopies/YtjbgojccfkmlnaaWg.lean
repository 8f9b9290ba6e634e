/- sort.Search with the closures that places and cut hand it. -/
import Derived.Test.YtjbgojccfkmlnaaWf
namespace Go.Proofs.Ytjbgojccfkmlnaa
open Go.RowKit
namespace Wi

/-- Small enough for the program's numbers. -/
def Xt.Sm (x : Xt) : Prop := x.fin ≤ 65536 ∧ x.seq < 1099511627776 ∧ x.to + x.len ≤ 1099511693312
def Sm (l : List Xt) : Prop := ∀ x ∈ l, x.Sm
theorem Sm.get {l : List Xt} (h : Sm l) {i : Nat} {x : Xt} (hi : l[i]? = some x) : x.Sm := h x (List.mem_of_getElem? hi)
/-- A map in memory. -/
structure RawM (w : World) (b : Nat) (v : Value) (l : List Xt) : Prop where
  blk : w.heap[b]? = some (.cells #[v] 72 (0, 0))
  xs : Xs w v l
  no : v.ownBlock ≠ some b
theorem RawM.lt {w : World} {b : Nat} {v : Value} {l : List Xt} (h : RawM w b v l) : b < w.heap.size := lt_of_block h.blk
theorem RawM.later {w w' : World} {b : Nat} {v : Value} {l : List Xt} (h : RawM w b v l) (hb : Below w.heap.size w w') : RawM w' b v l := ⟨(hb.block b h.lt).trans h.blk, h.xs.later hb, h.no⟩
theorem RawM.c {w : World} {b : Nat} {v : Value} {l : List Xt} (h : RawM w b v l) : w.cell? ⟨b, 0, none⟩ = some v := by rw [cell_of_row w b 0 _ _ _ h.blk]; rfl
/-- A variable that a closure has. -/
def Box1 (w : World) (p : Nat) (v : Value) : Prop := w.cell? ⟨p, 0, none⟩ = some v ∧ p < w.heap.size
theorem Box1.later {w w' : World} {p : Nat} {v : Value} (h : Box1 w p v) (hb : Below w.heap.size w w') : Box1 w' p v := ⟨(hb.cell (p := ⟨p, 0, none⟩) h.2).trans h.1, Nat.lt_of_lt_of_le h.2 hb.size⟩
set_option maxHeartbeats 2000000 in
theorem cl60 {w : World} {b p q : Nat} {v : Value} {l : List Xt} (h : RawM w b v l) (hp : Box1 w p (.pointer (some ⟨b, 0, none⟩))) {at_ : Int} (hq : Box1 w q (.int .i64 at_)) {i : Nat} {x : Xt} (hi : l[i]? = some x) (hx : x.Sm) :
    Calls Try.prog 60 #[.int .i64 (i : Nat), .pointer (some ⟨p, 0, none⟩), .pointer (some ⟨q, 0, none⟩)] w fun e w' => e = .returned (.bool (decide (at_ < (x.fin : Nat)))) ∧ Below w.heap.size w w' := by
  obtain ⟨a, cap, rfl, hlc, hcm⟩ := h.xs.len
  obtain ⟨_, hat⟩ := h.xs.at
  obtain ⟨g, off, rfl, hX⟩ := hat i x hi
  have hil := (List.getElem?_eq_some_iff.1 hi).1
  obtain ⟨s1, s2, s3⟩ := hx
  unfold Xt.fin at s1
  have hc : ∀ P : Later w, _ := fun P => end_any (x.at_ : Nat) (x.len : Nat) ⟨by omega, by omega⟩ P.val
  have k0 : ∀ P : Later w, P.val.cell? ⟨p, 0, none⟩ = some (.pointer (some ⟨b, 0, none⟩)) := fun P => (hp.later P.below).1
  have k1 : ∀ P : Later w, P.val.cell? ⟨q, 0, none⟩ = some (.int .i64 at_) := fun P => (hq.later P.below).1
  have k2 : ∀ P : Later w, P.val.cell? ⟨b, 0, none⟩ = some (.slice (some ⟨g, off, none⟩) l.length cap) := fun P => (h.later P.below).c
  have k3 : ∀ P : Later w, P.val.cell? ⟨g, off + i * 4, none⟩ = some (.int .i64 (x.at_ : Nat)) := fun P => (hX.later P.below).c0
  have k4 : ∀ P : Later w, P.val.cell? ⟨g, off + i * 4 + 1, none⟩ = some (.int .i64 (x.len : Nat)) := fun P => (hX.later P.below).c1
  have hne := later_ne w
  have ef : ((x.fin : Nat) : Int) = (x.at_ : Int) + (x.len : Int) := by unfold Xt.fin; omega
  rw [ef]
  clear h hp hq hX hat hi ef
  generalize l.length = n at *
  go_enter Try.func60, Try.ntmps60
  go_wp2
  refine wp_region_later (by kernel_rfl) (by kernel_rfl) ?_
  (repeat (first | go_big_quiet_skip | (go_big_quiet_want; go_big_quiet_op; go_big_quiet_on)))
  (go_big_quiet_want; go_big_quiet_op; apply Exists.intro; refine ⟨fun p => ?_, ?_⟩; (· exact later_of (hc p)); go_big_quiet_on)
  (repeat (first | go_big_quiet_skip | (go_big_quiet_want; go_big_quiet_op; go_big_quiet_on)))
  refine wpQuiet_nil ?_
  rintro _ ⟨P, rfl⟩
  have HB := hide P.below
  generalize P.val = w2 at *
  clear hc k0 k1 k2 k3 k4 hne
  go_wp2
  go_ret
  exact ⟨rfl, HB.out⟩
set_option maxHeartbeats 2000000 in
theorem cl61 {w : World} {b p q : Nat} {v : Value} {l : List Xt} (h : RawM w b v l) (hp : Box1 w p (.pointer (some ⟨b, 0, none⟩))) {at_ : Int} (hq : Box1 w q (.int .i64 at_)) {i : Nat} {x : Xt} (hi : l[i]? = some x) :
    Calls Try.prog 61 #[.int .i64 (i : Nat), .pointer (some ⟨p, 0, none⟩), .pointer (some ⟨q, 0, none⟩)] w fun e w' => e = .returned (.bool (decide (at_ ≤ (x.at_ : Nat)))) ∧ Below w.heap.size w w' := by
  obtain ⟨a, cap, rfl, hlc, hcm⟩ := h.xs.len
  obtain ⟨_, hat⟩ := h.xs.at
  obtain ⟨g, off, rfl, hX⟩ := hat i x hi
  have hil := (List.getElem?_eq_some_iff.1 hi).1
  have k0 : ∀ P : Later w, P.val.cell? ⟨p, 0, none⟩ = some (.pointer (some ⟨b, 0, none⟩)) := fun P => (hp.later P.below).1
  have k1 : ∀ P : Later w, P.val.cell? ⟨q, 0, none⟩ = some (.int .i64 at_) := fun P => (hq.later P.below).1
  have k2 : ∀ P : Later w, P.val.cell? ⟨b, 0, none⟩ = some (.slice (some ⟨g, off, none⟩) l.length cap) := fun P => (h.later P.below).c
  have k3 : ∀ P : Later w, P.val.cell? ⟨g, off + i * 4, none⟩ = some (.int .i64 (x.at_ : Nat)) := fun P => (hX.later P.below).c0
  have hne := later_ne w
  clear h hp hq hX hat hi
  generalize l.length = n at *
  go_enter Try.func61, Try.ntmps61
  go_wp2
  refine wp_region_later (by kernel_rfl) (by kernel_rfl) ?_
  (repeat (first | go_big_quiet_skip | (go_big_quiet_want; go_big_quiet_op; go_big_quiet_on)))
  refine wpQuiet_nil ?_
  rintro _ ⟨P, rfl⟩
  have HB := hide P.below
  generalize P.val = w2 at *
  clear k0 k1 k2 k3 hne
  go_wp2
  go_ret
  exact ⟨rfl, HB.out⟩
set_option maxHeartbeats 2000000 in
theorem cl62 {w : World} {p q : Nat} {v : Value} {l : List Xt} (h : Xs w v l) (hp : Box1 w p v) {at_ : Int} (hq : Box1 w q (.int .i64 at_)) {i : Nat} {x : Xt} (hi : l[i]? = some x) (hx : x.Sm) :
    Calls Try.prog 62 #[.int .i64 (i : Nat), .pointer (some ⟨p, 0, none⟩), .pointer (some ⟨q, 0, none⟩)] w fun e w' => e = .returned (.bool (decide (at_ < (x.fin : Nat)))) ∧ Below w.heap.size w w' := by
  obtain ⟨a, cap, rfl, hlc, hcm⟩ := h.len
  obtain ⟨_, hat⟩ := h.at
  obtain ⟨g, off, rfl, hX⟩ := hat i x hi
  have hil := (List.getElem?_eq_some_iff.1 hi).1
  obtain ⟨s1, s2, s3⟩ := hx
  unfold Xt.fin at s1
  have hc : ∀ P : Later w, _ := fun P => end_any (x.at_ : Nat) (x.len : Nat) ⟨by omega, by omega⟩ P.val
  have k0 : ∀ P : Later w, P.val.cell? ⟨p, 0, none⟩ = some (.slice (some ⟨g, off, none⟩) l.length cap) := fun P => (hp.later P.below).1
  have k1 : ∀ P : Later w, P.val.cell? ⟨q, 0, none⟩ = some (.int .i64 at_) := fun P => (hq.later P.below).1
  have k3 : ∀ P : Later w, P.val.cell? ⟨g, off + i * 4, none⟩ = some (.int .i64 (x.at_ : Nat)) := fun P => (hX.later P.below).c0
  have k4 : ∀ P : Later w, P.val.cell? ⟨g, off + i * 4 + 1, none⟩ = some (.int .i64 (x.len : Nat)) := fun P => (hX.later P.below).c1
  have hne := later_ne w
  have ef : ((x.fin : Nat) : Int) = (x.at_ : Int) + (x.len : Int) := by unfold Xt.fin; omega
  rw [ef]
  clear h hp hq hX hat hi ef
  generalize l.length = n at *
  go_enter Try.func62, Try.ntmps62
  go_wp2
  refine wp_region_later (by kernel_rfl) (by kernel_rfl) ?_
  (repeat (first | go_big_quiet_skip | (go_big_quiet_want; go_big_quiet_op; go_big_quiet_on)))
  (go_big_quiet_want; go_big_quiet_op; apply Exists.intro; refine ⟨fun p => ?_, ?_⟩; (· exact later_of (hc p)); go_big_quiet_on)
  (repeat (first | go_big_quiet_skip | (go_big_quiet_want; go_big_quiet_op; go_big_quiet_on)))
  refine wpQuiet_nil ?_
  rintro _ ⟨P, rfl⟩
  have HB := hide P.below
  generalize P.val = w2 at *
  clear hc k0 k1 k3 k4 hne
  go_wp2
  go_ret
  exact ⟨rfl, HB.out⟩

set_option maxHeartbeats 4000000 in
theorem search60 {w : World} {c1 c2 : Value} (n r : Nat) (p : Nat → Bool) (hn : n ≤ 1000000) (hr : r ≤ n) (h0 : ∀ i, i < r → p i = false) (h1 : ∀ i, r ≤ i → i < n → p i = true)
    (hf : ∀ i, i < n → ∀ w', Below w.heap.size w w' → Calls Try.prog 60 #[.int .i64 (i : Nat), c1, c2] w' fun e w'' => e = .returned (.bool (p i)) ∧ Below w'.heap.size w' w'') :
    Calls Try.prog 59 #[.int .i64 (n : Nat), .func (.func 60) #[] #[c1, c2]] w fun e w' => e = .returned (.int .i64 (r : Nat)) ∧ Below w.heap.size w w' := by
  have H0 := hide h0
  have H1 := hide h1
  have HF := hide hf
  clear h0 h1 hf
  go_enter Try.func59, Try.ntmps59
  go_wp2
  go_loopw [5, 6] (fun x y wr => ∃ i j : Nat, i ≤ r ∧ r ≤ j ∧ j ≤ n ∧ x = .int .i64 i ∧ y = .int .i64 j ∧ Below w.heap.size w wr) (fun x y _ => (intOf y).toNat - (intOf x).toNat)
  case atStart => exact ⟨0, n, Nat.zero_le _, hr, Nat.le_refl _, rfl, rfl, Below.refl _ _⟩
  case round =>
    obtain ⟨i, j, hi, hj, hjn, rfl, rfl, hb⟩ := hrel
    by_cases hlt : i < j
    · obtain ⟨m, hm⟩ : ∃ m, (i + j) / 2 = m := ⟨_, rfl⟩
      have m1 : i ≤ m := by omega
      have m2 : m < j := by omega
      have w1 : ((i : Int) + (j : Int)) / 2 = (m : Int) := by omega
      have hmb : m ≤ 1000000 := by omega
      have hc := HF.out m (by omega) wr hb
      clear hm
      by_cases hmr : m < r
      · rw [H0.out m hmr] at hc
        go_wp2_with fail
        refine hc.mono ?_
        rintro e w2 ⟨rfl, hb2⟩
        have hb3 := hide (hb.trans (hb2.mono hb.size))
        clear hc hb hb2
        go_wp2
        go_roundw
        case rel => exact ⟨m + 1, j, by omega, hj, hjn, by go_num, rfl, hb3.out⟩
        case measure => simp [intOf]; omega
      · rw [H1.out m (by omega) (by omega)] at hc
        go_wp2_with fail
        refine hc.mono ?_
        rintro e w2 ⟨rfl, hb2⟩
        have hb3 := hide (hb.trans (hb2.mono hb.size))
        clear hc hb hb2
        go_wp2
        go_roundw
        case rel => exact ⟨i, m, hi, by omega, by omega, rfl, rfl, hb3.out⟩
        case measure => simp [intOf]; omega
    · obtain rfl : i = j := by omega
      obtain rfl : r = i := by omega
      clear hi hj
      go_wp2
      go_ret
      exact ⟨rfl, hb⟩

set_option maxHeartbeats 4000000 in
theorem search61 {w : World} {c1 c2 : Value} (n r : Nat) (p : Nat → Bool) (hn : n ≤ 1000000) (hr : r ≤ n) (h0 : ∀ i, i < r → p i = false) (h1 : ∀ i, r ≤ i → i < n → p i = true)
    (hf : ∀ i, i < n → ∀ w', Below w.heap.size w w' → Calls Try.prog 61 #[.int .i64 (i : Nat), c1, c2] w' fun e w'' => e = .returned (.bool (p i)) ∧ Below w'.heap.size w' w'') :
    Calls Try.prog 59 #[.int .i64 (n : Nat), .func (.func 61) #[] #[c1, c2]] w fun e w' => e = .returned (.int .i64 (r : Nat)) ∧ Below w.heap.size w w' := by
  have H0 := hide h0
  have H1 := hide h1
  have HF := hide hf
  clear h0 h1 hf
  go_enter Try.func59, Try.ntmps59
  go_wp2
  go_loopw [5, 6] (fun x y wr => ∃ i j : Nat, i ≤ r ∧ r ≤ j ∧ j ≤ n ∧ x = .int .i64 i ∧ y = .int .i64 j ∧ Below w.heap.size w wr) (fun x y _ => (intOf y).toNat - (intOf x).toNat)
  case atStart => exact ⟨0, n, Nat.zero_le _, hr, Nat.le_refl _, rfl, rfl, Below.refl _ _⟩
  case round =>
    obtain ⟨i, j, hi, hj, hjn, rfl, rfl, hb⟩ := hrel
    by_cases hlt : i < j
    · obtain ⟨m, hm⟩ : ∃ m, (i + j) / 2 = m := ⟨_, rfl⟩
      have m1 : i ≤ m := by omega
      have m2 : m < j := by omega
      have w1 : ((i : Int) + (j : Int)) / 2 = (m : Int) := by omega
      have hmb : m ≤ 1000000 := by omega
      have hc := HF.out m (by omega) wr hb
      clear hm
      by_cases hmr : m < r
      · rw [H0.out m hmr] at hc
        go_wp2_with fail
        refine hc.mono ?_
        rintro e w2 ⟨rfl, hb2⟩
        have hb3 := hide (hb.trans (hb2.mono hb.size))
        clear hc hb hb2
        go_wp2
        go_roundw
        case rel => exact ⟨m + 1, j, by omega, hj, hjn, by go_num, rfl, hb3.out⟩
        case measure => simp [intOf]; omega
      · rw [H1.out m (by omega) (by omega)] at hc
        go_wp2_with fail
        refine hc.mono ?_
        rintro e w2 ⟨rfl, hb2⟩
        have hb3 := hide (hb.trans (hb2.mono hb.size))
        clear hc hb hb2
        go_wp2
        go_roundw
        case rel => exact ⟨i, m, hi, by omega, by omega, rfl, rfl, hb3.out⟩
        case measure => simp [intOf]; omega
    · obtain rfl : i = j := by omega
      obtain rfl : r = i := by omega
      clear hi hj
      go_wp2
      go_ret
      exact ⟨rfl, hb⟩

set_option maxHeartbeats 4000000 in
theorem search62 {w : World} {c1 c2 : Value} (n r : Nat) (p : Nat → Bool) (hn : n ≤ 1000000) (hr : r ≤ n) (h0 : ∀ i, i < r → p i = false) (h1 : ∀ i, r ≤ i → i < n → p i = true)
    (hf : ∀ i, i < n → ∀ w', Below w.heap.size w w' → Calls Try.prog 62 #[.int .i64 (i : Nat), c1, c2] w' fun e w'' => e = .returned (.bool (p i)) ∧ Below w'.heap.size w' w'') :
    Calls Try.prog 59 #[.int .i64 (n : Nat), .func (.func 62) #[] #[c1, c2]] w fun e w' => e = .returned (.int .i64 (r : Nat)) ∧ Below w.heap.size w w' := by
  have H0 := hide h0
  have H1 := hide h1
  have HF := hide hf
  clear h0 h1 hf
  go_enter Try.func59, Try.ntmps59
  go_wp2
  go_loopw [5, 6] (fun x y wr => ∃ i j : Nat, i ≤ r ∧ r ≤ j ∧ j ≤ n ∧ x = .int .i64 i ∧ y = .int .i64 j ∧ Below w.heap.size w wr) (fun x y _ => (intOf y).toNat - (intOf x).toNat)
  case atStart => exact ⟨0, n, Nat.zero_le _, hr, Nat.le_refl _, rfl, rfl, Below.refl _ _⟩
  case round =>
    obtain ⟨i, j, hi, hj, hjn, rfl, rfl, hb⟩ := hrel
    by_cases hlt : i < j
    · obtain ⟨m, hm⟩ : ∃ m, (i + j) / 2 = m := ⟨_, rfl⟩
      have m1 : i ≤ m := by omega
      have m2 : m < j := by omega
      have w1 : ((i : Int) + (j : Int)) / 2 = (m : Int) := by omega
      have hmb : m ≤ 1000000 := by omega
      have hc := HF.out m (by omega) wr hb
      clear hm
      by_cases hmr : m < r
      · rw [H0.out m hmr] at hc
        go_wp2_with fail
        refine hc.mono ?_
        rintro e w2 ⟨rfl, hb2⟩
        have hb3 := hide (hb.trans (hb2.mono hb.size))
        clear hc hb hb2
        go_wp2
        go_roundw
        case rel => exact ⟨m + 1, j, by omega, hj, hjn, by go_num, rfl, hb3.out⟩
        case measure => simp [intOf]; omega
      · rw [H1.out m (by omega) (by omega)] at hc
        go_wp2_with fail
        refine hc.mono ?_
        rintro e w2 ⟨rfl, hb2⟩
        have hb3 := hide (hb.trans (hb2.mono hb.size))
        clear hc hb hb2
        go_wp2
        go_roundw
        case rel => exact ⟨i, m, hi, by omega, by omega, rfl, rfl, hb3.out⟩
        case measure => simp [intOf]; omega
    · obtain rfl : i = j := by omega
      obtain rfl : r = i := by omega
      clear hi hj
      go_wp2
      go_ret
      exact ⟨rfl, hb⟩

end Wi
end Go.Proofs.Ytjbgojccfkmlnaa
