/- Rows that are sorted: Go's stable sort, walked at any length. -/
import Derived.Test.YtgdfmoehbgmfkaaLf
import Derived.Test.YtgdfmoehbgmfkaaLr
namespace Go.Proofs.Ytgdfmoehbgmfkaa
open Go.RowKit
namespace Li
open Wi
/-- A row's memory holds these rows, which may be victims. -/
structure Sv (w : World) (base g cap : Nat) (d : List Vr) : Prop where
  own : w.ownsRow base 58 3 (.slice (some ⟨g, 0, none⟩) d.length cap) d.length (rcs (d.map (·.1)))
theorem Sv.cell {w : World} {base g cap : Nat} {d : List Vr} (h : Sv w base g cap d) {i : Nat} {x : Vr} (hx : d[i]? = some x) : w.cell? ⟨g, i * 3, none⟩ = some (.int .i64 x.1.1) ∧ w.cell? ⟨g, i * 3 + 1, none⟩ = some (.int .i64 x.1.2.1) ∧ w.cell? ⟨g, i * 3 + 2, none⟩ = some (.int .i64 x.1.2.2) := by
  have hil := (List.getElem?_eq_some_iff.1 hx).1
  have hm : (d.map (·.1))[i]! = x.1 := by
    rw [getElem!_pos _ i (by rw [List.length_map]; exact hil), List.getElem_map]
    rw [List.getElem?_eq_getElem hil] at hx
    injection hx with hx
    rw [hx]
  have c : ∀ j, j < 3 → w.cell? ⟨g, i * 3 + j, none⟩ = (rc x.1)[j]? := fun j hj => by
    rw [World.ownsRow.cellAt h.own (i * 3 + j) (by omega), rcs_get _ (i * 3 + j) (by rw [List.length_map]; omega), show (i * 3 + j) / 3 = i by omega, show (i * 3 + j) % 3 = j by omega, hm]
    match j, hj with
    | 0, _ => rfl
    | 1, _ => rfl
    | 2, _ => rfl
  exact ⟨c 0 (by omega), c 1 (by omega), c 2 (by omega)⟩
theorem Sv.frozen {w : World} {base g cap : Nat} {d : List Vr} (h : Sv w base g cap d) (j : Nat) : w.frozen? ⟨g, j, none⟩ = false := World.ownsRow.frozenAt h.own j
def store3 (w : World) (g p : Nat) (y : Vr) : World := ((w.setCell ⟨g, p * 3, none⟩ (.int .i64 y.1.1)).setCell ⟨g, p * 3 + 1, none⟩ (.int .i64 y.1.2.1)).setCell ⟨g, p * 3 + 2, none⟩ (.int .i64 y.1.2.2)
theorem rcs_set3 : ∀ (l : List Ro) (i : Nat) (y : Ro), i < l.length → (((rcs l).set (i * 3) (.int .i64 y.1)).set (i * 3 + 1) (.int .i64 y.2.1)).set (i * 3 + 2) (.int .i64 y.2.2) = rcs (l.set i y)
  | [], i, _, h => by simp at h
  | p :: r, 0, y, _ => by simp [rcs, rc]
  | p :: r, i + 1, y, h => by
    have ih := rcs_set3 r i y (by simpa using h)
    have e : rcs (p :: r) = .int .i64 p.1 :: .int .i64 p.2.1 :: .int .i64 p.2.2 :: rcs r := rfl
    have e2 : rcs ((p :: r).set (i + 1) y) = .int .i64 p.1 :: .int .i64 p.2.1 :: .int .i64 p.2.2 :: rcs (r.set i y) := rfl
    rw [e, e2, ← ih, show (i + 1) * 3 = i * 3 + 1 + 1 + 1 by omega, show i * 3 + 1 + 1 + 1 + 1 = i * 3 + 1 + 1 + 1 + 1 from rfl, show i * 3 + 1 + 1 + 1 + 2 = i * 3 + 2 + 1 + 1 + 1 by omega]
    simp only [List.set_cons_succ]
theorem Sv.put {w : World} {base g cap : Nat} {d : List Vr} (h : Sv w base g cap d) {p : Nat} (y : Vr) (hp : p < d.length) : Sv (store3 w g p y) base g cap (d.set p y) ∧ w.grownBy (store3 w g p y) (some g) := by
  obtain ⟨h1, g1⟩ := World.ownsRow.stored h.own (p * 3) (.int .i64 y.1.1)
  obtain ⟨h2, g2⟩ := World.ownsRow.stored h1 (p * 3 + 1) (.int .i64 y.1.2.1)
  obtain ⟨h3, g3⟩ := World.ownsRow.stored h2 (p * 3 + 2) (.int .i64 y.1.2.2)
  rw [rcs_set3 _ p y.1 (by rw [List.length_map]; exact hp)] at h3
  refine ⟨⟨?_⟩, (g1.trans g2).trans g3⟩
  rw [List.length_set, List.map_set]
  exact h3
theorem Sv.drew {w : World} {base g cap : Nat} {d : List Vr} (h : Sv w base g cap d) : Sv w.drew base g cap d := ⟨h.own⟩
theorem grb_drew {w w' : World} {row : Option Nat} (h : w.grownBy w' row) : w.grownBy w'.drew row := ⟨h.os, h.tape, h.output, h.size, h.block⟩
def swapL (d : List Vr) (i j : Nat) : List Vr := (d.set i d[j]!).set j d[i]!
def swapRangeL (d : List Vr) (a b : Nat) : Nat → List Vr
  | 0 => d
  | n + 1 => swapL (swapRangeL d a b n) (a + n) (b + n)
theorem swapL_len (d : List Vr) (i j : Nat) : (swapL d i j).length = d.length := by simp [swapL]
theorem swapRangeL_len (d : List Vr) (a b : Nat) : ∀ n, (swapRangeL d a b n).length = d.length
  | 0 => rfl
  | n + 1 => by rw [swapRangeL, swapL_len, swapRangeL_len d a b n]
set_option maxHeartbeats 8000000 in
set_option maxRecDepth 100000 in
theorem swapRange_any {w : World} {base g cap : Nat} {d : List Vr} (c : Value) (a b n : Nat) (hS : Sv w base g cap d) (ha : a + n ≤ d.length) (hb : b + n ≤ d.length) (hd : d.length ≤ 1000000) :
    Calls Try.prog 98 #[.slice (some ⟨g, 0, none⟩) d.length cap, .int .i64 (a : Nat), .int .i64 (b : Nat), .int .i64 (n : Nat), c] w fun e w' => e = .returned (.tuple #[]) ∧ Sv w' base g cap (swapRangeL d a b n) ∧ w.grownBy w' (some g) := by
  have HS := hide hS
  clear hS
  generalize hN : d.length = N at *
  have HN := hide hN
  clear hN
  go_enter Try.func98, Try.ntmps98
  go_wp2
  go_loopw [10] (fun i wr => ∃ k : Nat, k ≤ n ∧ i = .int .i64 k ∧ Sv wr base g cap (swapRangeL d a b k) ∧ w.grownBy wr (some g)) (fun i _ => n - (intOf i).toNat)
  case atStart => exact ⟨0, Nat.zero_le _, rfl, HS.out, ⟨rfl, rfl, rfl, Nat.le_refl _, fun _ _ _ => rfl⟩⟩
  case round =>
    obtain ⟨k, hk, rfl, hsv, hgr⟩ := hrel
    by_cases hlt : k < n
    · have hlen := swapRangeL_len d a b k
      rw [HN.out] at hlen
      have HSW : Hid (swapRangeL d a b (k + 1) = swapL (swapRangeL d a b k) (a + k) (b + k)) := rfl
      generalize swapRangeL d a b k = d1 at *
      obtain ⟨x, hx⟩ : ∃ x, d1[a + k]? = some x := ⟨_, List.getElem?_eq_getElem (by omega)⟩
      obtain ⟨y, hy⟩ : ∃ y, d1[b + k]? = some y := ⟨_, List.getElem?_eq_getElem (by omega)⟩
      obtain ⟨c0, c1, c2⟩ := hsv.cell hx
      obtain ⟨d0, d1', d2⟩ := hsv.cell hy
      have hfz := hsv.frozen
      obtain ⟨hs2, hg2⟩ := hsv.put y (p := a + k) (by omega)
      obtain ⟨z, hz⟩ : ∃ z, (d1.set (a + k) y)[b + k]? = some z := ⟨_, List.getElem?_eq_getElem (by rw [List.length_set]; omega)⟩
      obtain ⟨e0, e1, e2⟩ := hs2.cell hz
      have hfz2 := hs2.frozen
      obtain ⟨hs3, hg3⟩ := hs2.put x (p := b + k) (by rw [List.length_set]; omega)
      have HFIN : Hid (Sv (store3 (store3 wr g (a + k) y) g (b + k) x) base g cap (swapL d1 (a + k) (b + k)) ∧ w.grownBy (store3 (store3 wr g (a + k) y) g (b + k) x) (some g)) := by
        refine ⟨?_, ((hgr.trans hg2).trans hg3)⟩
        unfold swapL
        rw [getElem!_pos d1 (b + k) (by omega), getElem!_pos d1 (a + k) (by omega), (List.getElem?_eq_some_iff.1 hy).2, (List.getElem?_eq_some_iff.1 hx).2]
        exact hs3
      unfold store3 at e0 e1 e2 hfz2 HFIN
      have HSV := hide hsv
      have HGR := hide hgr
      have HX := hide hx
      have HY := hide hy
      have i1 : ((a : Int) + (k : Int)) = ((a + k : Nat) : Int) := by omega
      have i2 : ((b : Int) + (k : Int)) = ((b + k : Nat) : Int) := by omega
      have hlp : a + k < N := by omega
      have hlq : b + k < N := by omega
      clear hx hy hsv hgr hz hs2 hg2 hs3 hg3
      generalize a + k = p at *
      generalize b + k = q at *
      go_wp2
      go_region
      go_wp2
      exact ⟨⟨k + 1, by omega, by go_num, by rw [HSW.out]; exact HFIN.out.1.drew, grb_drew HFIN.out.2⟩, by simp [intOf]; omega⟩
    · obtain rfl : k = n := by omega
      have HSV := hide hsv
      have HGR := hide hgr
      clear hsv hgr
      go_wp2
      go_end0
      exact ⟨rfl, HSV.out, HGR.out⟩
end Li
end Go.Proofs.Ytgdfmoehbgmfkaa

namespace Go.Proofs.Ytgdfmoehbgmfkaa
open Go.RowKit
namespace Li
open Wi
/-- Two stretches beside each other change places. -/
def rotL (d : List Vr) (m i j : Nat) : List Vr :=
  if i = j then swapRangeL d (m - i) m i
  else if i = 0 ∨ j = 0 then d
  else if j < i then rotL (swapRangeL d (m - i) m j) m (i - j) j
  else rotL (swapRangeL d (m - i) (m + j - i) i) m i (j - i)
termination_by i + j
decreasing_by
  · omega
  · omega
theorem rotL_eq (d : List Vr) (m i : Nat) : rotL d m i i = swapRangeL d (m - i) m i := by rw [rotL, if_pos rfl]
theorem rotL_gt {d : List Vr} {m i j : Nat} (h : j < i) (h0 : 0 < j) : rotL d m i j = rotL (swapRangeL d (m - i) m j) m (i - j) j := by
  rw [rotL, if_neg (by omega), if_neg (by omega), if_pos h]
theorem rotL_lt {d : List Vr} {m i j : Nat} (h : i < j) (h0 : 0 < i) : rotL d m i j = rotL (swapRangeL d (m - i) (m + j - i) i) m i (j - i) := by
  rw [rotL, if_neg (by omega), if_neg (by omega), if_neg (by omega)]
set_option maxHeartbeats 8000000 in
set_option maxRecDepth 100000 in
theorem rotate_any {w : World} {base g cap : Nat} {d : List Vr} (c : Value) (a m b : Nat) (hS : Sv w base g cap d) (ha : a < m) (hm : m < b) (hb : b ≤ d.length) (hd : d.length ≤ 1000000) :
    Calls Try.prog 89 #[.slice (some ⟨g, 0, none⟩) d.length cap, .int .i64 (a : Nat), .int .i64 (m : Nat), .int .i64 (b : Nat), c] w fun e w' => e = .returned (.tuple #[]) ∧ ∃ d', d' = rotL d m (m - a) (b - m) ∧ d'.length = d.length ∧ Sv w' base g cap d' ∧ w.grownBy w' (some g) := by
  have HS := hide hS
  clear hS
  obtain ⟨N, hN⟩ : ∃ N, N = d.length := ⟨_, rfl⟩
  have HN := hide hN
  rw [← hN] at hb hd ⊢
  clear hN
  have i1 : ((m - a : Nat) : Int) = (m : Int) - (a : Int) := by omega
  have i2 : ((b - m : Nat) : Int) = (b : Int) - (m : Int) := by omega
  obtain ⟨I, hI⟩ : ∃ I, I = m - a := ⟨_, rfl⟩
  obtain ⟨J, hJ⟩ : ∃ J, J = b - m := ⟨_, rfl⟩
  rw [← hI] at i1 ⊢
  rw [← hJ] at i2 ⊢
  have h1 : 1 ≤ I ∧ I ≤ m ∧ 1 ≤ J ∧ m + J ≤ N := by omega
  have H1 := hide h1
  clear h1 hI hJ
  go_enter Try.func89, Try.ntmps89
  go_wp2
  rw [← i1, ← i2]
  clear i1 i2
  go_loopw [10, 11] (fun p q wr => ∃ (i j : Nat) (d1 : List Vr), p = .int .i64 i ∧ q = .int .i64 j ∧ 1 ≤ i ∧ i ≤ m ∧ 1 ≤ j ∧ m + j ≤ N ∧ d1.length = N ∧ rotL d m I J = rotL d1 m i j ∧ Sv wr base g cap d1 ∧ w.grownBy wr (some g)) (fun p q _ => (intOf p).toNat + (intOf q).toNat)
  case atStart => exact ⟨I, J, d, rfl, rfl, H1.out.1, H1.out.2.1, H1.out.2.2.1, H1.out.2.2.2, HN.out.symm, rfl, HS.out, ⟨rfl, rfl, rfl, Nat.le_refl _, fun _ _ _ => rfl⟩⟩
  case round =>
    obtain ⟨i, j, d1, rfl, rfl, q1, q2, q3, q4, hl, hrot, hsv, hgr⟩ := hrel
    have HSV := hide hsv
    have HGR := hide hgr
    have HL := hide hl
    have hij : i = j ∨ j < i ∨ i < j := by omega
    rcases hij with rfl | hij | hij
    · have hc := swapRange_any c (m - i) m i hsv (by omega) (by omega) (by omega)
      rw [hl, show ((m - i : Nat) : Int) = (m : Int) - (i : Int) by omega] at hc
      have HR := hide (hrot.trans (rotL_eq d1 m i))
      have hlen := swapRangeL_len d1 (m - i) m i
      have HLEN := hide hlen
      clear hsv hgr hl hrot hlen
      go_wp2_with (go_at_call 98; refine hc.mono ?_; rintro e w1 ⟨rfl, hs1, hg1⟩)
      go_end0
      exact ⟨rfl, _, rfl, by rw [HR.out, HLEN.out]; exact HL.out, by rw [HR.out]; exact hs1, HGR.out.trans hg1⟩
    · have hc := swapRange_any c (m - i) m j hsv (by omega) (by omega) (by omega)
      rw [hl, show ((m - i : Nat) : Int) = (m : Int) - (i : Int) by omega] at hc
      have HR := hide (hrot.trans (rotL_gt hij (by omega)))
      have HLEN := hide ((swapRangeL_len d1 (m - i) m j).trans hl)
      have hne : ¬ (i : Int) = (j : Int) := by omega
      have hgt : (j : Int) < (i : Int) := by omega
      have e3 : ((i - j : Nat) : Int) = (i : Int) - (j : Int) := by omega
      clear hsv hgr hl hrot
      go_wp2_with (go_at_call 98; refine hc.mono ?_; rintro e w1 ⟨rfl, hs1, hg1⟩)
      go_roundw
      case rel => exact ⟨i - j, j, _, by rw [e3], rfl, by omega, by omega, q3, q4, HLEN.out, HR.out, hs1, HGR.out.trans hg1⟩
      case measure => simp [intOf]; omega
    · have hc := swapRange_any c (m - i) (m + j - i) i hsv (by omega) (by omega) (by omega)
      rw [hl, show ((m - i : Nat) : Int) = (m : Int) - (i : Int) by omega, show ((m + j - i : Nat) : Int) = (m : Int) + (j : Int) - (i : Int) by omega] at hc
      have HR := hide (hrot.trans (rotL_lt hij (by omega)))
      have HLEN := hide ((swapRangeL_len d1 (m - i) (m + j - i) i).trans hl)
      have hne : ¬ (i : Int) = (j : Int) := by omega
      have hgt : ¬ (j : Int) < (i : Int) := by omega
      have e3 : ((j - i : Nat) : Int) = (j : Int) - (i : Int) := by omega
      clear hsv hgr hl hrot
      go_wp2_with (go_at_call 98; refine hc.mono ?_; rintro e w1 ⟨rfl, hs1, hg1⟩)
      go_roundw
      case rel => exact ⟨i, j - i, _, rfl, by rw [e3], q1, q2, by omega, by omega, HLEN.out, HR.out, hs1, HGR.out.trans hg1⟩
      case measure => simp [intOf]; omega
end Li
end Go.Proofs.Ytgdfmoehbgmfkaa

namespace Go.Proofs.Ytgdfmoehbgmfkaa
open Go.RowKit
namespace Li
open Wi
/-- Go's binary search: the first place where p is told no more. -/
def bsL (p : Nat → Bool) (i j : Nat) : Nat :=
  if i < j then (if p ((i + j) / 2) then bsL p ((i + j) / 2 + 1) j else bsL p i ((i + j) / 2)) else i
termination_by j - i
decreasing_by
  · omega
  · omega
theorem bsL_end {p : Nat → Bool} {i j : Nat} (h : ¬ i < j) : bsL p i j = i := by rw [bsL, if_neg h]
theorem bsL_yes {p : Nat → Bool} {i j : Nat} (h : i < j) (hp : p ((i + j) / 2) = true) : bsL p i j = bsL p ((i + j) / 2 + 1) j := by rw [bsL, if_pos h, if_pos hp]
theorem bsL_no {p : Nat → Bool} {i j : Nat} (h : i < j) (hp : p ((i + j) / 2) = false) : bsL p i j = bsL p i ((i + j) / 2) := by rw [bsL, if_pos h, hp]; rfl
theorem bsL_in (p : Nat → Bool) : ∀ (s i j : Nat), j - i = s → i ≤ j → i ≤ bsL p i j ∧ bsL p i j ≤ j := by
  intro s
  induction s using Nat.strongRecOn with
  | _ s ih =>
    intro i j hs hij
    by_cases h : i < j
    · cases hp : p ((i + j) / 2) with
      | true =>
        rw [bsL_yes h hp]
        have := ih (j - ((i + j) / 2 + 1)) (by omega) ((i + j) / 2 + 1) j rfl (by omega)
        omega
      | false =>
        rw [bsL_no h hp]
        have := ih ((i + j) / 2 - i) (by omega) i ((i + j) / 2) rfl (by omega)
        omega
    · rw [bsL_end h]; omega
/-- Swaps upward, and downward. -/
def upL (d : List Vr) (a : Nat) : Nat → List Vr
  | 0 => d
  | n + 1 => swapL (upL d a n) (a + n) (a + n + 1)
def downL (d : List Vr) (m : Nat) : Nat → List Vr
  | 0 => d
  | n + 1 => swapL (downL d m n) (m - n) (m - n - 1)
theorem upL_len (d : List Vr) (a : Nat) : ∀ n, (upL d a n).length = d.length
  | 0 => rfl
  | n + 1 => by rw [upL, swapL_len, upL_len d a n]
theorem downL_len (d : List Vr) (m : Nat) : ∀ n, (downL d m n).length = d.length
  | 0 => rfl
  | n + 1 => by rw [downL, swapL_len, downL_len d m n]
def ltV (x y : Vr) : Bool := decide (cfV x y < 0)
/-- Go's merge in place. -/
def symL : Nat → List Vr → Nat → Nat → Nat → List Vr
  | 0, d, _, _, _ => d
  | f + 1, d, a, m, b =>
    if m - a = 1 then upL d a (bsL (fun h => ltV d[h]! d[a]!) m b - 1 - a)
    else if b - m = 1 then downL d m (m - bsL (fun h => !ltV d[m]! d[h]!) a m)
    else
      let mid := (a + b) / 2
      let n := mid + m
      let start := bsL (fun c => !ltV d[n - 1 - c]! d[c]!) (if mid < m then n - b else a) (if mid < m then mid else m)
      let d1 := if start < m ∧ m < n - start then rotL d m (m - start) (n - start - m) else d
      let d2 := if a < start ∧ start < mid then symL f d1 a start mid else d1
      if mid < n - start ∧ n - start < b then symL f d2 mid (n - start) b else d2
theorem Sv.later {w w' : World} {base g cap : Nat} {d : List Vr} (h : Sv w base g cap d) (hb : Below w.heap.size w w') : Sv w' base g cap d := ⟨row_later h.own hb⟩
theorem cmp_any (x y : Vr) (w : World) : Calls Try.prog 47 #[.agg #[.int .i64 x.1.1, .int .i64 x.1.2.1, .int .i64 x.1.2.2], .agg #[.int .i64 y.1.1, .int .i64 y.1.2.1, .int .i64 y.1.2.2]] w fun e w' => e = .returned (.int .i64 (cfV x y)) ∧ Below w.heap.size w w' := by
  obtain ⟨a1, a2, a3, a4⟩ := x.get
  obtain ⟨b1, b2, b3, b4⟩ := y.get
  refine (closure47 _ _ _ _ _ _ a1 a2 a3 a4 b1 b2 b3 b4 w).mono ?_
  rintro e w' ⟨h1, q, os, rfl⟩
  exact ⟨h1, rfl, rfl, rfl, by rw [Sort.size_grow]; exact Nat.le_add_right _ _, fun k hk => Sort.heap_grow_old (w.drewN q) os hk⟩
set_option maxHeartbeats 8000000 in
set_option maxRecDepth 100000 in
theorem symOne_any {w : World} {base g cap : Nat} {d : List Vr} (a m b : Nat) (hS : Sv w base g cap d) (hm : m = a + 1) (hb : m < b) (hbn : b ≤ d.length) (hd : d.length ≤ 1000000) :
    Calls Try.prog 70 #[.slice (some ⟨g, 0, none⟩) d.length cap, .int .i64 (a : Nat), .int .i64 (m : Nat), .int .i64 (b : Nat), .func (.func 47) #[] #[]] w fun e w' => e = .returned (.tuple #[]) ∧ Sv w' base g cap (upL d a (bsL (fun h => ltV d[h]! d[a]!) m b - 1 - a)) ∧ w.grownBy w' (some g) := by
  have HS := hide hS
  clear hS
  obtain ⟨N, hN⟩ : ∃ N, N = d.length := ⟨_, rfl⟩
  have HN := hide hN
  rw [← hN] at hbn hd ⊢
  clear hN
  obtain ⟨T, hT⟩ : ∃ T, T = bsL (fun h => ltV d[h]! d[a]!) m b := ⟨_, rfl⟩
  have HT := hide hT
  have HTI := hide (bsL_in (fun h => ltV d[h]! d[a]!) _ m b rfl (by omega))
  rw [← hT]
  clear hT
  have hm1 : (m : Int) - (a : Int) = 1 := by omega
  have HM := hide hm
  clear hm
  go_enter Try.func70, Try.ntmps70
  go_wp2
  clear hm1
  go_loopw [10, 11] (fun p q wr => ∃ (i j : Nat), p = .int .i64 i ∧ q = .int .i64 j ∧ m ≤ i ∧ i ≤ j ∧ j ≤ b ∧ T = bsL (fun h => ltV d[h]! d[a]!) i j ∧ Below w.heap.size w wr) (fun p q _ => (intOf q).toNat - (intOf p).toNat)
  case atStart => exact ⟨m, b, rfl, rfl, by omega, by omega, by omega, HT.out, Below.refl _ _⟩
  case round =>
    obtain ⟨i, j, rfl, rfl, q1, q2, q3, hbs, hbw⟩ := hrel
    have HB := hide hbw
    have HBS := hide hbs
    by_cases hij : i < j
    · obtain ⟨h, hh⟩ : ∃ h, h = (i + j) / 2 := ⟨_, rfl⟩
      have hr : i ≤ h ∧ h < j := by omega
      obtain ⟨hr1, hr2⟩ := hr
      have hsv := HS.out.later hbw
      obtain ⟨x, hx⟩ : ∃ x, d[h]? = some x := ⟨_, List.getElem?_eq_getElem (by have := HN.out; omega)⟩
      obtain ⟨y, hy⟩ : ∃ y, d[a]? = some y := ⟨_, List.getElem?_eq_getElem (by have := HN.out; have := HM.out; omega)⟩
      obtain ⟨c0, c1, c2⟩ := hsv.cell hx
      obtain ⟨d0, d1, d2⟩ := hsv.cell hy
      have hpx : ltV d[(i + j) / 2]! d[a]! = ltV x y := by
        rw [← hh, getElem!_pos d h (by have := HN.out; omega), getElem!_pos d a (by have := HN.out; have := HM.out; omega), (List.getElem?_eq_some_iff.1 hx).2, (List.getElem?_eq_some_iff.1 hy).2]
      have hcx := cmp_any x y
      have hla : a < N := by have := HM.out; omega
      have hhe : ((i : Int) + (j : Int)) / 2 = ((h : Nat) : Int) := by omega
      have HBW := hide hbw
      clear hbs hbw hsv hx hy
      by_cases hlt : cfV x y < 0
      · have hbs2 := hide (HBS.out.trans (bsL_yes hij (hpx.trans (decide_eq_true hlt))))
        have hdl : decide (cfV x y < 0) = true := decide_eq_true hlt
        rw [← hh] at hbs2
        clear hpx hh
        go_wp2
        clear hhe
        go_region_with (go_at_call 47; refine (hcx _).mono ?_; rintro e w4 ⟨rfl, hb4⟩)
        all_goals have HB4 := hide (HBW.out.drew.trans (hb4.mono HBW.out.size))
        all_goals go_wp2
        all_goals go_roundw
        all_goals first | exact ⟨h + 1, j, by go_num, rfl, by omega, by omega, q3, hbs2.out, HB4.out⟩ | (simp [intOf]; omega)
      · have hbs2 := hide (HBS.out.trans (bsL_no hij (hpx.trans (decide_eq_false hlt))))
        have hdl : decide (cfV x y < 0) = false := decide_eq_false hlt
        rw [← hh] at hbs2
        clear hpx hh
        go_wp2
        clear hhe
        go_region_with (go_at_call 47; refine (hcx _).mono ?_; rintro e w4 ⟨rfl, hb4⟩)
        all_goals have HB4 := hide (HBW.out.drew.trans (hb4.mono HBW.out.size))
        all_goals go_wp2
        all_goals go_roundw
        all_goals first | exact ⟨i, h, rfl, rfl, by omega, by omega, by omega, hbs2.out, HB4.out⟩ | (simp [intOf]; omega)
    · obtain rfl : i = j := by omega
      have hTi : T = i := hbs.trans (bsL_end (by omega))
      subst hTi
      have hT1 : m ≤ T ∧ T ≤ b := by have := HTI.out; rw [← HT.out] at this; exact this
      have hTm : a + 1 ≤ T ∧ T ≤ N := by have := HM.out; omega
      have HSV0 := hide (HS.out.later hbw)
      have HGR0 := hide (grown_of_below hbw (some g))
      have hi1 : ((T - 1 : Nat) : Int) = (T : Int) - 1 := by omega
      clear hbs hbw
      go_wp2
      go_loopw [13] (fun p wr => ∃ (t : Nat), a + t ≤ T - 1 ∧ p = .int .i64 ((a + t : Nat) : Int) ∧ Sv wr base g cap (upL d a t) ∧ w.grownBy wr (some g)) (fun p _ => T - (intOf p).toNat)
      case atStart => exact ⟨0, by have := HM.out; omega, rfl, HSV0.out, HGR0.out⟩
      case round =>
        obtain ⟨t, ht, rfl, hsv, hgr⟩ := hrel
        by_cases hlt : a + t < T - 1
        · have hlI : ((a + t : Nat) : Int) < (T : Int) - 1 := by omega
          have hlen : (upL d a t).length = N := (upL_len d a t).trans HN.out.symm
          have HSW : Hid (upL d a (t + 1) = swapL (upL d a t) (a + t) (a + t + 1)) := rfl
          generalize upL d a t = d1 at *
          obtain ⟨x, hx⟩ : ∃ x, d1[a + t]? = some x := ⟨_, List.getElem?_eq_getElem (by omega)⟩
          obtain ⟨y, hy⟩ : ∃ y, d1[a + t + 1]? = some y := ⟨_, List.getElem?_eq_getElem (by omega)⟩
          obtain ⟨c0, c1, c2⟩ := hsv.cell hx
          obtain ⟨b0, b1, b2⟩ := hsv.cell hy
          have hfz := hsv.frozen
          obtain ⟨hs2, hg2⟩ := hsv.put y (p := a + t) (by omega)
          obtain ⟨z, hz⟩ : ∃ z, (d1.set (a + t) y)[a + t + 1]? = some z := ⟨_, List.getElem?_eq_getElem (by rw [List.length_set]; omega)⟩
          obtain ⟨e0, e1, e2⟩ := hs2.cell hz
          have hfz2 := hs2.frozen
          obtain ⟨hs3, hg3⟩ := hs2.put x (p := a + t + 1) (by rw [List.length_set]; omega)
          have HFIN : Hid (Sv (store3 (store3 wr g (a + t) y) g (a + t + 1) x) base g cap (swapL d1 (a + t) (a + t + 1)) ∧ w.grownBy (store3 (store3 wr g (a + t) y) g (a + t + 1) x) (some g)) := by
            refine ⟨?_, ((hgr.trans hg2).trans hg3)⟩
            unfold swapL
            rw [getElem!_pos d1 (a + t + 1) (by omega), getElem!_pos d1 (a + t) (by omega), (List.getElem?_eq_some_iff.1 hy).2, (List.getElem?_eq_some_iff.1 hx).2]
            exact hs3
          unfold store3 at e0 e1 e2 hfz2 HFIN
          clear hx hy hz hs2 hg2 hs3 hg3
          have HSV := hide hsv
          have HGR := hide hgr
          clear hsv hgr
          go_wp2
          go_region
          go_wp2
          exact ⟨⟨t + 1, by omega, by go_num, by rw [HSW.out]; exact HFIN.out.1.drew, grb_drew HFIN.out.2⟩, by simp [intOf]; omega⟩
        · have hlI : ¬ ((a + t : Nat) : Int) < (T : Int) - 1 := by omega
          have htt : T - 1 - a = t := by omega
          have HTT := hide htt
          have HSV := hide hsv
          have HGR := hide hgr
          clear hsv hgr htt hi1
          go_wp2
          refine bodyPost_ret (results_none rfl _ _ _) rfl ?_
          exact ⟨rfl, by rw [HTT.out]; exact HSV.out, HGR.out⟩
end Li
end Go.Proofs.Ytgdfmoehbgmfkaa

namespace Go.Proofs.Ytgdfmoehbgmfkaa
open Go.RowKit
namespace Li
open Wi
set_option maxHeartbeats 8000000 in
set_option maxRecDepth 100000 in
theorem symTwo_any {w : World} {base g cap : Nat} {d : List Vr} (a m b : Nat) (hS : Sv w base g cap d) (ha : a + 1 < m) (hb : b = m + 1) (hbn : b ≤ d.length) (hd : d.length ≤ 1000000) :
    Calls Try.prog 70 #[.slice (some ⟨g, 0, none⟩) d.length cap, .int .i64 (a : Nat), .int .i64 (m : Nat), .int .i64 (b : Nat), .func (.func 47) #[] #[]] w fun e w' => e = .returned (.tuple #[]) ∧ Sv w' base g cap (downL d m (m - bsL (fun h => !ltV d[m]! d[h]!) a m)) ∧ w.grownBy w' (some g) := by
  have HS := hide hS
  clear hS
  obtain ⟨N, hN⟩ : ∃ N, N = d.length := ⟨_, rfl⟩
  have HN := hide hN
  rw [← hN] at hbn hd ⊢
  clear hN
  obtain ⟨T, hT⟩ : ∃ T, T = bsL (fun h => !ltV d[m]! d[h]!) a m := ⟨_, rfl⟩
  have HT := hide hT
  have HTI := hide (bsL_in (fun h => !ltV d[m]! d[h]!) _ a m rfl (by omega))
  rw [← hT]
  clear hT
  have hm0 : ¬ (m : Int) - (a : Int) = 1 := by omega
  have hm00 : ((m : Int) - (a : Int) == 1) = false := by rw [beq_eq_false_iff_ne]; exact hm0
  have hm01 : decide ((m : Int) - (a : Int) = 1) = false := decide_eq_false hm0
  have hm1 : (b : Int) - (m : Int) = 1 := by omega
  have hmN : m < N := by omega
  have HA := hide ha
  have hlam : a < m := by omega
  have HB0 := hide hb
  clear ha hb
  go_enter Try.func70, Try.ntmps70
  go_wp2
  clear hm1 hm0 hm00 hm01
  go_loopw [14, 15] (fun p q wr => ∃ (i j : Nat), p = .int .i64 i ∧ q = .int .i64 j ∧ a ≤ i ∧ i ≤ j ∧ j ≤ m ∧ T = bsL (fun h => !ltV d[m]! d[h]!) i j ∧ Below w.heap.size w wr) (fun p q _ => (intOf q).toNat - (intOf p).toNat)
  case atStart => exact ⟨a, m, rfl, rfl, by omega, by have := HA.out; omega, by omega, HT.out, Below.refl _ _⟩
  case round =>
    obtain ⟨i, j, rfl, rfl, q1, q2, q3, hbs, hbw⟩ := hrel
    have HB := hide hbw
    have HBS := hide hbs
    by_cases hij : i < j
    · obtain ⟨h, hh⟩ : ∃ h, h = (i + j) / 2 := ⟨_, rfl⟩
      have hr : i ≤ h ∧ h < j := by omega
      obtain ⟨hr1, hr2⟩ := hr
      have hsv := HS.out.later hbw
      obtain ⟨x, hx⟩ : ∃ x, d[m]? = some x := ⟨_, List.getElem?_eq_getElem (by have := HN.out; omega)⟩
      obtain ⟨y, hy⟩ : ∃ y, d[h]? = some y := ⟨_, List.getElem?_eq_getElem (by have := HN.out; omega)⟩
      obtain ⟨c0, c1, c2⟩ := hsv.cell hx
      obtain ⟨d0, d1, d2⟩ := hsv.cell hy
      have hpx : (!ltV d[m]! d[(i + j) / 2]!) = !ltV x y := by
        rw [← hh, getElem!_pos d h (by have := HN.out; omega), getElem!_pos d m (by have := HN.out; omega), (List.getElem?_eq_some_iff.1 hx).2, (List.getElem?_eq_some_iff.1 hy).2]
      have hcx := cmp_any x y
      have hhN : h < N := by omega
      have hhe : ((i : Int) + (j : Int)) / 2 = ((h : Nat) : Int) := by omega
      have HBW := hide hbw
      clear hbs hbw hsv hx hy
      by_cases hlt : cfV x y < 0
      · have hbs2 := hide (HBS.out.trans (bsL_no hij (hpx.trans (by unfold ltV; rw [decide_eq_true hlt]; rfl))))
        have hdl : decide (cfV x y < 0) = true := decide_eq_true hlt
        rw [← hh] at hbs2
        clear hpx hh
        go_wp2
        clear hhe
        go_region_with (go_at_call 47; refine (hcx _).mono ?_; rintro e w4 ⟨rfl, hb4⟩)
        all_goals have HB4 := hide (HBW.out.drew.trans (hb4.mono HBW.out.size))
        all_goals go_wp2
        all_goals go_roundw
        all_goals first | exact ⟨i, h, rfl, rfl, by omega, by omega, by omega, hbs2.out, HB4.out⟩ | (simp [intOf]; omega)
      · have hbs2 := hide (HBS.out.trans (bsL_yes hij (hpx.trans (by unfold ltV; rw [decide_eq_false hlt]; rfl))))
        have hdl : decide (cfV x y < 0) = false := decide_eq_false hlt
        rw [← hh] at hbs2
        clear hpx hh
        go_wp2
        clear hhe
        go_region_with (go_at_call 47; refine (hcx _).mono ?_; rintro e w4 ⟨rfl, hb4⟩)
        all_goals have HB4 := hide (HBW.out.drew.trans (hb4.mono HBW.out.size))
        all_goals go_wp2
        all_goals go_roundw
        all_goals first | exact ⟨h + 1, j, by go_num, rfl, by omega, by omega, q3, hbs2.out, HB4.out⟩ | (simp [intOf]; omega)
    · obtain rfl : i = j := by omega
      have hTi : T = i := hbs.trans (bsL_end (by omega))
      subst hTi
      have HSV0 := hide (HS.out.later hbw)
      have HGR0 := hide (grown_of_below hbw (some g))
      clear hbs hbw
      go_wp2
      go_loopw [17] (fun p wr => ∃ (t : Nat), t ≤ m - T ∧ p = .int .i64 ((m - t : Nat) : Int) ∧ Sv wr base g cap (downL d m t) ∧ w.grownBy wr (some g)) (fun p _ => (intOf p).toNat)
      case atStart => exact ⟨0, by omega, rfl, HSV0.out, HGR0.out⟩
      case round =>
        obtain ⟨t, ht, rfl, hsv, hgr⟩ := hrel
        by_cases hlt : t < m - T
        · have hlen : (downL d m t).length = N := (downL_len d m t).trans HN.out.symm
          obtain ⟨q, hq⟩ : ∃ q, q = m - t - 1 := ⟨_, rfl⟩
          obtain ⟨p, hp⟩ : ∃ p, p = m - t := ⟨_, rfl⟩
          have HSW : Hid (downL d m (t + 1) = swapL (downL d m t) p q) := by subst hp; subst hq; rfl
          have hpq : (p : Int) - 1 = (q : Int) := by omega
          have hpT : (T : Int) < (p : Int) := by omega
          have hpN : p < N := by omega
          have hqN : q < N := by omega
          have HQ : Hid (m - (t + 1) = q) := by show _ = _; omega
          rw [← hp]
          have HP := hide hp
          clear hp hq
          generalize downL d m t = d1 at *
          obtain ⟨x, hx⟩ : ∃ x, d1[p]? = some x := ⟨_, List.getElem?_eq_getElem (by omega)⟩
          obtain ⟨y, hy⟩ : ∃ y, d1[q]? = some y := ⟨_, List.getElem?_eq_getElem (by omega)⟩
          obtain ⟨c0, c1, c2⟩ := hsv.cell hx
          obtain ⟨b0, b1, b2⟩ := hsv.cell hy
          have hfz := hsv.frozen
          obtain ⟨hs2, hg2⟩ := hsv.put y (p := p) (by omega)
          obtain ⟨z, hz⟩ : ∃ z, (d1.set (p) y)[q]? = some z := ⟨_, List.getElem?_eq_getElem (by rw [List.length_set]; omega)⟩
          obtain ⟨e0, e1, e2⟩ := hs2.cell hz
          have hfz2 := hs2.frozen
          obtain ⟨hs3, hg3⟩ := hs2.put x (p := q) (by rw [List.length_set]; omega)
          have HFIN : Hid (Sv (store3 (store3 wr g (p) y) g (q) x) base g cap (swapL d1 (p) (q)) ∧ w.grownBy (store3 (store3 wr g (p) y) g (q) x) (some g)) := by
            refine ⟨?_, ((hgr.trans hg2).trans hg3)⟩
            unfold swapL
            rw [getElem!_pos d1 (q) (by omega), getElem!_pos d1 (p) (by omega), (List.getElem?_eq_some_iff.1 hy).2, (List.getElem?_eq_some_iff.1 hx).2]
            exact hs3
          unfold store3 at e0 e1 e2 hfz2 HFIN
          clear hx hy hz hs2 hg2 hs3 hg3
          have HSV := hide hsv
          have HGR := hide hgr
          clear hsv hgr
          go_wp2
          go_region
          go_wp2
          exact ⟨⟨t + 1, by omega, by rw [HQ.out], by rw [HSW.out]; exact HFIN.out.1.drew, grb_drew HFIN.out.2⟩, by simp [intOf]; omega⟩
        · have htt : m - T = t := by omega
          obtain ⟨p, hp⟩ : ∃ p, p = m - t := ⟨_, rfl⟩
          rw [← hp]
          have hpT : ¬ (T : Int) < (p : Int) := by omega
          have HTT := hide htt
          have HSV := hide hsv
          have HGR := hide hgr
          clear hsv hgr htt hp
          go_wp2
          refine bodyPost_ret (results_none rfl _ _ _) rfl ?_
          exact ⟨rfl, by rw [HTT.out]; exact HSV.out, HGR.out⟩
end Li
end Go.Proofs.Ytgdfmoehbgmfkaa

namespace Go.Proofs.Ytgdfmoehbgmfkaa
open Go.RowKit
namespace Li
open Wi
def sy1 (d : List Vr) (m S E : Nat) : List Vr := if S < m ∧ m < E then rotL d m (m - S) (E - m) else d
def sy2 (f : Nat) (d1 : List Vr) (a S mid : Nat) : List Vr := if a < S ∧ S < mid then symL f d1 a S mid else d1
def sy3 (f : Nat) (d2 : List Vr) (mid E b : Nat) : List Vr := if mid < E ∧ E < b then symL f d2 mid E b else d2
theorem symL_one {f : Nat} {d : List Vr} {a m b : Nat} (h : m - a = 1) : symL (f + 1) d a m b = upL d a (bsL (fun h => ltV d[h]! d[a]!) m b - 1 - a) := by
  unfold symL; rw [if_pos h]
theorem symL_two {f : Nat} {d : List Vr} {a m b : Nat} (h : m - a ≠ 1) (h2 : b - m = 1) : symL (f + 1) d a m b = downL d m (m - bsL (fun h => !ltV d[m]! d[h]!) a m) := by
  unfold symL; rw [if_neg h, if_pos h2]
theorem symL_rest {f : Nat} {d : List Vr} {a m b mid n S E s0 r0 : Nat} (h : m - a ≠ 1) (h2 : b - m ≠ 1) (hmid : mid = (a + b) / 2) (hn : n = mid + m) (hs : s0 = if mid < m then n - b else a) (hr : r0 = if mid < m then mid else m)
    (hS : S = bsL (fun c => !ltV d[n - 1 - c]! d[c]!) s0 r0) (hE : E = n - S) : symL (f + 1) d a m b = sy3 f (sy2 f (sy1 d m S E) a S mid) mid E b := by
  subst hE hS hs hr hn hmid
  rw [symL, if_neg h, if_neg h2]
  rfl
set_option maxHeartbeats 32000000 in
set_option maxRecDepth 100000 in
theorem sym_any (base g cap N : Nat) (hd : N ≤ 1000000) : ∀ (f a m b : Nat) (w : World) (d : List Vr), d.length = N → b - a ≤ f → a < m → m < b → b ≤ N → Sv w base g cap d →
    Calls Try.prog 70 #[.slice (some ⟨g, 0, none⟩) N cap, .int .i64 (a : Nat), .int .i64 (m : Nat), .int .i64 (b : Nat), .func (.func 47) #[] #[]] w fun e w' => e = .returned (.tuple #[]) ∧ ∃ d', d' = symL f d a m b ∧ d'.length = N ∧ Sv w' base g cap d' ∧ w.grownBy w' (some g) := by
  intro f
  induction f with
  | zero => intro a m b w d _ h1 h2 h3; omega
  | succ f ih =>
    intro a m b w d hN hfu ha hb hbn hSv
    by_cases hma : m - a = 1
    · have hc := symOne_any a m b hSv (by omega) hb (by omega) (by omega)
      rw [hN] at hc
      refine hc.mono ?_
      rintro e w' ⟨h1, h2, h3⟩
      exact ⟨h1, _, (symL_one hma).symm, by rw [upL_len]; exact hN, h2, h3⟩
    · by_cases hbm : b - m = 1
      · have hc := symTwo_any a m b hSv (by omega) (by omega) (by omega) (by omega)
        rw [hN] at hc
        refine hc.mono ?_
        rintro e w' ⟨h1, h2, h3⟩
        exact ⟨h1, _, (symL_two hma hbm).symm, by rw [downL_len]; exact hN, h2, h3⟩
      · have HS := hide hSv
        have HN : Hid (N = d.length) := hN.symm
        clear hN hSv
        obtain ⟨mid, hmid⟩ : ∃ mid, mid = (a + b) / 2 := ⟨_, rfl⟩
        obtain ⟨n, hn⟩ : ∃ n, n = mid + m := ⟨_, rfl⟩
        obtain ⟨p, hp⟩ : ∃ p, p = n - 1 := ⟨_, rfl⟩
        have hlo : a + 1 < m ∧ m + 1 < b ∧ a < mid ∧ mid < b := by omega
        have e1 : ((m : Int) - (a : Int) == 1) = false := by rw [beq_eq_false_iff_ne]; omega
        have e2 : ((b : Int) - (m : Int) == 1) = false := by rw [beq_eq_false_iff_ne]; omega
        have e3 : ((a : Int) + (b : Int)) / 2 = (mid : Int) := by omega
        have e4 : (mid : Int) + (m : Int) = (n : Int) := by omega
        have e5 : (n : Int) - 1 = (p : Int) := by omega
        have hnn : n ≤ 2000000 := by omega
        have hmN : m < N ∧ mid < N := by omega
        obtain ⟨hmN, hmidN⟩ := hmN
        go_enter Try.func70, Try.ntmps70
        by_cases hmm : mid < m
        · obtain ⟨s0, hs0'⟩ : ∃ s0, s0 = n - b := ⟨_, rfl⟩
          obtain ⟨r0, hr0'⟩ : ∃ r0, r0 = mid := ⟨_, rfl⟩
          have e6 : (n : Int) - (b : Int) = (s0 : Int) := by omega
          obtain ⟨S, hS⟩ : ∃ S, S = bsL (fun c => !ltV d[n - 1 - c]! d[c]!) s0 r0 := ⟨_, rfl⟩
          obtain ⟨E, hE⟩ : ∃ E, E = n - S := ⟨_, rfl⟩
          have hs0 : s0 = if mid < m then n - b else a := by rw [if_pos hmm]; exact hs0'
          have hr0 : r0 = if mid < m then mid else m := by rw [if_pos hmm]; exact hr0'
          have HSYM := hide (symL_rest (f := f) (d := d) hma hbm hmid hn hs0 hr0 hS hE)
          have HT := hide hS
          have HE := hide hE
          have HF := hide (And.intro hmid (And.intro hn (And.intro hlo (And.intro ha (And.intro hb (And.intro hbn (And.intro hp (And.intro hfu (And.intro hs0' (And.intro hr0' hmm))))))))))
          clear hmid hn hS hE hs0 hr0 hma hbm hp hs0' hr0' hlo hfu
          have hsr : s0 ≤ r0 := by have := HF.out; omega
          have HTI := hide (bsL_in (fun c => !ltV d[n - 1 - c]! d[c]!) _ s0 r0 rfl hsr)
          go_wp2
          go_loopw [20, 21] (fun p q wr => ∃ (i j : Nat), p = .int .i64 i ∧ q = .int .i64 j ∧ s0 ≤ i ∧ i ≤ j ∧ j ≤ r0 ∧ S = bsL (fun c => !ltV d[n - 1 - c]! d[c]!) i j ∧ Below w.heap.size w wr) (fun p q _ => (intOf q).toNat - (intOf p).toNat)
          case atStart => exact ⟨s0, r0, rfl, by rw [HF.out.2.2.2.2.2.2.2.2.2.1], by omega, hsr, by omega, HT.out, Below.refl _ _⟩
          case round =>
            obtain ⟨i, j, rfl, rfl, q1, q2, q3, hbs, hbw⟩ := hrel
            have HB := hide hbw
            have HBS := hide hbs
            by_cases hij : i < j
            · obtain ⟨h, hh⟩ : ∃ h, h = (i + j) / 2 := ⟨_, rfl⟩
              have hr : i ≤ h ∧ h < j := by omega
              obtain ⟨hr1, hr2⟩ := hr
              obtain ⟨pc, hpc⟩ : ∃ pc, pc = n - 1 - h := ⟨_, rfl⟩
              have hpcN : pc < N ∧ h < N := by have := HF.out; omega
              obtain ⟨hpcN, hhN⟩ := hpcN
              have hpe : (p : Int) - (h : Int) = (pc : Int) := by have := HF.out; omega
              have hw1 : wrap64 ((p : Int) - (h : Int)) = (pc : Int) := by rw [hpe]; unfold wrap64; omega
              have hw3 : IntKind.i64.wrap (pc : Int) = (pc : Int) := by rw [IntKind.wrap_i64]; omega
              have hw2 : IntKind.i64.wrap ((p : Int) - (h : Int)) = (pc : Int) := by rw [hpe]; exact hw3
              have hsv := HS.out.later hbw
              obtain ⟨x, hx⟩ : ∃ x, d[pc]? = some x := ⟨_, List.getElem?_eq_getElem (by have := HN.out; omega)⟩
              obtain ⟨y, hy⟩ : ∃ y, d[h]? = some y := ⟨_, List.getElem?_eq_getElem (by have := HN.out; omega)⟩
              obtain ⟨c0, c1, c2⟩ := hsv.cell hx
              obtain ⟨d0, d1, d2⟩ := hsv.cell hy
              have hpx : (!ltV d[n - 1 - (i + j) / 2]! d[(i + j) / 2]!) = !ltV x y := by
                rw [← hh, ← hpc, getElem!_pos d h (by have := HN.out; omega), getElem!_pos d pc (by have := HN.out; omega), (List.getElem?_eq_some_iff.1 hx).2, (List.getElem?_eq_some_iff.1 hy).2]
              have hcx := cmp_any x y
              have hhe : ((i : Int) + (j : Int)) / 2 = ((h : Nat) : Int) := by omega
              have HBW := hide hbw
              clear hbs hbw hsv hx hy hpc
              by_cases hlt : cfV x y < 0
              · have hbs2 := hide (HBS.out.trans (bsL_no hij (hpx.trans (by unfold ltV; rw [decide_eq_true hlt]; rfl))))
                have hdl : decide (cfV x y < 0) = true := decide_eq_true hlt
                rw [← hh] at hbs2
                clear hpx hh
                go_wp2
                clear hhe
                go_region_with (go_at_call 47; refine (hcx _).mono ?_; rintro e w4 ⟨rfl, hb4⟩)
                all_goals clear hpe hw1 hw2 hw3
                all_goals have HB4 := hide (HBW.out.drew.trans (hb4.mono HBW.out.size))
                all_goals go_wp2
                all_goals go_roundw
                all_goals first | exact ⟨i, h, rfl, rfl, by omega, by omega, by omega, hbs2.out, HB4.out⟩ | (simp [intOf]; omega)
              · have hbs2 := hide (HBS.out.trans (bsL_yes hij (hpx.trans (by unfold ltV; rw [decide_eq_false hlt]; rfl))))
                have hdl : decide (cfV x y < 0) = false := decide_eq_false hlt
                rw [← hh] at hbs2
                clear hpx hh
                go_wp2
                clear hhe
                go_region_with (go_at_call 47; refine (hcx _).mono ?_; rintro e w4 ⟨rfl, hb4⟩)
                all_goals clear hpe hw1 hw2 hw3
                all_goals have HB4 := hide (HBW.out.drew.trans (hb4.mono HBW.out.size))
                all_goals go_wp2
                all_goals go_roundw
                all_goals first | exact ⟨h + 1, j, by go_num, rfl, by omega, by omega, q3, hbs2.out, HB4.out⟩ | (simp [intOf]; omega)
            · obtain rfl : i = j := by omega
              have hTi : S = i := hbs.trans (bsL_end (by omega))
              subst hTi
              have hsv := HS.out.later hbw
              have hgr := grown_of_below hbw (some g)
              have HGR := hide hgr
              have hEe : (n : Int) - (S : Int) = (E : Int) := by have := HF.out; have := HE.out; omega
              have hER : m ≤ E ∧ E ≤ b ∧ mid ≤ E ∧ S ≤ mid ∧ S ≤ m ∧ a ≤ S := by have := HF.out; have := HE.out; omega
              have HER := hide hER
              clear hbs hbw hgr hER
              have hcs : (S = mid) ∨ (S < mid ∧ a < S ∧ E < b) ∨ (S < mid ∧ a < S ∧ ¬ E < b) ∨ (S < mid ∧ ¬ a < S ∧ E < b) ∨ (S < mid ∧ ¬ a < S ∧ ¬ E < b) := by have := HER.out; have := HF.out; omega
              rcases hcs with hcs | hcs | hcs | hcs | hcs
              · have k_S_m : S < m := by have := HER.out; have := HF.out; have := HE.out; omega
                have k_m_E : ¬ m < E := by have := HER.out; have := HF.out; have := HE.out; omega
                have k_a_S : a < S := by have := HER.out; have := HF.out; have := HE.out; omega
                have k_S_mid : ¬ S < mid := by have := HER.out; have := HF.out; have := HE.out; omega
                have k_mid_E : mid < E := by have := HER.out; have := HF.out; have := HE.out; omega
                have k_E_b : E < b := by have := HER.out; have := HF.out; have := HE.out; omega
                clear hcs
                have HR := hide (HSYM.out)
                rw [show sy1 d m S E = d from if_neg (fun h => k_m_E h.2), show sy2 f d a S mid = d from if_neg (fun h => k_S_mid h.2)] at HR
                have HR2 := hide (HR.out.trans (if_pos ⟨k_mid_E, k_E_b⟩))
                clear HR
                have hc := ih mid E b wr d HN.out.symm (by have := HF.out; omega) k_mid_E k_E_b hbn hsv
                go_wp2_with fail
                refine hc.mono ?_
                rintro e w7 ⟨rfl, d7, hd7, hl7, hs7, hg7⟩
                clear hc
                go_wp2
                go_end0
                exact ⟨rfl, _, by rw [HR2.out, hd7], hl7, hs7, (HGR.out.trans hg7)⟩
              · have k_S_m : S < m := by have := HER.out; have := HF.out; have := HE.out; omega
                have k_m_E : m < E := by have := HER.out; have := HF.out; have := HE.out; omega
                have k_a_S : a < S := by have := HER.out; have := HF.out; have := HE.out; omega
                have k_S_mid : S < mid := by have := HER.out; have := HF.out; have := HE.out; omega
                have k_mid_E : mid < E := by have := HER.out; have := HF.out; have := HE.out; omega
                have k_E_b : E < b := by have := HER.out; have := HF.out; have := HE.out; omega
                clear hcs
                have HR := hide (HSYM.out)
                rw [show sy1 d m S E = rotL d m (m - S) (E - m) from if_pos ⟨k_S_m, k_m_E⟩, show sy2 f (rotL d m (m - S) (E - m)) a S mid = symL f (rotL d m (m - S) (E - m)) a S mid from if_pos ⟨k_a_S, k_S_mid⟩] at HR
                have HR2 := hide (HR.out.trans (if_pos ⟨k_mid_E, k_E_b⟩))
                clear HR
                have hc := rotate_any (.func (.func 47) #[] #[]) S m E hsv k_S_m k_m_E (by have := HN.out; have := HER.out; omega) (by have := HN.out; omega)
                rw [← HN.out] at hc
                go_wp2_with fail
                refine hc.mono ?_
                rintro e w5 ⟨rfl, d5, hd5, hl5, hs5, hg5⟩
                clear hc
                have hc := ih a S mid w5 d5 hl5 (by have := HF.out; omega) k_a_S k_S_mid (by have := HF.out; omega) hs5
                go_wp2_with fail
                refine hc.mono ?_
                rintro e w6 ⟨rfl, d6, hd6, hl6, hs6, hg6⟩
                clear hc
                have hc := ih mid E b w6 d6 hl6 (by have := HF.out; omega) k_mid_E k_E_b hbn hs6
                go_wp2_with fail
                refine hc.mono ?_
                rintro e w7 ⟨rfl, d7, hd7, hl7, hs7, hg7⟩
                clear hc
                go_wp2
                go_end0
                exact ⟨rfl, _, by rw [HR2.out, hd7, hd6, hd5], hl7, hs7, (((HGR.out.trans hg5).trans hg6).trans hg7)⟩
              · have k_S_m : S < m := by have := HER.out; have := HF.out; have := HE.out; omega
                have k_m_E : m < E := by have := HER.out; have := HF.out; have := HE.out; omega
                have k_a_S : a < S := by have := HER.out; have := HF.out; have := HE.out; omega
                have k_S_mid : S < mid := by have := HER.out; have := HF.out; have := HE.out; omega
                have k_mid_E : mid < E := by have := HER.out; have := HF.out; have := HE.out; omega
                have k_E_b : ¬ E < b := by have := HER.out; have := HF.out; have := HE.out; omega
                clear hcs
                have HR := hide (HSYM.out)
                rw [show sy1 d m S E = rotL d m (m - S) (E - m) from if_pos ⟨k_S_m, k_m_E⟩, show sy2 f (rotL d m (m - S) (E - m)) a S mid = symL f (rotL d m (m - S) (E - m)) a S mid from if_pos ⟨k_a_S, k_S_mid⟩] at HR
                have HR2 := hide (HR.out.trans (if_neg (fun h => k_E_b h.2)))
                clear HR
                have hc := rotate_any (.func (.func 47) #[] #[]) S m E hsv k_S_m k_m_E (by have := HN.out; have := HER.out; omega) (by have := HN.out; omega)
                rw [← HN.out] at hc
                go_wp2_with fail
                refine hc.mono ?_
                rintro e w5 ⟨rfl, d5, hd5, hl5, hs5, hg5⟩
                clear hc
                have hc := ih a S mid w5 d5 hl5 (by have := HF.out; omega) k_a_S k_S_mid (by have := HF.out; omega) hs5
                go_wp2_with fail
                refine hc.mono ?_
                rintro e w6 ⟨rfl, d6, hd6, hl6, hs6, hg6⟩
                clear hc
                go_wp2
                go_end0
                exact ⟨rfl, _, by rw [HR2.out, hd6, hd5], hl6, hs6, ((HGR.out.trans hg5).trans hg6)⟩
              · have k_S_m : S < m := by have := HER.out; have := HF.out; have := HE.out; omega
                have k_m_E : m < E := by have := HER.out; have := HF.out; have := HE.out; omega
                have k_a_S : ¬ a < S := by have := HER.out; have := HF.out; have := HE.out; omega
                have k_S_mid : S < mid := by have := HER.out; have := HF.out; have := HE.out; omega
                have k_mid_E : mid < E := by have := HER.out; have := HF.out; have := HE.out; omega
                have k_E_b : E < b := by have := HER.out; have := HF.out; have := HE.out; omega
                clear hcs
                have HR := hide (HSYM.out)
                rw [show sy1 d m S E = rotL d m (m - S) (E - m) from if_pos ⟨k_S_m, k_m_E⟩, show sy2 f (rotL d m (m - S) (E - m)) a S mid = rotL d m (m - S) (E - m) from if_neg (fun h => k_a_S h.1)] at HR
                have HR2 := hide (HR.out.trans (if_pos ⟨k_mid_E, k_E_b⟩))
                clear HR
                have hc := rotate_any (.func (.func 47) #[] #[]) S m E hsv k_S_m k_m_E (by have := HN.out; have := HER.out; omega) (by have := HN.out; omega)
                rw [← HN.out] at hc
                go_wp2_with fail
                refine hc.mono ?_
                rintro e w5 ⟨rfl, d5, hd5, hl5, hs5, hg5⟩
                clear hc
                have hc := ih mid E b w5 d5 hl5 (by have := HF.out; omega) k_mid_E k_E_b hbn hs5
                go_wp2_with fail
                refine hc.mono ?_
                rintro e w7 ⟨rfl, d7, hd7, hl7, hs7, hg7⟩
                clear hc
                go_wp2
                go_end0
                exact ⟨rfl, _, by rw [HR2.out, hd7, hd5], hl7, hs7, ((HGR.out.trans hg5).trans hg7)⟩
              · have k_S_m : S < m := by have := HER.out; have := HF.out; have := HE.out; omega
                have k_m_E : m < E := by have := HER.out; have := HF.out; have := HE.out; omega
                have k_a_S : ¬ a < S := by have := HER.out; have := HF.out; have := HE.out; omega
                have k_S_mid : S < mid := by have := HER.out; have := HF.out; have := HE.out; omega
                have k_mid_E : mid < E := by have := HER.out; have := HF.out; have := HE.out; omega
                have k_E_b : ¬ E < b := by have := HER.out; have := HF.out; have := HE.out; omega
                clear hcs
                have HR := hide (HSYM.out)
                rw [show sy1 d m S E = rotL d m (m - S) (E - m) from if_pos ⟨k_S_m, k_m_E⟩, show sy2 f (rotL d m (m - S) (E - m)) a S mid = rotL d m (m - S) (E - m) from if_neg (fun h => k_a_S h.1)] at HR
                have HR2 := hide (HR.out.trans (if_neg (fun h => k_E_b h.2)))
                clear HR
                have hc := rotate_any (.func (.func 47) #[] #[]) S m E hsv k_S_m k_m_E (by have := HN.out; have := HER.out; omega) (by have := HN.out; omega)
                rw [← HN.out] at hc
                go_wp2_with (go_at_call 89; refine hc.mono ?_; rintro e w5 ⟨rfl, d5, hd5, hl5, hs5, hg5⟩)
                clear hc
                go_end0
                exact ⟨rfl, _, by rw [HR2.out, hd5], hl5, hs5, (HGR.out.trans hg5)⟩
        · obtain ⟨s0, hs0'⟩ : ∃ s0, s0 = a := ⟨_, rfl⟩
          obtain ⟨r0, hr0'⟩ : ∃ r0, r0 = m := ⟨_, rfl⟩
          obtain ⟨S, hS⟩ : ∃ S, S = bsL (fun c => !ltV d[n - 1 - c]! d[c]!) s0 r0 := ⟨_, rfl⟩
          obtain ⟨E, hE⟩ : ∃ E, E = n - S := ⟨_, rfl⟩
          have hs0 : s0 = if mid < m then n - b else a := by rw [if_neg hmm]; exact hs0'
          have hr0 : r0 = if mid < m then mid else m := by rw [if_neg hmm]; exact hr0'
          have HSYM := hide (symL_rest (f := f) (d := d) hma hbm hmid hn hs0 hr0 hS hE)
          have HT := hide hS
          have HE := hide hE
          have HF := hide (And.intro hmid (And.intro hn (And.intro hlo (And.intro ha (And.intro hb (And.intro hbn (And.intro hp (And.intro hfu (And.intro hs0' (And.intro hr0' hmm))))))))))
          clear hmid hn hS hE hs0 hr0 hma hbm hp hs0' hr0' hlo hfu
          have hsr : s0 ≤ r0 := by have := HF.out; omega
          have HTI := hide (bsL_in (fun c => !ltV d[n - 1 - c]! d[c]!) _ s0 r0 rfl hsr)
          go_wp2
          go_loopw [20, 21] (fun p q wr => ∃ (i j : Nat), p = .int .i64 i ∧ q = .int .i64 j ∧ s0 ≤ i ∧ i ≤ j ∧ j ≤ r0 ∧ S = bsL (fun c => !ltV d[n - 1 - c]! d[c]!) i j ∧ Below w.heap.size w wr) (fun p q _ => (intOf q).toNat - (intOf p).toNat)
          case atStart => exact ⟨s0, r0, by rw [HF.out.2.2.2.2.2.2.2.2.1], by rw [HF.out.2.2.2.2.2.2.2.2.2.1], by omega, hsr, by omega, HT.out, Below.refl _ _⟩
          case round =>
            obtain ⟨i, j, rfl, rfl, q1, q2, q3, hbs, hbw⟩ := hrel
            have HB := hide hbw
            have HBS := hide hbs
            by_cases hij : i < j
            · obtain ⟨h, hh⟩ : ∃ h, h = (i + j) / 2 := ⟨_, rfl⟩
              have hr : i ≤ h ∧ h < j := by omega
              obtain ⟨hr1, hr2⟩ := hr
              obtain ⟨pc, hpc⟩ : ∃ pc, pc = n - 1 - h := ⟨_, rfl⟩
              have hpcN : pc < N ∧ h < N := by have := HF.out; omega
              obtain ⟨hpcN, hhN⟩ := hpcN
              have hpe : (p : Int) - (h : Int) = (pc : Int) := by have := HF.out; omega
              have hw1 : wrap64 ((p : Int) - (h : Int)) = (pc : Int) := by rw [hpe]; unfold wrap64; omega
              have hw3 : IntKind.i64.wrap (pc : Int) = (pc : Int) := by rw [IntKind.wrap_i64]; omega
              have hw2 : IntKind.i64.wrap ((p : Int) - (h : Int)) = (pc : Int) := by rw [hpe]; exact hw3
              have hsv := HS.out.later hbw
              obtain ⟨x, hx⟩ : ∃ x, d[pc]? = some x := ⟨_, List.getElem?_eq_getElem (by have := HN.out; omega)⟩
              obtain ⟨y, hy⟩ : ∃ y, d[h]? = some y := ⟨_, List.getElem?_eq_getElem (by have := HN.out; omega)⟩
              obtain ⟨c0, c1, c2⟩ := hsv.cell hx
              obtain ⟨d0, d1, d2⟩ := hsv.cell hy
              have hpx : (!ltV d[n - 1 - (i + j) / 2]! d[(i + j) / 2]!) = !ltV x y := by
                rw [← hh, ← hpc, getElem!_pos d h (by have := HN.out; omega), getElem!_pos d pc (by have := HN.out; omega), (List.getElem?_eq_some_iff.1 hx).2, (List.getElem?_eq_some_iff.1 hy).2]
              have hcx := cmp_any x y
              have hhe : ((i : Int) + (j : Int)) / 2 = ((h : Nat) : Int) := by omega
              have HBW := hide hbw
              clear hbs hbw hsv hx hy hpc
              by_cases hlt : cfV x y < 0
              · have hbs2 := hide (HBS.out.trans (bsL_no hij (hpx.trans (by unfold ltV; rw [decide_eq_true hlt]; rfl))))
                have hdl : decide (cfV x y < 0) = true := decide_eq_true hlt
                rw [← hh] at hbs2
                clear hpx hh
                go_wp2
                clear hhe
                go_region_with (go_at_call 47; refine (hcx _).mono ?_; rintro e w4 ⟨rfl, hb4⟩)
                all_goals clear hpe hw1 hw2 hw3
                all_goals have HB4 := hide (HBW.out.drew.trans (hb4.mono HBW.out.size))
                all_goals go_wp2
                all_goals go_roundw
                all_goals first | exact ⟨i, h, rfl, rfl, by omega, by omega, by omega, hbs2.out, HB4.out⟩ | (simp [intOf]; omega)
              · have hbs2 := hide (HBS.out.trans (bsL_yes hij (hpx.trans (by unfold ltV; rw [decide_eq_false hlt]; rfl))))
                have hdl : decide (cfV x y < 0) = false := decide_eq_false hlt
                rw [← hh] at hbs2
                clear hpx hh
                go_wp2
                clear hhe
                go_region_with (go_at_call 47; refine (hcx _).mono ?_; rintro e w4 ⟨rfl, hb4⟩)
                all_goals clear hpe hw1 hw2 hw3
                all_goals have HB4 := hide (HBW.out.drew.trans (hb4.mono HBW.out.size))
                all_goals go_wp2
                all_goals go_roundw
                all_goals first | exact ⟨h + 1, j, by go_num, rfl, by omega, by omega, q3, hbs2.out, HB4.out⟩ | (simp [intOf]; omega)
            · obtain rfl : i = j := by omega
              have hTi : S = i := hbs.trans (bsL_end (by omega))
              subst hTi
              have hsv := HS.out.later hbw
              have hgr := grown_of_below hbw (some g)
              have HGR := hide hgr
              have hEe : (n : Int) - (S : Int) = (E : Int) := by have := HF.out; have := HE.out; omega
              have hER : m ≤ E ∧ E ≤ b ∧ mid ≤ E ∧ S ≤ mid ∧ S ≤ m ∧ a ≤ S := by have := HF.out; have := HE.out; omega
              have HER := hide hER
              clear hbs hbw hgr hER
              have hcs : (S = m ∧ m < mid) ∨ (S = m ∧ ¬ m < mid) ∨ (S < m ∧ a < S ∧ E < b) ∨ (S < m ∧ a < S ∧ ¬ E < b) ∨ (S < m ∧ ¬ a < S ∧ E < b) ∨ (S < m ∧ ¬ a < S ∧ ¬ E < b) := by have := HER.out; have := HF.out; omega
              rcases hcs with hcs | hcs | hcs | hcs | hcs | hcs
              · have k_S_m : ¬ S < m := by have := HER.out; have := HF.out; have := HE.out; omega
                have k_a_S : a < S := by have := HER.out; have := HF.out; have := HE.out; omega
                have k_S_mid : S < mid := by have := HER.out; have := HF.out; have := HE.out; omega
                have k_mid_E : ¬ mid < E := by have := HER.out; have := HF.out; have := HE.out; omega
                clear hcs
                have HR := hide (HSYM.out)
                rw [show sy1 d m S E = d from if_neg (fun h => k_S_m h.1), show sy2 f d a S mid = symL f d a S mid from if_pos ⟨k_a_S, k_S_mid⟩] at HR
                have HR2 := hide (HR.out.trans (if_neg (fun h => k_mid_E h.1)))
                clear HR
                have hc := ih a S mid wr d HN.out.symm (by have := HF.out; omega) k_a_S k_S_mid (by have := HF.out; omega) hsv
                go_wp2_with fail
                refine hc.mono ?_
                rintro e w6 ⟨rfl, d6, hd6, hl6, hs6, hg6⟩
                clear hc
                go_wp2
                go_end0
                exact ⟨rfl, _, by rw [HR2.out, hd6], hl6, hs6, (HGR.out.trans hg6)⟩
              · have k_S_m : ¬ S < m := by have := HER.out; have := HF.out; have := HE.out; omega
                have k_a_S : a < S := by have := HER.out; have := HF.out; have := HE.out; omega
                have k_S_mid : ¬ S < mid := by have := HER.out; have := HF.out; have := HE.out; omega
                have k_mid_E : ¬ mid < E := by have := HER.out; have := HF.out; have := HE.out; omega
                clear hcs
                have HR := hide (HSYM.out)
                rw [show sy1 d m S E = d from if_neg (fun h => k_S_m h.1), show sy2 f d a S mid = d from if_neg (fun h => k_S_mid h.2)] at HR
                have HR2 := hide (HR.out.trans (if_neg (fun h => k_mid_E h.1)))
                clear HR
                go_wp2
                go_end0
                exact ⟨rfl, _, HR2.out.symm, HN.out.symm, hsv, HGR.out⟩
              · have k_S_m : S < m := by have := HER.out; have := HF.out; have := HE.out; omega
                have k_m_E : m < E := by have := HER.out; have := HF.out; have := HE.out; omega
                have k_a_S : a < S := by have := HER.out; have := HF.out; have := HE.out; omega
                have k_S_mid : S < mid := by have := HER.out; have := HF.out; have := HE.out; omega
                have k_mid_E : mid < E := by have := HER.out; have := HF.out; have := HE.out; omega
                have k_E_b : E < b := by have := HER.out; have := HF.out; have := HE.out; omega
                clear hcs
                have HR := hide (HSYM.out)
                rw [show sy1 d m S E = rotL d m (m - S) (E - m) from if_pos ⟨k_S_m, k_m_E⟩, show sy2 f (rotL d m (m - S) (E - m)) a S mid = symL f (rotL d m (m - S) (E - m)) a S mid from if_pos ⟨k_a_S, k_S_mid⟩] at HR
                have HR2 := hide (HR.out.trans (if_pos ⟨k_mid_E, k_E_b⟩))
                clear HR
                have hc := rotate_any (.func (.func 47) #[] #[]) S m E hsv k_S_m k_m_E (by have := HN.out; have := HER.out; omega) (by have := HN.out; omega)
                rw [← HN.out] at hc
                go_wp2_with fail
                refine hc.mono ?_
                rintro e w5 ⟨rfl, d5, hd5, hl5, hs5, hg5⟩
                clear hc
                have hc := ih a S mid w5 d5 hl5 (by have := HF.out; omega) k_a_S k_S_mid (by have := HF.out; omega) hs5
                go_wp2_with fail
                refine hc.mono ?_
                rintro e w6 ⟨rfl, d6, hd6, hl6, hs6, hg6⟩
                clear hc
                have hc := ih mid E b w6 d6 hl6 (by have := HF.out; omega) k_mid_E k_E_b hbn hs6
                go_wp2_with fail
                refine hc.mono ?_
                rintro e w7 ⟨rfl, d7, hd7, hl7, hs7, hg7⟩
                clear hc
                go_wp2
                go_end0
                exact ⟨rfl, _, by rw [HR2.out, hd7, hd6, hd5], hl7, hs7, (((HGR.out.trans hg5).trans hg6).trans hg7)⟩
              · have k_S_m : S < m := by have := HER.out; have := HF.out; have := HE.out; omega
                have k_m_E : m < E := by have := HER.out; have := HF.out; have := HE.out; omega
                have k_a_S : a < S := by have := HER.out; have := HF.out; have := HE.out; omega
                have k_S_mid : S < mid := by have := HER.out; have := HF.out; have := HE.out; omega
                have k_mid_E : mid < E := by have := HER.out; have := HF.out; have := HE.out; omega
                have k_E_b : ¬ E < b := by have := HER.out; have := HF.out; have := HE.out; omega
                clear hcs
                have HR := hide (HSYM.out)
                rw [show sy1 d m S E = rotL d m (m - S) (E - m) from if_pos ⟨k_S_m, k_m_E⟩, show sy2 f (rotL d m (m - S) (E - m)) a S mid = symL f (rotL d m (m - S) (E - m)) a S mid from if_pos ⟨k_a_S, k_S_mid⟩] at HR
                have HR2 := hide (HR.out.trans (if_neg (fun h => k_E_b h.2)))
                clear HR
                have hc := rotate_any (.func (.func 47) #[] #[]) S m E hsv k_S_m k_m_E (by have := HN.out; have := HER.out; omega) (by have := HN.out; omega)
                rw [← HN.out] at hc
                go_wp2_with fail
                refine hc.mono ?_
                rintro e w5 ⟨rfl, d5, hd5, hl5, hs5, hg5⟩
                clear hc
                have hc := ih a S mid w5 d5 hl5 (by have := HF.out; omega) k_a_S k_S_mid (by have := HF.out; omega) hs5
                go_wp2_with fail
                refine hc.mono ?_
                rintro e w6 ⟨rfl, d6, hd6, hl6, hs6, hg6⟩
                clear hc
                go_wp2
                go_end0
                exact ⟨rfl, _, by rw [HR2.out, hd6, hd5], hl6, hs6, ((HGR.out.trans hg5).trans hg6)⟩
              · have k_S_m : S < m := by have := HER.out; have := HF.out; have := HE.out; omega
                have k_m_E : m < E := by have := HER.out; have := HF.out; have := HE.out; omega
                have k_a_S : ¬ a < S := by have := HER.out; have := HF.out; have := HE.out; omega
                have k_S_mid : S < mid := by have := HER.out; have := HF.out; have := HE.out; omega
                have k_mid_E : mid < E := by have := HER.out; have := HF.out; have := HE.out; omega
                have k_E_b : E < b := by have := HER.out; have := HF.out; have := HE.out; omega
                clear hcs
                have HR := hide (HSYM.out)
                rw [show sy1 d m S E = rotL d m (m - S) (E - m) from if_pos ⟨k_S_m, k_m_E⟩, show sy2 f (rotL d m (m - S) (E - m)) a S mid = rotL d m (m - S) (E - m) from if_neg (fun h => k_a_S h.1)] at HR
                have HR2 := hide (HR.out.trans (if_pos ⟨k_mid_E, k_E_b⟩))
                clear HR
                have hc := rotate_any (.func (.func 47) #[] #[]) S m E hsv k_S_m k_m_E (by have := HN.out; have := HER.out; omega) (by have := HN.out; omega)
                rw [← HN.out] at hc
                go_wp2_with fail
                refine hc.mono ?_
                rintro e w5 ⟨rfl, d5, hd5, hl5, hs5, hg5⟩
                clear hc
                have hc := ih mid E b w5 d5 hl5 (by have := HF.out; omega) k_mid_E k_E_b hbn hs5
                go_wp2_with fail
                refine hc.mono ?_
                rintro e w7 ⟨rfl, d7, hd7, hl7, hs7, hg7⟩
                clear hc
                go_wp2
                go_end0
                exact ⟨rfl, _, by rw [HR2.out, hd7, hd5], hl7, hs7, ((HGR.out.trans hg5).trans hg7)⟩
              · have k_S_m : S < m := by have := HER.out; have := HF.out; have := HE.out; omega
                have k_m_E : m < E := by have := HER.out; have := HF.out; have := HE.out; omega
                have k_a_S : ¬ a < S := by have := HER.out; have := HF.out; have := HE.out; omega
                have k_S_mid : S < mid := by have := HER.out; have := HF.out; have := HE.out; omega
                have k_mid_E : mid < E := by have := HER.out; have := HF.out; have := HE.out; omega
                have k_E_b : ¬ E < b := by have := HER.out; have := HF.out; have := HE.out; omega
                clear hcs
                have HR := hide (HSYM.out)
                rw [show sy1 d m S E = rotL d m (m - S) (E - m) from if_pos ⟨k_S_m, k_m_E⟩, show sy2 f (rotL d m (m - S) (E - m)) a S mid = rotL d m (m - S) (E - m) from if_neg (fun h => k_a_S h.1)] at HR
                have HR2 := hide (HR.out.trans (if_neg (fun h => k_E_b h.2)))
                clear HR
                have hc := rotate_any (.func (.func 47) #[] #[]) S m E hsv k_S_m k_m_E (by have := HN.out; have := HER.out; omega) (by have := HN.out; omega)
                rw [← HN.out] at hc
                go_wp2_with (go_at_call 89; refine hc.mono ?_; rintro e w5 ⟨rfl, d5, hd5, hl5, hs5, hg5⟩)
                clear hc
                go_end0
                exact ⟨rfl, _, by rw [HR2.out, hd5], hl5, hs5, (HGR.out.trans hg5)⟩
end Li
end Go.Proofs.Ytgdfmoehbgmfkaa

namespace Go.Proofs.Ytgdfmoehbgmfkaa
open Go.RowKit
namespace Li
open Wi
open Go.Sort (HoldsK)
def insL (d : List Vr) (a b : Nat) : List Vr := (Sort.insertionSort (ltOf cfV) d.toArray a b).toList
theorem insL_len (d : List Vr) (a b : Nat) : (insL d a b).length = d.length := by
  unfold insL
  rw [Array.length_toList, ins_size, List.size_toArray]
/-- The insertion sort of a stretch. -/
theorem ins_any {w : World} {base g cap N : Nat} {d : List Vr} (a b : Nat) (hN : d.length = N) (hS : Sv w base g cap d) (hab : a ≤ b) (hb : b ≤ N) (hd : N ≤ 1000000) :
    Calls Try.prog 69 #[.slice (some ⟨g, 0, none⟩) N cap, .int .i64 (a : Nat), .int .i64 (b : Nat), .func (.func 47) #[] #[]] w fun e w' => e = .returned (.tuple #[]) ∧ Sv w' base g cap (insL d a b) ∧ w.grownBy w' (some g) := by
  have eg : ∀ args w, (callFunc 47 args).run Try.prog w = .ok (.enter 47 args) w := enters_of Try.func47 (by kernel_rfl) rfl
  subst hN
  rcases hS.own.2 with ⟨hv, _⟩ | ⟨g', cap', cur, hv, hbg, hg, hnc, hcm, hcs, htake⟩
  · cases hv
  · injection hv with e1 _ e3
    injection e1 with e1
    injection e1 with e1
    subst e1 e3
    have hH : HoldsK vrc 3 w g 0 d.toArray := holds_rows (α := Vr) (fun x => x.1) (d := d.toArray) (n := d.length) (cap := cap) (n0 := base) hS.own (by simp)
    have hcon := AnyQ.insertionSortCmpFunc (P := Try.prog) (ρ := Try.sortSp_ren) { Try.sortSp with } 3 Try.isAgg58 Try.sizeOf58 vrc (fun _ => rfl) (fun x v hv => by simp [vrc, rc] at hv; rcases hv with rfl | rfl | rfl <;> rfl) cfV 47 #[] g 0 cap a b d.toArray w eg (cmpLays47 g 0 _ w) hH (lt_of_block hg) hab (by simpa using hb) (by simp; omega)
    change Calls Try.prog 69 _ _ _ at hcon
    rw [List.size_toArray] at hcon
    refine hcon.mono fun e w' ⟨he, m, os, hw⟩ => ?_
    obtain ⟨o1, o2⟩ := own_sorted (α := Vr) (fun x => x.1) (w := w) (m := m) (os := os) (d := d.toArray) (d' := Sort.insertionSort (ltOf cfV) d.toArray a b) hbg hg (ins_size ..) (by simpa using hnc) hcm hcs
    rw [List.size_toArray] at o1
    rw [hw]
    refine ⟨he, ⟨?_⟩, o2⟩
    rw [insL_len d a b]
    exact o1
end Li
end Go.Proofs.Ytgdfmoehbgmfkaa

namespace Go.Proofs.Ytgdfmoehbgmfkaa
open Go.RowKit
namespace Li
open Wi
def blkL (d : List Vr) (a b n : Nat) : List Vr × Nat := if b ≤ n then blkL (insL d a b) b (b + 20) n else (d, a)
termination_by n + 1 - b
decreasing_by omega
def passL (d : List Vr) (a b s n : Nat) : List Vr × Nat := if b ≤ n ∧ 0 < s then passL (symL n d a (a + s) b) b (b + 2 * s) s n else (d, a)
termination_by n + 1 - b
decreasing_by omega
def lastL (q : List Vr × Nat) (s n : Nat) : List Vr := if q.2 + s < n then symL n q.1 q.2 (q.2 + s) n else q.1
def mergeL (d : List Vr) (s n : Nat) : List Vr := if s < n ∧ 0 < s then mergeL (lastL (passL d 0 (2 * s) s n) s n) (s * 2) n else d
termination_by n - s
decreasing_by omega
/-- Go's stable sort. -/
def stableL (d : List Vr) (n : Nat) : List Vr := mergeL (insL (blkL d 0 20 n).1 (blkL d 0 20 n).2 n) 20 n
theorem blkL_yes {d : List Vr} {a b n : Nat} (h : b ≤ n) : blkL d a b n = blkL (insL d a b) b (b + 20) n := by rw [blkL, if_pos h]
theorem blkL_no {d : List Vr} {a b n : Nat} (h : ¬ b ≤ n) : blkL d a b n = (d, a) := by rw [blkL, if_neg h]
theorem passL_yes {d : List Vr} {a b s n : Nat} (h : b ≤ n) (hs : 0 < s) : passL d a b s n = passL (symL n d a (a + s) b) b (b + 2 * s) s n := by rw [passL, if_pos ⟨h, hs⟩]
theorem passL_no {d : List Vr} {a b s n : Nat} (h : ¬ b ≤ n) : passL d a b s n = (d, a) := by rw [passL, if_neg (fun e => h e.1)]
theorem mergeL_yes {d : List Vr} {s n : Nat} (h : s < n) (hs : 0 < s) : mergeL d s n = mergeL (lastL (passL d 0 (2 * s) s n) s n) (s * 2) n := by rw [mergeL, if_pos ⟨h, hs⟩]
theorem mergeL_no {d : List Vr} {s n : Nat} (h : ¬ s < n) : mergeL d s n = d := by rw [mergeL, if_neg (fun e => h e.1)]
set_option maxHeartbeats 8000000 in
set_option maxRecDepth 100000 in
theorem stable_any {w : World} {base g cap N : Nat} {d : List Vr} (hN : d.length = N) (hS : Sv w base g cap d) (hd : N ≤ 1000000) :
    Calls Try.prog 60 #[.slice (some ⟨g, 0, none⟩) N cap, .int .i64 (N : Nat), .func (.func 47) #[] #[]] w fun e w' => e = .returned (.tuple #[]) ∧ ∃ d', d' = stableL d N ∧ d'.length = N ∧ Sv w' base g cap d' ∧ w.grownBy w' (some g) := by
  have HS := hide hS
  have HN := hide hN
  clear hS hN
  go_enter Try.func60, Try.ntmps60
  go_wp2
  go_loopw [7, 8] (fun p q wr => ∃ (a b : Nat) (d1 : List Vr), p = .int .i64 a ∧ q = .int .i64 b ∧ a + 20 = b ∧ a ≤ N ∧ d1.length = N ∧ blkL d 0 20 N = blkL d1 a b N ∧ Sv wr base g cap d1 ∧ w.grownBy wr (some g)) (fun p q _ => N + 20 - (intOf p).toNat)
  case atStart => exact ⟨0, 20, d, rfl, rfl, rfl, Nat.zero_le _, HN.out, rfl, HS.out, ⟨rfl, rfl, rfl, Nat.le_refl _, fun _ _ _ => rfl⟩⟩
  case round =>
    obtain ⟨a, b, d1, rfl, rfl, hab, haN, hl, hbl, hsv, hgr⟩ := hrel
    have HGR := hide hgr
    by_cases hb : b ≤ N
    · have hc := ins_any a b hl hsv (by omega) hb hd
      have HB := hide (hbl.trans (blkL_yes hb))
      have HL := hide ((insL_len d1 a b).trans hl)
      clear hl hbl hsv hgr
      go_wp2_with (go_at_call 69; refine hc.mono ?_; rintro e w4 ⟨rfl, hs4, hg4⟩)
      go_roundw
      case rel => exact ⟨b, b + 20, _, rfl, by go_num, rfl, hb, HL.out, HB.out, hs4, HGR.out.trans hg4⟩
      case measure => simp [intOf]; omega
    · have hc := ins_any a N hl hsv haN (Nat.le_refl _) hd
      have HB := hide (hbl.trans (blkL_no hb))
      have HL := hide ((insL_len d1 a N).trans hl)
      have HM : Hid (stableL d N = mergeL (insL d1 a N) 20 N) := by
        show _ = _
        unfold stableL
        rw [HB.out]
      clear hl hbl hsv hgr hab
      go_wp2_with (go_at_call 69; refine hc.mono ?_; rintro e w4 ⟨rfl, hs4, hg4⟩)
      have HG4 := hide (HGR.out.trans hg4)
      have HS4 := hide hs4
      generalize insL d1 a N = d2 at *
      clear hc hs4 hg4
      go_loopw [6] (fun p wr => ∃ (s : Nat) (d3 : List Vr), p = .int .i64 s ∧ 0 < s ∧ s ≤ 2 * N + 20 ∧ d3.length = N ∧ mergeL d2 20 N = mergeL d3 s N ∧ Sv wr base g cap d3 ∧ w.grownBy wr (some g)) (fun p _ => N - (intOf p).toNat)
      case atStart => exact ⟨20, d2, rfl, by omega, by omega, HL.out, rfl, HS4.out, HG4.out⟩
      case round =>
        obtain ⟨s, d3, rfl, hs0, hsN, hl, hml, hsv, hgr⟩ := hrel
        by_cases hsn : s < N
        · obtain ⟨t, ht⟩ : ∃ t, t = 2 * s := ⟨_, rfl⟩
          have HT := hide ht
          have HML := hide (hml.trans (mergeL_yes hsn hs0))
          rw [← ht, show s * 2 = t from by omega] at HML
          have htN : t ≤ 2 * N ∧ 0 < t := by omega
          obtain ⟨htN, ht0⟩ := htN
          have HL3 := hide hl
          have HSV := hide hsv
          have HGR3 := hide hgr
          have e2 : (2 : Int) * (s : Int) = (t : Int) := by omega
          have e5 : (s : Int) * (2 : Int) = (t : Int) := by omega
          clear ht
          clear hl hml hsv hgr
          go_wp2
          go_loopw [7, 8] (fun p q wr => ∃ (a b : Nat) (d4 : List Vr), p = .int .i64 a ∧ q = .int .i64 b ∧ a + t = b ∧ a ≤ N ∧ d4.length = N ∧ passL d3 0 t s N = passL d4 a b s N ∧ Sv wr base g cap d4 ∧ w.grownBy wr (some g)) (fun p q _ => N + 1 - (intOf p).toNat)
          case atStart => exact ⟨0, t, d3, rfl, rfl, by omega, Nat.zero_le _, HL3.out, rfl, HSV.out, HGR3.out⟩
          case round =>
            obtain ⟨a, b, d4, rfl, rfl, hab, haN, hl, hps, hsv, hgr⟩ := hrel
            have HGR4 := hide hgr
            by_cases hb : b ≤ N
            · have hc := sym_any base g cap N hd N a (a + s) b _ d4 hl (by omega) (by omega) (by have := HT.out; omega) hb hsv
              have e4 : ((a + s : Nat) : Int) = (a : Int) + (s : Int) := by omega
              rw [e4] at hc
              have HP := hide (hps.trans (passL_yes hb hs0))
              rw [← HT.out] at HP
              have HAB := hide hab
              clear hl hps hsv hgr e4
              go_wp2_with (go_at_call 70; refine hc.mono ?_; rintro e w5 ⟨rfl, d5, hd5, hl5, hs5, hg5⟩)
              go_roundw
              case rel => exact ⟨b, b + t, d5, rfl, by go_num, rfl, hb, hl5, by rw [HP.out, hd5], hs5, HGR4.out.trans hg5⟩
              case measure => simp [intOf]; have := HAB.out; omega
            · have HP := hide (hps.trans (passL_no hb))
              have hlast : lastL (passL d3 0 t s N) s N = if a + s < N then symL N d4 a (a + s) N else d4 := by rw [HP.out]; rfl
              obtain ⟨mm, hmm⟩ : ∃ mm, mm = a + s := ⟨_, rfl⟩
              have e4 : (a : Int) + (s : Int) = (mm : Int) := by omega
              rw [← hmm] at hlast
              by_cases hm : mm < N
              · have hc := sym_any base g cap N hd N a mm N _ d4 hl (by omega) (by omega) hm (Nat.le_refl _) hsv
                rw [if_pos hm] at hlast
                have HLA := hide hlast
                clear hl hps hsv hgr hlast hab hmm
                go_wp2_with (go_at_call 70; refine hc.mono ?_; rintro e w5 ⟨rfl, d5, hd5, hl5, hs5, hg5⟩)
                go_roundw
                case rel => exact ⟨t, d5, rfl, by omega, by omega, hl5, by rw [HML.out, HLA.out, hd5], hs5, HGR4.out.trans hg5⟩
                case measure => simp [intOf]; have := HT.out; omega
              · rw [if_neg hm] at hlast
                have HLA := hide hlast
                have HL4 := hide hl
                have HSV4 := hide hsv
                clear hl hps hsv hgr hlast hab hmm
                go_wp2
                go_roundw
                case rel => exact ⟨t, d4, rfl, by omega, by omega, HL4.out, by rw [HML.out, HLA.out], HSV4.out, HGR4.out⟩
                case measure => simp [intOf]; have := HT.out; omega
        · have HML := hide (hml.trans (mergeL_no hsn))
          have HL3 := hide hl
          have HSV := hide hsv
          have HGR3 := hide hgr
          clear hl hml hsv hgr
          go_wp2
          go_end0
          exact ⟨rfl, d3, by rw [HM.out, HML.out], HL3.out, HSV.out, HGR3.out⟩
end Li
end Go.Proofs.Ytgdfmoehbgmfkaa

namespace Go.Proofs.Ytgdfmoehbgmfkaa
open Go.RowKit
namespace Li
open Wi
open Go.Sort (HoldsK)
theorem rotL_len (m : Nat) : ∀ (s i j : Nat) (d : List Vr), i + j = s → (rotL d m i j).length = d.length := by
  intro s
  induction s using Nat.strongRecOn with
  | _ s ih =>
    intro i j d hs
    rw [rotL]
    split
    · exact swapRangeL_len ..
    · split
      · rfl
      · split
        · rw [ih (i - j + j) (by omega) (i - j) j _ rfl, swapRangeL_len]
        · rw [ih (i + (j - i)) (by omega) i (j - i) _ rfl, swapRangeL_len]
theorem sy1_len (d : List Vr) (m S E : Nat) : (sy1 d m S E).length = d.length := by
  unfold sy1
  split
  · exact rotL_len _ _ _ _ _ rfl
  · rfl
theorem sy2_len {f : Nat} (h : ∀ (d : List Vr) (a m b : Nat), (symL f d a m b).length = d.length) (d : List Vr) (a S mid : Nat) : (sy2 f d a S mid).length = d.length := by
  unfold sy2
  split
  · exact h ..
  · rfl
theorem sy3_len {f : Nat} (h : ∀ (d : List Vr) (a m b : Nat), (symL f d a m b).length = d.length) (d : List Vr) (mid E b : Nat) : (sy3 f d mid E b).length = d.length := by
  unfold sy3
  split
  · exact h ..
  · rfl
theorem symL_len : ∀ (f : Nat) (d : List Vr) (a m b : Nat), (symL f d a m b).length = d.length
  | 0, _, _, _, _ => rfl
  | f + 1, d, a, m, b => by
    by_cases h : m - a = 1
    · rw [symL_one h, upL_len]
    · by_cases h2 : b - m = 1
      · rw [symL_two h h2, downL_len]
      · rw [symL_rest h h2 rfl rfl rfl rfl rfl rfl]
        rw [sy3_len (symL_len f), sy2_len (symL_len f), sy1_len]
theorem blkL_len (n : Nat) : ∀ (s b a : Nat) (d : List Vr), n + 1 - b = s → (blkL d a b n).1.length = d.length := by
  intro s
  induction s using Nat.strongRecOn with
  | _ s ih =>
    intro b a d hs
    by_cases h : b ≤ n
    · rw [blkL_yes h, ih (n + 1 - (b + 20)) (by omega) (b + 20) b _ rfl, insL_len]
    · rw [blkL_no h]
theorem passL_len (s n : Nat) (hs0 : 0 < s) : ∀ (t b a : Nat) (d : List Vr), n + 1 - b = t → (passL d a b s n).1.length = d.length := by
  intro t
  induction t using Nat.strongRecOn with
  | _ t ih =>
    intro b a d hs
    by_cases h : b ≤ n
    · rw [passL_yes h hs0, ih (n + 1 - (b + 2 * s)) (by omega) (b + 2 * s) b _ rfl, symL_len]
    · rw [passL_no h]
theorem mergeL_len (n : Nat) : ∀ (t s : Nat) (d : List Vr), 0 < s → n - s = t → (mergeL d s n).length = d.length := by
  intro t
  induction t using Nat.strongRecOn with
  | _ t ih =>
    intro s d hs0 hs
    by_cases h : s < n
    · rw [mergeL_yes h hs0, ih (n - s * 2) (by omega) (s * 2) _ (by omega) rfl]
      unfold lastL
      split
      · rw [symL_len, passL_len s n hs0 _ _ _ _ rfl]
      · rw [passL_len s n hs0 _ _ _ _ rfl]
    · rw [mergeL_no h]
theorem stableL_len (d : List Vr) (n : Nat) : (stableL d n).length = d.length := by
  unfold stableL
  rw [mergeL_len n _ 20 _ (by omega) rfl, insL_len, blkL_len n _ 20 0 _ rfl]
/-- What slices.SortStableFunc leaves. -/
def srtS (d : Array Vr) : Array Vr := (stableL d.toList d.size).toArray
theorem srtS_size (d : Array Vr) : (srtS d).size = d.size := by unfold srtS; rw [List.size_toArray, stableL_len, Array.length_toList]
set_option maxHeartbeats 2000000 in
theorem sortStable_any {w : World} {base g cap N : Nat} {d : List Vr} (hN : d.length = N) (hS : Sv w base g cap d) (hd : N ≤ 1000000) :
    Calls Try.prog 46 #[.slice (some ⟨g, 0, none⟩) N cap, .func (.func 47) #[] #[]] w fun e w' => e = .returned (.tuple #[]) ∧ ∃ d', d' = stableL d N ∧ d'.length = N ∧ Sv w' base g cap d' ∧ w.grownBy w' (some g) := by
  have hc := stable_any hN hS hd
  clear hS hN
  go_enter Try.func46, Try.ntmps46
  go_wp2_with (go_at_call 60; refine hc.mono ?_; rintro e w4 ⟨rfl, d4, hd4, hl4, hs4, hg4⟩)
  go_end0
  exact ⟨rfl, d4, hd4, hl4, hs4, hg4⟩
theorem sort_row_any {w : World} {n0 : Nat} {v : Value} {C : List Ro} {dl : List Vr} (hrow : w.ownsRow n0 58 3 v C.length (rcs C)) (hdl : dl.map (fun x => x.1) = C) (hn : C.length ≤ 1000000) :
    Calls Try.prog 46 #[v, .func (.func 47) #[] #[]] w fun e w' => e = .returned (.tuple #[]) ∧ w'.ownsRow n0 58 3 v C.length (rcs ((srtS dl.toArray).toList.map (fun x => x.1))) ∧ w.grownBy w' v.ownBlock := by
  have hdn : dl.length = C.length := by rw [← hdl, List.length_map]
  rcases id hrow with ⟨hx, ⟨hv, hn0⟩ | ⟨g, cap, cur, hv, hbg, hg, hnc, hcm, hcs, htake⟩⟩
  · have hC : C = [] := List.eq_nil_of_length_eq_zero hn0
    subst hC
    have hd : dl = [] := List.eq_nil_of_length_eq_zero hdn
    subst hd
    have hs : srtS #[] = #[] := Array.eq_empty_of_size_eq_zero (srtS_size #[])
    rw [hv, hs]
    refine (sort_none w).mono fun e w' ⟨he, hw⟩ => ⟨he, ?_, ?_⟩
    · rw [hw]; exact World.ownsRow_nil _ _ _ _
    · rw [hw]; exact ⟨rfl, rfl, rfl, Nat.le_refl _, fun _ _ _ => rfl⟩
  · subst hv
    have hS : Sv w n0 g cap dl := ⟨by rw [hdl, hdn]; exact hrow⟩
    refine (sortStable_any hdn hS hn).mono fun e w' ⟨he, d', hd', hl', hs', hg'⟩ => ⟨he, ?_, hg'⟩
    have h := hs'.own
    rw [hl'] at h
    have e1 : (srtS dl.toArray).toList = d' := by
      unfold srtS
      rw [List.size_toArray, hdn, hd']
    rw [e1]
    exact h
set_option maxHeartbeats 8000000 in
set_option maxRecDepth 100000 in
theorem victims_any {w : World} {tb mb : Nat} {rs : Rows} (p : Int) (q : Int) (hq : q = max 0 (min p 101)) (hT : Tab w tb mb rs) (hmay : ∀ x ∈ rs, mayRo x = true) (hlen : rs.length ≤ 1000000) :
    Calls Try.prog 23 #[.pointer (some ⟨tb, 0, none⟩), .int .i64 p] w fun e w' => ∃ v d, e = .returned v ∧ d.toList.map (fun x => x.1) = rs.filter (pick q) ∧ w'.ownsRow w.heap.size 3 1 v (rs.filter (pick q)).length ((srtS d).toList.map fun x => .int .i64 x.1.1) ∧ Below w.heap.size w w' := by
  have hsz : ∀ d, (srtS d).size = d.size := srtS_size
  have hmin : ∀ w, (Builtin.min_ #[3, 3] 3 #[.int .i64 p, .int .i64 101]).run Try.prog w = .ok (.int .i64 (min p 101)) w := fun w => by
    show Result.ok (Value.int .i64 (if (101 : Int) < p then 101 else p)) w = _
    rw [show (if (101 : Int) < p then 101 else p) = min p 101 by split <;> omega]
  have hmax : ∀ w, (Builtin.max_ #[3, 3] 3 #[.int .i64 0, .int .i64 (min p 101)]).run Try.prog w = .ok (.int .i64 q) w := fun w => by
    show Result.ok (Value.int .i64 (if (0 : Int) < min p 101 then min p 101 else 0)) w = _
    rw [hq, show (if (0 : Int) < min p 101 then min p 101 else 0) = max 0 (min p 101) by split <;> omega]
  have hr := rows_any hT.at hlen
  have q0 : 0 ≤ q := by omega
  have q1 : q ≤ 101 := by omega
  have HMAY := hide hmay
  clear hq hT hmay
  go_enter Try.func23, Try.ntmps23
  go_wp2_with (go_at_call 17; refine hr.mono ?_; rintro e w1 ⟨v, rfl, hrow, hb1⟩; obtain ⟨a, cap, rfl⟩ := row_slice (own_base hrow (Nat.zero_le _)); have HROW := hide hrow; have HB1 := hide hb1; clear hr hrow hb1)
  have HE := hide (er_own HROW.out rfl (fun x hx => may_rng (HMAY.out x hx)))
  obtain ⟨i0, hi, hz0, hz1, hz2⟩ := info_parts Try.info58
  have HR0 : Hid (w1.ownsRow w1.heap.size 58 3 (.slice none 0 0) ((rs.take 0).filter (pick q)).length (rcs ((rs.take 0).filter (pick q)))) := World.ownsRow_nil _ _ _ _
  obtain ⟨n, hn⟩ : ∃ n, n = rs.length := ⟨_, rfl⟩
  rw [← hn]
  have HN := hide hn
  have hn1 : n ≤ 1000000 := by omega
  clear hn hlen hmin hmax
  go_loopw [5, 17] (fun c i wr => ∃ k : Nat, k ≤ n ∧ i = .int .i64 k ∧ wr.ownsRow w1.heap.size 58 3 c ((rs.take k).filter (pick q)).length (rcs ((rs.take k).filter (pick q))) ∧ Below w1.heap.size w1 wr) (fun _ i _ => n - (intOf i).toNat)
  case atStart => exact ⟨0, Nat.zero_le _, rfl, HR0.out, Below.refl _ _⟩
  case round =>
    obtain ⟨k, hk, rfl, hrow, hb⟩ := hrel
    by_cases hlt : k < n
    · obtain ⟨x, hx⟩ : ∃ x, rs[k]? = some x := ⟨_, List.getElem?_eq_getElem (by have := HN.out; omega)⟩
      have hm := mayR_get (HMAY.out x (List.mem_of_getElem? hx))
      obtain ⟨g, off, rfl, hg, c0, c1, c2⟩ := (HE.out.later hb).cells k x hx
      have HX := hide hx
      obtain ⟨x1, x2, x3⟩ := x
      simp only at *
      obtain ⟨ha, hb2, hc2, hd2, he2, hf2⟩ := hm
      have hmul := mul_small q0 q1 hc2 hd2
      have hw1 : IntKind.i64.wrap (x3 * 100) = x3 * 100 := by rw [IntKind.wrap_i64]; omega
      have hw2 : IntKind.i64.wrap (q * x2) = q * x2 := by rw [IntKind.wrap_i64]; omega
      have HROWK := hide hrow
      have HB := hide hb
      have HNEW := hide (hb.alloc hb.size (.cells #[.int .i64 x1, .int .i64 x2, .int .i64 x3] 58))
      have HRN := hide (hrow.alloc (.cells #[.int .i64 x1, .int .i64 x2, .int .i64 x3] 58))
      have hkl : ((rs.take k).filter (pick q)).length ≤ k := Nat.le_trans (List.length_filter_le _ _) (by rw [List.length_take]; omega)
      clear hx hb hrow
      by_cases hp : x3 * 100 < q * x2
      · have hp1 : decide (x3 * 100 < q * x2) = true := decide_eq_true hp
        have HP : Hid (pick q (x1, x2, x3) = true) := hp1
        have hrow2 := HRN.out
        have hbs := HNEW.out.size
        have hbs2 := Nat.le_trans hbs (below_alloc (wr.alloc (.cells #[.int .i64 x1, .int .i64 x2, .int .i64 x3] 58)) (.cells #[.int .i64 x1, .int .i64 x2, .int .i64 x3] 58)).size
        have hcell := cells_three_new (wr.alloc (.cells #[.int .i64 x1, .int .i64 x2, .int .i64 x3] 58)) (.int .i64 x1) (.int .i64 x2) (.int .i64 x3) 58
        rw [World.size_alloc] at hcell
        have hfy := filter_take_yes HX.out HP.out
        generalize hC : ((rs.take k).filter (pick q)) = C at *
        have HFY := hide hfy
        clear hfy hC
        go_wp2_with (at_builtin; refine wpList_append_own _ rfl _ _ 30 rfl w1.heap.size 58 i0 (.agg #[.int .i64 0, .int .i64 0, .int .i64 0]) 3 24 Try.underlying30 hi hz0 hz1 hz2 rfl (by decide) _ _ _ rfl (hrow2.alloc _) ⟨wr.heap.size + 1, 0, none⟩ 1 1 [.int .i64 x1, .int .i64 x2, .int .i64 x3] rfl rfl hcell (by simp [Value.oneCell']) (by simp only [maxLen]; omega) (by omega) hbs2 ?_; intro v' w2 hown' hgrow _)
        have HB3 := hide ((HNEW.out.alloc hbs (.cells #[.int .i64 x1, .int .i64 x2, .int .i64 x3] 58)).grown hgrow hbs2 (fun i hi => (hrow2.lt i hi).1))
        refine ⟨⟨k + 1, by omega, by go_num, ?_, HB3.out⟩, by simp [intOf]; omega⟩
        rw [HFY.out]
        have hl : (C ++ [(x1, x2, x3)]).length = C.length + 1 := by simp
        rw [hl, rcs_append]
        exact hown'
      · have hp1 : decide (x3 * 100 < q * x2) = false := decide_eq_false hp
        have HP : Hid (pick q (x1, x2, x3) = false) := hp1
        have hp2 : q * x2 ≤ x3 * 100 := by omega
        have hfy := filter_take_no HX.out HP.out
        have HFY := hide hfy
        clear hfy
        go_wp2
        refine ⟨⟨k + 1, by omega, by go_num, ?_, HNEW.out⟩, by simp [intOf]; omega⟩
        rw [HFY.out]
        exact HRN.out
    · obtain rfl : k = n := by omega
      have htk : rs.take k = rs := List.take_of_length_le (by have := HN.out; omega)
      rw [htk] at hrow
      have hCl : (rs.filter (pick q)).length ≤ k := by have := List.length_filter_le (pick q) rs; have := HN.out; omega
      have hvic : ∀ x ∈ rs.filter (pick q), vicR x = true := fun x hx => by
        obtain ⟨h1, h2⟩ := List.mem_filter.1 hx
        exact pick_vic q0 (HMAY.out x h1) h2
      have HVIC := hide hvic
      obtain ⟨dl, hdl⟩ := lift_list _ hvic
      have HDL := hide hdl
      have HSZ := hide hsz
      have HB := hide hb
      clear hvic hsz hb htk HE
      generalize hC : rs.filter (pick q) = C at *
      have HC := hide hC
      clear hC
      have hdn : dl.length = C.length := by rw [← HDL.out, List.length_map]
      obtain ⟨a5, cap5, hv5⟩ := row_slice (own_base hrow (Nat.zero_le _))
      have hss := sort_row_any hrow HDL.out (by omega)
      have hszd := HSZ.out dl.toArray
      obtain ⟨S, hS⟩ : ∃ S, S = (srtS dl.toArray).toList := ⟨_, rfl⟩
      have hSl : S.length = C.length := by rw [hS, Array.length_toList, hszd, List.size_toArray, hdn]
      rw [← hS] at hss
      have HSL := hide hSl
      have HROW3 := hide hrow
      have HS := hide hS
      clear hS hrow hszd hdn hSl
      subst hv5
      go_wp2_with fail
      refine hss.mono ?_
      rintro e w9 ⟨rfl, hrow9, hg9⟩
      have HB9 := hide (HB.out.grown hg9 HB.out.size (fun i hi => (HROW3.out.lt i hi).1))
      have HE9 := hide (er_own (xs := S.map (fun x => x.1)) hrow9 (by rw [List.length_map]; exact HSL.out.symm) (fun x hx => by
        obtain ⟨y, _, rfl⟩ := List.mem_map.1 hx
        have h := y.2
        unfold vicR at h
        rw [Bool.and_eq_true] at h
        exact may_rng h.1))
      clear hss hrow9 hg9
      obtain ⟨i3, hi3, hy0, hy1, hy2⟩ := info_parts info3'
      have HR9 : Hid (w9.ownsRow w9.heap.size 3 1 (.slice none 0 0) 0 ((S.take 0).map fun x => Value.int .i64 x.1.1)) := World.ownsRow_nil _ _ _ _
      generalize hM : C.length = m at *
      have HM := hide hM
      clear hM
      go_wp2
      go_loopw [8, 38] (fun l i wr2 => ∃ j : Nat, j ≤ m ∧ i = .int .i64 j ∧ wr2.ownsRow w9.heap.size 3 1 l j ((S.take j).map fun x => Value.int .i64 x.1.1) ∧ Below w9.heap.size w9 wr2) (fun _ i _ => m - (intOf i).toNat)
      case atStart => exact ⟨0, Nat.zero_le _, rfl, HR9.out, Below.refl _ _⟩
      case round =>
        obtain ⟨j, hj, rfl, hrow, hb⟩ := hrel
        by_cases hlt2 : j < m
        · obtain ⟨x, hx⟩ : ∃ x, S[j]? = some x := ⟨_, List.getElem?_eq_getElem (by have := HSL.out; omega)⟩
          obtain ⟨g, off, rfl, hg, c0, c1, c2⟩ := (HE9.out.later hb).cells j x.1 (by rw [List.getElem?_map, hx]; rfl)
          have HX := hide (snoc_take _ _ _ hx)
          obtain ⟨⟨x1, x2, x3⟩, hxp⟩ := x
          simp only at *
          have HB10 := hide (hb.alloc hb.size (.cells #[.int .i64 x1, .int .i64 x2, .int .i64 x3] 58))
          have hbs := HB10.out.size
          have hbs2 := Nat.le_trans hbs (below_alloc (wr.alloc (.cells #[.int .i64 x1, .int .i64 x2, .int .i64 x3] 58)) (.cells #[.int .i64 x1] 3)).size
          have hcell := cell_one_new (wr.alloc (.cells #[.int .i64 x1, .int .i64 x2, .int .i64 x3] 58)) (.int .i64 x1) 3
          rw [World.size_alloc] at hcell
          have hrow2 := hrow.alloc (.cells #[.int .i64 x1, .int .i64 x2, .int .i64 x3] 58)
          clear hx hb hrow
          go_wp2_with (at_builtin; refine wpList_append_own _ rfl _ _ 54 rfl w9.heap.size 3 i3 (.int .i64 0) 1 8 Try.underlying54 hi3 hy0 hy1 hy2 rfl (by decide) _ _ _ rfl (hrow2.alloc _) ⟨wr.heap.size + 1, 0, none⟩ 1 1 [.int .i64 x1] rfl rfl hcell (by simp [Value.oneCell']) (by simp only [maxLen]; omega) (by omega) hbs2 ?_; intro v' w2 hown' hgrow _)
          have HB3 := hide ((HB10.out.alloc hbs (.cells #[.int .i64 x1] 3)).grown hgrow hbs2 (fun i hi => (hrow2.lt i hi).1))
          refine ⟨⟨j + 1, by omega, by go_num, ?_, HB3.out⟩, by simp [intOf]; omega⟩
          rw [HX.out, List.map_append]
          exact hown'
        · obtain rfl : j = m := by omega
          have htk : S.take j = S := List.take_of_length_le (by have := HSL.out; omega)
          rw [htk] at hrow
          have HRW := hide hrow
          have HBF := hide hb
          clear hrow hb htk
          go_wp2
          go_ret
          refine ⟨_, dl.toArray, rfl, by rw [HC.out]; exact HDL.out, ?_, ?_⟩
          · rw [← HS.out, HC.out, HM.out]
            exact own_base HRW.out (Nat.le_trans HB1.out.size HB9.out.size)
          · exact HB1.out.trans ((HB9.out.mono HB1.out.size).trans (HBF.out.mono (Nat.le_trans HB1.out.size HB9.out.size)))
end Li
end Go.Proofs.Ytgdfmoehbgmfkaa
