/- A part of the proofs about package span: what its functions answer, call by call. -/
import Derived.Test.YthbgniclplfpgaaWo
namespace Go.Proofs.Ythbgniclplfpgaa
open Go.RowKit
namespace Sp

theorem Sl.one {w : World} {b : Nat} {s : Int × Int} (hb : b < w.heap.size) (hf : Fit s) (c0 : w.cell? ⟨b, 0, none⟩ = some (.int .i64 s.1)) (c1 : w.cell? ⟨b, 1, none⟩ = some (.int .i64 s.2)) : Sl w (some ⟨b, 0, none⟩) 1 [s] :=
  ⟨rfl, by omega, fun x hx => by simp at hx; subst hx; exact hf, fun i hi => by
    have : i = 0 := by simpa using hi
    subst this
    exact ⟨b, 0, rfl, hb, by simpa [nth] using c0, by simpa [nth] using c1⟩⟩
theorem Sl.lit (w : World) {s : Int × Int} (hf : Fit s) : Sl (w.alloc (.cells #[.int .i64 s.1, .int .i64 s.2] 27)) (some ⟨w.heap.size, 0, none⟩) 1 [s] :=
  Sl.one (by simp) hf (by simp) (by simp)
theorem setB_one_no {s : Int × Int} (h : mayB s = false) : setB [s] = false := setB_false (k := 0) (by simp) (okAt_no_may (by simpa [nth] using h))
theorem wi_one {s : Int × Int} {i : Int} : wi [s] i = true ↔ Has1 s i := by simp [wi, Has1]
theorem SetPost.mono {S S' : Int → Prop} {w w0 : World} {e : Ending} {w' : World} (h : SetPost S w e w') (hS : ∀ i, S i ↔ S' i) (hb : Below w0.heap.size w0 w) : SetPost S' w0 e w' := by
  obtain ⟨v, ys, he, ho, hf, hs, hm, hb'⟩ := h
  exact ⟨v, ys, he, ho, fun k hk => Nat.le_trans hb.size (hf k hk), hs, fun i => (hm i).trans (hS i), hb.trans (hb'.mono hb.size)⟩

set_option maxHeartbeats 2000000 in
theorem gaps_ok (a : Option Addr) (n cap : Nat) (xs : List (Int × Int)) (s : Int × Int) (w : World) (hA : Sl w a n xs) (hx : setB xs = true) (hs : mayB s = true) (hl : xs.length ≤ 1000000) :
    Calls Try.prog 29 #[.slice a n cap, .agg #[.int .i64 s.1, .int .i64 s.2]] w (SetPost (fun i => Has1 s i ∧ ¬ wi xs i = true) w) := by
  have hn := hA.most
  have hr1 := fun W hW => check_ok a n cap xs W hW hx
  have hb0 := below_alloc w (.cells #[.int .i64 s.1, .int .i64 s.2] 27)
  have hfs := Fit.of_may hs
  go_enter Try.func29, Try.ntmps29
  go_wp2_with fail
  refine (hr1 _ (hA.later hb0)).mono ?_
  rintro e w1 ⟨rfl, hb1⟩
  have d0 := box0 hb1
  have d1 := box1 hb1
  have hb2 := box_below hb1
  have hb3 := below_alloc w1 (.cells #[.int .i64 s.1, .int .i64 s.2] 27)
  have hcut := cut_ok (some ⟨w1.heap.size, 0, none⟩) a 1 n 1 cap [s] xs _ (Sl.lit w1 hfs) ((hA.later hb2).later hb3) (setB_one hs) (allB_setB hx) hl
  go_wp2_with fail
  refine hcut.mono ?_
  rintro e w2 ⟨v, ys, rfl, ho, hf, hst, hm, hb'⟩
  have hb4 := hb2.trans (hb3.mono hb2.size)
  go_wp2
  go_ret2
  exact ⟨v, ys, rfl, ho, fun k hk => Nat.le_trans hb4.size (hf k hk), hst, fun i => by rw [hm, wi_one], hb4.trans (hb'.mono hb4.size)⟩

set_option maxHeartbeats 2000000 in
theorem gaps_no (a : Option Addr) (n cap : Nat) (xs : List (Int × Int)) (s : Int × Int) (w : World) (hA : Sl w a n xs) (hf : Fit s) (hx : setB xs = false ∨ mayB s = false) :
    Calls Try.prog 29 #[.slice a n cap, .agg #[.int .i64 s.1, .int .i64 s.2]] w (ErrPost w) := by
  have hn := hA.most
  have hb0 := below_alloc w (.cells #[.int .i64 s.1, .int .i64 s.2] 27)
  cases hs : setB xs with
  | false =>
    have hr1 := fun W hW => check_no a n cap xs W hW hs
    clear hx hs
    go_enter Try.func29, Try.ntmps29
    go_wp2_with fail
    refine (hr1 _ (hA.later hb0)).mono ?_
    rintro e w1 ⟨rfl, hb1⟩
    go_wp2
    go_ret2
    exact ⟨rfl, box_below hb1⟩
  | true =>
    have hr1 := fun W hW => check_ok a n cap xs W hW hs
    have hms := hx.resolve_left (by rw [hs]; simp)
    clear hx hs
    go_enter Try.func29, Try.ntmps29
    go_wp2_with fail
    refine (hr1 _ (hA.later hb0)).mono ?_
    rintro e w1 ⟨rfl, hb1⟩
    have d0 := box0 hb1
    have d1 := box1 hb1
    have hb2 := box_below hb1
    have hb3 := below_alloc w1 (.cells #[.int .i64 s.1, .int .i64 s.2] 27)
    have hcut := cut_no (some ⟨w1.heap.size, 0, none⟩) a 1 n 1 cap [s] xs _ (Sl.lit w1 hf) ((hA.later hb2).later hb3) (.inl (setB_one_no hms))
    go_wp2_with fail
    refine hcut.mono ?_
    rintro e w2 ⟨rfl, hb'⟩
    have hb4 := hb2.trans (hb3.mono hb2.size)
    go_wp2
    go_ret2
    exact ⟨rfl, hb4.trans (hb'.mono hb4.size)⟩

/-- The first span of at least n sectors, cut to n. -/
def fitS (ys : List (Int × Int)) (n : Int) : Int × Int := match ys.find? (fun g => decide (n ≤ g.2)) with | some g => (g.1, n) | none => (0, 0)
def fitE (ys : List (Int × Int)) (n : Int) : Int := match ys.find? (fun g => decide (n ≤ g.2)) with | some _ => 0 | none => 15
theorem find_none {ys : List (Int × Int)} {n : Int} (h : ∀ j, j < ys.length → (nth ys j).2 < n) : ys.find? (fun g => decide (n ≤ g.2)) = none := by
  rw [List.find?_eq_none]
  intro x hx
  obtain ⟨k, hk, rfl⟩ := List.getElem_of_mem hx
  have := h k hk
  rw [nth_eq hk] at this
  simp; omega
theorem find_some {ys : List (Int × Int)} {n : Int} {k : Nat} (h : ∀ j, j < k → (nth ys j).2 < n) (hk : k < ys.length) (hc : n ≤ (nth ys k).2) : ys.find? (fun g => decide (n ≤ g.2)) = some (nth ys k) := by
  rw [List.find?_eq_some_iff_getElem]
  refine ⟨by simp [hc], k, hk, (nth_eq hk).symm, fun j hj => ?_⟩
  have := h j hj
  rw [nth_eq (by omega)] at this
  simp; omega
def FitPost (S : Int → Prop) (n : Int) (w : World) (e : Ending) (w' : World) : Prop := ∃ ys, setB ys = true ∧ (∀ i, wi ys i = true ↔ S i) ∧ e = .returned (.tuple #[.agg #[.int .i64 (fitS ys n).1, .int .i64 (fitS ys n).2], .int .i64 (fitE ys n)]) ∧ Below w.heap.size w w'
theorem two_box {w : World} {a b c d : Value} : Below w.heap.size w ((w.alloc (.cells #[a, b] 27)).alloc (.cells #[c, d] 27)) := (below_alloc w _).trans ((below_alloc _ _).mono (by simp))

set_option maxHeartbeats 2000000 in
theorem fit_ok (a : Option Addr) (n cap : Nat) (xs : List (Int × Int)) (s : Int × Int) (m : Int) (w : World) (hA : Sl w a n xs) (hx : setB xs = true) (hs : mayB s = true) (hl : xs.length ≤ 1000000) (hm : 1 ≤ m) (_hm2 : m ≤ 9223372036854775807) :
    Calls Try.prog 30 #[.slice a n cap, .agg #[.int .i64 s.1, .int .i64 s.2], .int .i64 m] w (FitPost (fun i => Has1 s i ∧ ¬ wi xs i = true) m w) := by
  have hn := hA.most
  have hmd : decide (m < 1) = false := by simp; omega
  have hg := fun W hW => gaps_ok a n cap xs s W hW hx hs hl
  go_enter Try.func30, Try.ntmps30
  go_wp2_with fail
  refine (hg _ (hA.later two_box)).mono ?_
  rintro e w1 ⟨v, ys, rfl, hown, hfrom, hst, hmem, hb1⟩
  obtain ⟨ag, cg, rfl, hsl⟩ := hown.sl (fit_of_set hst)
  have hbw : Below w.heap.size w w1 := two_box.trans (hb1.mono (by simp; omega))
  have hsz : w.heap.size + 1 < w1.heap.size := by have := hb1.size; simp at this; omega
  have r0 : w1.cell? ⟨w.heap.size + 1, 0, none⟩ = some (.int .i64 0) := (hb1.cell (by simp)).trans (by simp)
  have r1 : w1.cell? ⟨w.heap.size + 1, 1, none⟩ = some (.int .i64 0) := (hb1.cell (by simp)).trans (by simp)
  have f0 : w1.frozen? ⟨w.heap.size + 1, 0, none⟩ = false := (hb1.frozen (by simp)).trans (by simp)
  have f1 : w1.frozen? ⟨w.heap.size + 1, 1, none⟩ = false := (hb1.frozen (by simp)).trans (by simp)
  have hyl := hsl.most
  have HM := hide hmem
  clear hg hA hb1 hown hfrom hmem
  go_wp2
  go_loopw [27] (fun i wr => ∃ k : Nat, k ≤ ys.length ∧ i = .int .i64 k ∧ (∀ j, j < k → (nth ys j).2 < m) ∧ Below w1.heap.size w1 wr) (fun i _ => ys.length - (intOf i).toNat)
  case atStart => exact ⟨0, Nat.zero_le _, rfl, by intro j hj; omega, Below.refl _ _⟩
  case round =>
    obtain ⟨k, hk, rfl, hok, hbr⟩ := hrel
    have hszr : w.heap.size + 1 < wr.heap.size := Nat.lt_of_lt_of_le hsz hbr.size
    have R0 : wr.cell? ⟨w.heap.size + 1, 0, none⟩ = some (.int .i64 0) := (hbr.cell hsz).trans r0
    have R1 : wr.cell? ⟨w.heap.size + 1, 1, none⟩ = some (.int .i64 0) := (hbr.cell hsz).trans r1
    have F0 : wr.frozen? ⟨w.heap.size + 1, 0, none⟩ = false := (hbr.frozen hsz).trans f0
    have F1 : wr.frozen? ⟨w.heap.size + 1, 1, none⟩ = false := (hbr.frozen hsz).trans f1
    have hbb := hbw.trans (hbr.mono hbw.size)
    clear r0 r1 f0 f1
    by_cases hlt : k < ys.length
    · obtain ⟨b, off, rfl, hbl, c0, c1⟩ := (hsl.later hbr).cells k hlt
      by_cases hc : m ≤ (nth ys k).2
      · have HF := hide (find_some hok hlt hc)
        clear hsl hok
        have HX : Hid (∃ x, x = nth ys k) := ⟨_, rfl⟩
        obtain ⟨x, hxx⟩ := HX.out
        rw [← hxx] at c0 c1 hc HF
        clear hxx HX
        go_wp2
        refine bodyPost_ret (v := .tuple #[.agg #[.int .i64 x.1, .int .i64 m], .int .i64 0]) (by simp [results, Try.results30, go_sem, R0, R1, hszr]) rfl ⟨ys, hst, HM.out, ?_, ?_⟩
        · unfold fitS fitE; rw [HF.out]
        · exact (((hbb.setCell (by simp) _).setCell (by simp) _)).alloc (by have := hbb.size; simpa using this) _
      · have Hok := ext_lt hok (by omega)
        clear hsl hok
        generalize nth ys k = x at c0 c1 hc
        go_wp2
        go_roundw
        case rel => exact ⟨k + 1, by omega, by go_num, Hok, hbr.alloc hbr.size _⟩
        case measure => simp [intOf]; omega
    · have HF := hide (find_none (ys := ys) (n := m) fun j hj => hok j (by omega))
      clear hsl hok
      go_wp2
      refine bodyPost_ret (v := .tuple #[.agg #[.int .i64 0, .int .i64 0], .int .i64 15]) (by simp [results, Try.results30, go_sem, R0, R1]) rfl ⟨ys, hst, HM.out, ?_, ?_⟩
      · unfold fitS fitE; rw [HF.out]
      · exact ((hbb.setCell (by simp) _).setCell (by simp) _)

def FitNo (w : World) (e : Ending) (w' : World) : Prop := e = .returned (.tuple #[.agg #[.int .i64 0, .int .i64 0], .int .i64 1]) ∧ Below w.heap.size w w'
set_option maxHeartbeats 2000000 in
theorem fit_no (a : Option Addr) (n cap : Nat) (xs : List (Int × Int)) (s : Int × Int) (m : Int) (w : World) (hA : Sl w a n xs) (hf : Fit s) (hx : setB xs = false ∨ mayB s = false) :
    Calls Try.prog 30 #[.slice a n cap, .agg #[.int .i64 s.1, .int .i64 s.2], .int .i64 m] w (FitNo w) := by
  have hn := hA.most
  have hg := fun W hW => gaps_no a n cap xs s W hW hf hx
  go_enter Try.func30, Try.ntmps30
  go_wp2_with fail
  refine (hg _ (hA.later two_box)).mono ?_
  rintro e w1 ⟨rfl, hb1⟩
  have hbw : Below w.heap.size w w1 := two_box.trans (hb1.mono (by simp; omega))
  have hsz : w.heap.size + 1 < w1.heap.size := by have := hb1.size; simp at this; omega
  have r0 : w1.cell? ⟨w.heap.size + 1, 0, none⟩ = some (.int .i64 0) := (hb1.cell (by simp)).trans (by simp)
  have r1 : w1.cell? ⟨w.heap.size + 1, 1, none⟩ = some (.int .i64 0) := (hb1.cell (by simp)).trans (by simp)
  have f0 : w1.frozen? ⟨w.heap.size + 1, 0, none⟩ = false := (hb1.frozen (by simp)).trans (by simp)
  have f1 : w1.frozen? ⟨w.heap.size + 1, 1, none⟩ = false := (hb1.frozen (by simp)).trans (by simp)
  clear hg hA hb1
  go_wp2
  refine bodyPost_ret (v := .tuple #[.agg #[.int .i64 0, .int .i64 0], .int .i64 1]) (by simp [results, Try.results30, go_sem, r0, r1]) rfl ⟨rfl, ?_⟩
  exact ((hbw.setCell (by simp) _).setCell (by simp) _)
set_option maxHeartbeats 2000000 in
theorem fit_few (a : Option Addr) (n cap : Nat) (xs : List (Int × Int)) (s : Int × Int) (m : Int) (w : World) (hA : Sl w a n xs) (hx : setB xs = true) (hs : mayB s = true) (hl : xs.length ≤ 1000000) (hm : m < 1) :
    Calls Try.prog 30 #[.slice a n cap, .agg #[.int .i64 s.1, .int .i64 s.2], .int .i64 m] w (FitNo w) := by
  have hn := hA.most
  have hg := fun W hW => gaps_ok a n cap xs s W hW hx hs hl
  go_enter Try.func30, Try.ntmps30
  go_wp2_with fail
  refine (hg _ (hA.later two_box)).mono ?_
  rintro e w1 ⟨v, ys, rfl, hown, hfrom, hst, hmem, hb1⟩
  have hbw : Below w.heap.size w w1 := two_box.trans (hb1.mono (by simp; omega))
  have hsz : w.heap.size + 1 < w1.heap.size := by have := hb1.size; simp at this; omega
  have r0 : w1.cell? ⟨w.heap.size + 1, 0, none⟩ = some (.int .i64 0) := (hb1.cell (by simp)).trans (by simp)
  have r1 : w1.cell? ⟨w.heap.size + 1, 1, none⟩ = some (.int .i64 0) := (hb1.cell (by simp)).trans (by simp)
  have f0 : w1.frozen? ⟨w.heap.size + 1, 0, none⟩ = false := (hb1.frozen (by simp)).trans (by simp)
  have f1 : w1.frozen? ⟨w.heap.size + 1, 1, none⟩ = false := (hb1.frozen (by simp)).trans (by simp)
  clear hg hA hb1 hown hfrom hmem
  go_wp2
  refine bodyPost_ret (v := .tuple #[.agg #[.int .i64 0, .int .i64 0], .int .i64 1]) (by simp [results, Try.results30, go_sem, r0, r1]) rfl ⟨rfl, ?_⟩
  exact ((hbw.setCell (by simp) _).setCell (by simp) _)

end Sp
end Go.Proofs.Ythbgniclplfpgaa
