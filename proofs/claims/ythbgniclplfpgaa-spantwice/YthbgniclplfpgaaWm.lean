/- A part of the proofs about package span: what its functions answer, call by call. -/
import Derived.Test.YthbgniclplfpgaaWt
namespace Go.Proofs.Ythbgniclplfpgaa
open Go.RowKit
namespace Sp

/-- What Meet, Cut, Join and Gaps answer: a set of the call's own with these sectors. -/
def SetPost (S : Int → Prop) (w : World) (e : Ending) (w' : World) : Prop :=
  ∃ v ys, e = .returned (.tuple #[v, .int .i64 0]) ∧ Own w' v ys ∧ From w.heap.size v ∧ setB ys = true ∧ (∀ i, wi ys i = true ↔ S i) ∧ Below w.heap.size w w'
def ErrPost (w : World) (e : Ending) (w' : World) : Prop := e = .returned (.tuple #[.slice none 0 0, .int .i64 1]) ∧ Below w.heap.size w w'

set_option maxHeartbeats 2000000 in
theorem meet_ok (a b : Option Addr) (n m cap cap' : Nat) (xs zs : List (Int × Int)) (w : World) (hA : Sl w a n xs) (hB : Sl w b m zs) (hcap : m ≤ cap') (hx : setB xs = true) (hz : setB zs = true) :
    Calls Try.prog 27 #[.slice a n cap, .slice b m cap'] w (SetPost (fun i => wi xs i = true ∧ wi zs i = true) w) := by
  have hn := hA.most
  have hn2 := hB.most
  have hr1 := fun W hW => check_ok a n cap xs W hW hx
  have hr2 := fun W hW => check_ok b m cap' zs W hW hz
  go_enter Try.func27, Try.ntmps27
  go_wp2_with fail
  refine (hr1 _ hA).mono ?_
  rintro e w1 ⟨rfl, hb1⟩
  go_wp2_with fail
  refine (hr2 _ (hB.later hb1)).mono ?_
  rintro e w2 ⟨rfl, hb2⟩
  have hb := hb1.trans (hb2.mono hb1.size)
  clear hb1 hb2 hr1 hr2
  go_wp2
  go_loopw [8, 25] (fun v i wr => ∃ (k : Nat) (ys : List (Int × Int)), k ≤ n ∧ i = .int .i64 k ∧ Own wr v ys ∧ From w.heap.size v ∧ MO xs zs k ys ∧ Below w.heap.size w wr) (fun _ i _ => n - (intOf i).toNat)
  case atStart => exact ⟨0, [], Nat.zero_le _, rfl, Own.nil _, From.nil _ _ _, MO.start xs zs hx, hb⟩
  case round =>
    obtain ⟨k, ys, hk, rfl, hown, hfrom, hmo, hbr⟩ := hrel
    by_cases hlt : k < n
    · obtain ⟨ba, off, rfl, hbl, c0, c1⟩ := (hA.later hbr).cells k (by have := hA.len; omega)
      have HK := hide (show k < xs.length by have := hA.len; omega)
      have hms := okAt_may (setB_at hx k HK.out)
      have hnear := fun W hW => near_any b m cap' zs (nth xs k) W hW hcap hz hms
      have HX : Hid (∃ s, s = nth xs k) := ⟨_, rfl⟩
      obtain ⟨s, hs⟩ := HX.out
      have HS := hide hs
      rw [← hs] at c0 c1 hnear hms
      have hap := hown.lt wr.heap.size (Nat.le_refl _)
      clear hs HX
      go_wp2_with fail
      refine (hnear _ (hB.later (hbr.trans ((below_alloc _ _).mono hbr.size)))).mono ?_
      rintro e w3 ⟨f, t, a', cp, hN, rfl, hsl, hb3⟩
      have d0 := box0 hb3
      have d1 := box1 hb3
      have hb4 := box_below hb3
      have hsz : wr.heap.size < w3.heap.size := by have := hb3.size; simp at this; omega
      have hown3 := hown.later hb4
      have hbw := hbr.trans (hb4.mono hbr.size)
      have hslw := hsl w hB
      have hml := hslw.most
      rw [HS.out] at hN
      clear hnear hb3 hb4 hsl hown c0 c1 hbl
      generalize hg : wr.heap.size = g at *
      clear hg
      go_wp2
      go_loopw [8, 33] (fun v i wr => ∃ (j : Nat) (ys : List (Int × Int)), j ≤ t - f ∧ i = .int .i64 j ∧ Own wr v ys ∧ From w.heap.size v ∧ MI xs zs k f j ys ∧ Below w.heap.size w wr ∧ wr.cell? ⟨g, 0, none⟩ = some (.int .i64 s.1) ∧ wr.cell? ⟨g, 1, none⟩ = some (.int .i64 s.2) ∧ v.ownBlock ≠ some g ∧ g < wr.heap.size) (fun _ i _ => (t - f) - (intOf i).toNat)
      case atStart => exact ⟨0, ys, Nat.zero_le _, rfl, hown3, hfrom, hmo.inner hx HK.out f, hbw, d0, d1, hap, hsz⟩
      case round =>
        obtain ⟨j, ys2, hj, rfl, hown, hfrom2, hmi, hbr2, c0, c1, hap2, hg⟩ := hrel
        by_cases hlt2 : j < t - f
        · have hlz := hN.len
          obtain ⟨bo, offo, rfl, hbl, e0, e1⟩ := (hslw.later hbr2).cells j (by rw [sub_length hlz]; exact hlt2)
          rw [nth_sub hlz hlt2] at e0 e1
          have hmo2 := okAt_may (setB_at hz (f + j) (by omega))
          have HST := hide (hmi.step hx hz HK.out hN (by omega))
          rw [← HS.out] at HST
          have HST2 : Hid (∀ A B : Int, A = max s.1 (nth zs (f + j)).1 → B = min (s.1 + s.2) ((nth zs (f + j)).1 + (nth zs (f + j)).2) → MI xs zs k f (j + 1) (addF ys2 A B)) := fun A B h1 h2 => by rw [h1, h2]; exact HST.out
          clear HST
          have hlen := set_length hmi.set
          clear hmi
          generalize nth zs (f + j) = o at *
          have bs := mayB_iff.1 hms
          have bo' := mayB_iff.1 hmo2
          obtain ⟨A, hA1, hA2⟩ : ∃ A, (if s.1 < o.1 then o.1 else s.1) = A ∧ A = max s.1 o.1 := ⟨_, rfl, by split <;> omega⟩
          obtain ⟨B, hB1, hB2⟩ : ∃ B, (if o.1 + o.2 < s.1 + s.2 then o.1 + o.2 else s.1 + s.2) = B ∧ B = min (s.1 + s.2) (o.1 + o.2) := ⟨_, rfl, by split <;> omega⟩
          have R1 := hide (HST2.out A B hA2 hB2)
          have bA : 0 ≤ A ∧ A ≤ 65536 := by omega
          have bB : 0 ≤ B ∧ B ≤ 65536 := by omega
          clear hA2 hB2 HST2
          have hb5 := below_alloc wr (.cells #[.int .i64 o.1, .int .i64 o.2] 27)
          have hne := later_ne (wr.alloc (.cells #[.int .i64 o.1, .int .i64 o.2] 27))
          have C0 : ∀ p : Later (wr.alloc (.cells #[.int .i64 o.1, .int .i64 o.2] 27)), p.val.cell? ⟨g, 0, none⟩ = some (.int .i64 s.1) := fun p => (p.below.cell (by simp; omega)).trans ((hb5.cell (by simpa using hg)).trans c0)
          have C1 : ∀ p : Later (wr.alloc (.cells #[.int .i64 o.1, .int .i64 o.2] 27)), p.val.cell? ⟨g, 1, none⟩ = some (.int .i64 s.2) := fun p => (p.below.cell (by simp; omega)).trans ((hb5.cell (by simpa using hg)).trans c1)
          have D0 : ∀ p : Later (wr.alloc (.cells #[.int .i64 o.1, .int .i64 o.2] 27)), p.val.cell? ⟨wr.heap.size, 0, none⟩ = some (.int .i64 o.1) := fun p => box0 p.below
          have D1 : ∀ p : Later (wr.alloc (.cells #[.int .i64 o.1, .int .i64 o.2] 27)), p.val.cell? ⟨wr.heap.size, 1, none⟩ = some (.int .i64 o.2) := fun p => box1 p.below
          have E1 : ∀ p : Later (wr.alloc (.cells #[.int .i64 o.1, .int .i64 o.2] 27)), _ := fun p => end_b s p.val hms
          have E2 : ∀ p : Later (wr.alloc (.cells #[.int .i64 o.1, .int .i64 o.2] 27)), _ := fun p => end_b o p.val hmo2
          go_wp2
          refine wp_region_later_tail 11 (by kernel_rfl) (by kernel_rfl) ?_
          simp only [List.take, List.drop]
          (repeat (first | go_big_quiet_skip | (go_big_quiet_want; go_big_quiet_op; go_big_quiet_on)))
          (go_big_quiet_want; go_big_quiet_op; apply Exists.intro; refine ⟨fun p => ?_, ?_⟩; (· exact later_of (E1 p)); go_big_quiet_on)
          (repeat (first | go_big_quiet_skip | (go_big_quiet_want; go_big_quiet_op; go_big_quiet_on)))
          (go_big_quiet_want; go_big_quiet_op; apply Exists.intro; refine ⟨fun p => ?_, ?_⟩; (· exact later_of (E2 p)); go_big_quiet_on)
          (repeat (first | go_big_quiet_skip | (go_big_quiet_want; go_big_quiet_op; go_big_quiet_on)))
          refine wpQuiet_nil ?_
          rintro _ ⟨p, rfl⟩
          have hbp := hb5.trans (p.below.mono hb5.size)
          have hownp := hown.later hbp
          have c0p := C0 p
          have c1p := C1 p
          clear C0 C1 D0 D1 E1 E2 hne
          go_wp2_with fail
          refine (add_any _ ys2 _ _ _ hownp (by omega) bA bB).mono ?_
          rintro e w5 ⟨v', rfl, hown5, hg5, hm5⟩
          have hgp : g < p.val.heap.size := Nat.lt_of_lt_of_le hg hbp.size
          have R2 := hide (below_grown (hbr2.trans (hbp.mono hbr2.size)) hg5 (Nat.le_trans hbr2.size hbp.size) hfrom2)
          have R3 := hide (hfrom2.moved hm5 (Nat.le_trans hbr2.size hbp.size))
          have R4 := hide (gcell hg5 c0p hap2)
          have R5 := hide (gcell hg5 c1p hap2)
          have R6 := hide (apart_moved hap2 hm5 hgp)
          have R7 := hide (Nat.lt_of_lt_of_le hgp hg5.size)
          have R8 := hide hown5
          clear hown5 hg5 hm5 c0p c1p hownp
          go_wp2
          go_roundw
          case rel => exact ⟨j + 1, _, by omega, by go_num, R8.out, R3.out, R1.out, R2.out, R4.out, R5.out, R6.out, R7.out⟩
          case measure => simp [intOf]; omega
        · have R1 := hide (show MI xs zs k f (t - f) ys2 by rwa [show t - f = j by omega])
          have R2 := hide (R1.out.done hx HK.out hN)
          clear hmi
          go_wp2
          go_roundw
          case rel => exact ⟨k + 1, ys2, by omega, by go_num, hown, hfrom2, R2.out, hbr2⟩
          case measure => simp [intOf]; omega
    · have HF := hide (show MO xs zs xs.length ys by have := hA.len; rwa [show xs.length = k by omega])
      go_wp2
      go_ret2
      exact ⟨_, ys, rfl, hown, hfrom, HF.out.all.1, HF.out.all.2, hbr⟩

end Sp
end Go.Proofs.Ythbgniclplfpgaa
