/- Move, where both arguments may be: what it leaves and how many sectors it moved. -/
import Derived.Test.YtjbgojccfkmlnaaMi
import Derived.Test.YtjbgojccfkmlnaaWz
import Derived.Test.YtjbgojccfkmlnaaWy
namespace Go.Proofs.Ytjbgojccfkmlnaa
open Go.RowKit
namespace Wi

theorem heap_size_alloc (w : World) (o : Obj) : (w.alloc o).heap.size = w.heap.size + 1 := by simp
theorem lens_le : ∀ {A : List Xt}, (∀ y ∈ A, y.len ≤ 65536) → lens A ≤ A.length * 65536
  | [], _ => Nat.le_refl _
  | y :: r, h => by
    have h1 := h y (by simp)
    have h2 := lens_le (A := r) fun z hz => h z (by simp [hz])
    have e : lens (y :: r) = y.len + lens r := by simp [lens]
    rw [e, List.length_cons]
    omega
theorem lens_small {W : List Xt} (h : Sm W) (hn : W.length ≤ 65536) (k : Nat) {p : Xt → Bool} : lens ((W.take k).filter p) ≤ 4294967296 := by
  have h1 := lens_le (A := (W.take k).filter p) fun y hy => by
    have := (h y (List.mem_of_mem_take (List.mem_filter.1 hy).1)).1
    unfold Xt.fin at this
    omega
  have h2 := List.length_filter_le p (W.take k)
  rw [List.length_take] at h2
  omega
set_option maxHeartbeats 8000000 in
set_option maxRecDepth 100000 in
theorem move_ok {w : World} {b : Nat} {l : List Xt} {X0 : Nat → Prop} (hM : mapT b l w X0) (hF : Fit l) (xa xl xq xt q t : Nat) (hs : Xt.Sm ⟨xa, xl, xq, xt⟩) (h1 : 1 ≤ xl) (hm : mayX xa xl xq xt = true) (hp : mayP q t = true) (hq : q < 1099511627776) (ht : t < 1099511627776) :
    Calls Try.prog 32 #[.pointer (some ⟨b, 0, none⟩), .agg #[.int .i64 (xa : Nat), .int .i64 (xl : Nat), .int .i64 (xq : Nat), .int .i64 (xt : Nat)], .agg #[.int .i64 (q : Nat), .int .i64 (t : Nat)]] w fun e w' => e = .returned (.tuple #[.int .i64 (lens ((wasL l xa (xa + xl)).filter (hitX ⟨xa, xl, xq, xt⟩)) : Nat), .int .i64 0]) ∧ LeftT (mapT b (mvL l ⟨xa, xl, xq, xt⟩ q t)) w X0 w' := by
  have hb1 := below_alloc w (.cells #[.int .i64 (xa : Nat), .int .i64 (xl : Nat), .int .i64 (xq : Nat), .int .i64 (xt : Nat)] 40)
  have HB := hide (hb1.alloc hb1.size (.cells #[.int .i64 (q : Nat), .int .i64 (t : Nat)] 32))
  have hx := hs.1
  unfold Xt.fin at hx
  simp only at hx
  have hc := may_any xa xl xq xt ⟨by omega, by omega⟩ ⟨by omega, by omega⟩ ((w.alloc (.cells #[.int .i64 (xa : Nat), .int .i64 (xl : Nat), .int .i64 (xq : Nat), .int .i64 (xt : Nat)] 40)).alloc (.cells #[.int .i64 (q : Nat), .int .i64 (t : Nat)] 32))
  unfold vX at hc
  rw [hm, show erB true = 0 from rfl] at hc
  have HX : Hid (∀ w', Below ((w.alloc (.cells #[.int .i64 (xa : Nat), .int .i64 (xl : Nat), .int .i64 (xq : Nat), .int .i64 (xt : Nat)] 40)).alloc (.cells #[.int .i64 (q : Nat), .int .i64 (t : Nat)] 32)).heap.size ((w.alloc (.cells #[.int .i64 (xa : Nat), .int .i64 (xl : Nat), .int .i64 (xq : Nat), .int .i64 (xt : Nat)] 40)).alloc (.cells #[.int .i64 (q : Nat), .int .i64 (t : Nat)] 32)) w' → (w'.cell? ⟨w.heap.size, 0, none⟩ = some (.int .i64 (xa : Nat)) ∧ w'.cell? ⟨w.heap.size, 1, none⟩ = some (.int .i64 (xl : Nat)) ∧ w'.cell? ⟨w.heap.size, 2, none⟩ = some (.int .i64 (xq : Nat)) ∧ w'.cell? ⟨w.heap.size, 3, none⟩ = some (.int .i64 (xt : Nat))) ∧ w'.cell? ⟨w.heap.size + 1, 0, none⟩ = some (.int .i64 (q : Nat)) ∧ w'.cell? ⟨w.heap.size + 1, 1, none⟩ = some (.int .i64 (t : Nat)) ∧ w.heap.size + 1 < w'.heap.size) := by
    intro w' hb
    have hX := (new_x w ⟨xa, xl, xq, xt⟩ 40)
    have hX2 := hX.later (below_alloc (w.alloc (.cells #[.int .i64 (xa : Nat), .int .i64 (xl : Nat), .int .i64 (xq : Nat), .int .i64 (xt : Nat)] 40)) (.cells #[.int .i64 (q : Nat), .int .i64 (t : Nat)] 32))
    have hX3 := hX2.later hb
    have hh : ((w.alloc (.cells #[.int .i64 (xa : Nat), .int .i64 (xl : Nat), .int .i64 (xq : Nat), .int .i64 (xt : Nat)] 40)).alloc (.cells #[.int .i64 (q : Nat), .int .i64 (t : Nat)] 32)).heap[w.heap.size + 1]? = some (.cells #[.int .i64 (q : Nat), .int .i64 (t : Nat)] 32 (0, 0)) := by
      have := heap_alloc_new (w.alloc (.cells #[.int .i64 (xa : Nat), .int .i64 (xl : Nat), .int .i64 (xq : Nat), .int .i64 (xt : Nat)] 40)) (.cells #[.int .i64 (q : Nat), .int .i64 (t : Nat)] 32)
      rwa [show (w.alloc (.cells #[.int .i64 (xa : Nat), .int .i64 (xl : Nat), .int .i64 (xq : Nat), .int .i64 (xt : Nat)] 40)).heap.size = w.heap.size + 1 by simp] at this
    have hl := lt_of_block hh
    refine ⟨⟨hX3.c0, hX3.c1, hX3.c2, hX3.c3⟩, (hb.cell (p := ⟨w.heap.size + 1, 0, none⟩) hl).trans ?_, (hb.cell (p := ⟨w.heap.size + 1, 1, none⟩) hl).trans ?_, Nat.lt_of_lt_of_le hl hb.size⟩ <;> (rw [cell_of_row _ _ _ _ _ _ hh]; rfl)
  have HM := hide hM
  have HF := hide hF
  have HS := hide hs
  have HQ := hide hq
  have HT := hide ht
  clear hb1 hm hM hF hs hq ht
  obtain ⟨W0, hW0⟩ : ∃ W0, W0 = (w.alloc (.cells #[.int .i64 (xa : Nat), .int .i64 (xl : Nat), .int .i64 (xq : Nat), .int .i64 (xt : Nat)] 40)).alloc (.cells #[.int .i64 (q : Nat), .int .i64 (t : Nat)] 32) := ⟨_, rfl⟩
  go_enter Try.func32, Try.ntmps32
  go_wp2_with fail
  refine hc.mono ?_
  rintro e w2 ⟨rfl, hb2⟩
  have hc2 := spotmay_any q t w2
  rw [hp, show erB true = 0 from rfl] at hc2
  rw [← hW0] at HB HX hb2
  have HW2 := hide hb2
  obtain ⟨_, c0, c1, _⟩ := HX.out w2 hb2
  clear hc hb2 hp hW0
  go_wp2_with fail
  refine hc2.mono ?_
  rintro e w3 ⟨rfl, hb3⟩
  have HW3 := hide (HW2.out.trans (hb3.mono HW2.out.size))
  obtain ⟨⟨x0, x1, x2, x3⟩, y0, y1, yl⟩ := HX.out w3 HW3.out
  have HB3 := hide (HB.out.trans (HW3.out.mono HB.out.size))
  have hg := below_alloc w3 (.cells #[.int .i64 (xa : Nat), .int .i64 (xl : Nat), .int .i64 (q : Nat), .int .i64 (t : Nat)] 40)
  have HG4 := hide (new_x w3 ⟨xa, xl, q, t⟩ 40)
  have HB4 := hide (HB3.out.trans (hg.mono HB3.out.size))
  have HW4 := hide (HW3.out.trans (hg.mono HW3.out.size))
  obtain ⟨v, hRM, hXv⟩ := (mapT_good b l).later HM.out HB4.out
  have hc4 := within_any hRM HF.out.can.ris HF.out.sm (Nat.le_trans HF.out.len (by omega)) xa xl h1 hx
  have HRM := hide hRM
  have HXv := hide hXv
  obtain ⟨⟨z0, z1, _, _⟩, _, _, _⟩ := HX.out _ HW4.out
  clear hc2 hb3 c0 c1 hg hRM hXv HW2
  go_wp2_with fail
  refine hc4.mono ?_
  rintro e w5 ⟨f, rfl, hf, hfr, hb5⟩
  have HR := hide (was_can (a := xa) (b := xa + xl) HF.out.can).ris
  have HIN := hide (was_in (a := xa) (b := xa + xl) HF.out.can.ris)
  have HSW : Hid (Sm (wasL l xa (xa + xl))) := (HF.out.sm.behind HF.out.can.ris).ahead (behind_ris HF.out.can.ris)
  have HWN : Hid ((wasL l xa (xa + xl)).length ≤ 65536) := Nat.le_trans (was_len _ _ _) HF.out.len
  have hsz := HWN.out
  obtain ⟨fa, fc, rfl, hfc, hfm⟩ := hf.len
  have HW5 := hide (HW4.out.trans (hb5.mono HW4.out.size))
  have HB5 := hide (HB4.out.trans (hb5.mono HB4.out.size))
  have HG5 := hide (HG4.out.later hb5)
  have HX5 := hide (HX.out w5 HW5.out)
  have HFR := hide hfr
  have hgs : w3.heap.size < w5.heap.size := Nat.lt_of_lt_of_le (by simp) hb5.size
  have HK : Hid (∀ wr, Keep (fun j => (Value.slice fa (wasL l xa (xa + xl)).length fc).ownBlock = some j) w5 wr → (wr.cell? ⟨w.heap.size, 0, none⟩ = some (.int .i64 (xa : Nat)) ∧ wr.cell? ⟨w.heap.size, 1, none⟩ = some (.int .i64 (xl : Nat)) ∧ wr.cell? ⟨w.heap.size, 2, none⟩ = some (.int .i64 (xq : Nat)) ∧ wr.cell? ⟨w.heap.size, 3, none⟩ = some (.int .i64 (xt : Nat))) ∧ wr.cell? ⟨w3.heap.size, 0, none⟩ = some (.int .i64 (xa : Nat)) ∧ wr.cell? ⟨w3.heap.size, 1, none⟩ = some (.int .i64 (xl : Nat)) ∧ wr.cell? ⟨w3.heap.size, 2, none⟩ = some (.int .i64 (q : Nat)) ∧ wr.cell? ⟨w3.heap.size, 3, none⟩ = some (.int .i64 (t : Nat))) := by
    intro wr hk
    have h3 : w.heap.size < w3.heap.size := by omega
    have n1 : ¬ (Value.slice fa (wasL l xa (xa + xl)).length fc).ownBlock = some w.heap.size := fun e => by
      have h9 := HFR.out _ e
      rw [heap_size_alloc] at h9
      omega
    have n2 : ¬ (Value.slice fa (wasL l xa (xa + xl)).length fc).ownBlock = some w3.heap.size := fun e => by
      have h9 := HFR.out _ e
      rw [heap_size_alloc] at h9
      omega
    have k1 : ∀ j, wr.cell? ⟨w.heap.size, j, none⟩ = w5.cell? ⟨w.heap.size, j, none⟩ := fun j => keep_cell hk (by omega) n1
    have k2 : ∀ j, wr.cell? ⟨w3.heap.size, j, none⟩ = w5.cell? ⟨w3.heap.size, j, none⟩ := fun j => keep_cell hk (by omega) n2
    obtain ⟨⟨a0, a1, a2, a3⟩, _⟩ := HX5.out
    exact ⟨⟨(k1 _).trans a0, (k1 _).trans a1, (k1 _).trans a2, (k1 _).trans a3⟩, (k2 _).trans HG5.out.c0, (k2 _).trans HG5.out.c1, (k2 _).trans HG5.out.c2, (k2 _).trans HG5.out.c3⟩
  have HF5 := hide hf
  have HB05 := hide hb5
  clear hf hfr hb5 hfc hc4 x0 x1 x2 x3 y0 y1 z0 z1
  obtain ⟨N, hN⟩ : ∃ N, N = (wasL l xa (xa + xl)).length := ⟨_, rfl⟩
  have HNN := hide hN
  rw [← hN] at hsz HK HF5 HFR
  rw [← hN]
  clear hN
  go_wp2
  go_loopw [10, 35] (fun m i wr => ∃ k : Nat, k ≤ N ∧ i = .int .i64 k ∧ m = .int .i64 (lens (((wasL l xa (xa + xl)).take k).filter (hitX ⟨xa, xl, xq, xt⟩)) : Nat) ∧ Xs wr (.slice fa N fc) (mvAt (wasL l xa (xa + xl)) ⟨xa, xl, xq, xt⟩ q t k) ∧ Keep (fun j => (Value.slice fa N fc).ownBlock = some j) w5 wr) (fun _ i _ => N - (intOf i).toNat)
  case atStart => exact ⟨0, Nat.zero_le _, rfl, rfl, by rw [mvAt_zero]; exact HF5.out, Keep.refl _ _⟩
  case round =>
    obtain ⟨k, hk, rfl, rfl, hl5, hkp⟩ := hrel
    by_cases hlt : k < N
    · obtain ⟨y, hy⟩ : ∃ y, (wasL l xa (xa + xl))[k]? = some y := ⟨_, List.getElem?_eq_getElem (by have := HNN.out; omega)⟩
      obtain ⟨hy1, hy2, hy3⟩ := HIN.out y (List.mem_of_getElem? hy)
      obtain ⟨g, off, rfl, hyc⟩ := hl5.at.2 k y (mvAt_get hy)
      obtain ⟨⟨x0, x1, x2, x3⟩, z0, z1, z2, z3⟩ := HK.out wr hkp
      have HYS := hide (HSW.out y (List.mem_of_getElem? hy))
      have HY := hide hy
      have HL5 := hide hl5
      have HKP := hide hkp
      have HHL := hide (hit_len (x := ⟨xa, xl, xq, xt⟩) hy)
      obtain ⟨ya, yl, yq, yt⟩ := y
      obtain ⟨c0, c1, c2, c3, cf, cl⟩ := hyc
      unfold Xt.fin at hy2
      simp only at hy1 hy2 hy3 c0 c1 c2 c3
      have hbA := below_alloc wr (.cells #[.int .i64 (ya : Nat), .int .i64 (yl : Nat), .int .i64 (yq : Nat), .int .i64 (yt : Nat)] 40)
      have HXY := hide (new_x wr ⟨ya, yl, yq, yt⟩ 40)
      have hkA := hkp.trans (Keep.of_below (X := fun j => (Value.slice (some ⟨g, off, none⟩) N fc).ownBlock = some j) hbA) fun _ _ e => e
      have HKA : Hid (∀ P : Later (wr.alloc (.cells #[.int .i64 (ya : Nat), .int .i64 (yl : Nat), .int .i64 (yq : Nat), .int .i64 (yt : Nat)] 40)), _) := fun P => HK.out P.val (hkA.trans (Keep.of_below (X := fun j => (Value.slice (some ⟨g, off, none⟩) N fc).ownBlock = some j) P.below) fun _ _ e => e)
      have p0 : ∀ P : Later (wr.alloc (.cells #[.int .i64 (ya : Nat), .int .i64 (yl : Nat), .int .i64 (yq : Nat), .int .i64 (yt : Nat)] 40)), _ := fun P => (HKA.out P).1.1
      have p1 : ∀ P : Later (wr.alloc (.cells #[.int .i64 (ya : Nat), .int .i64 (yl : Nat), .int .i64 (yq : Nat), .int .i64 (yt : Nat)] 40)), _ := fun P => (HKA.out P).1.2.1
      have p2 : ∀ P : Later (wr.alloc (.cells #[.int .i64 (ya : Nat), .int .i64 (yl : Nat), .int .i64 (yq : Nat), .int .i64 (yt : Nat)] 40)), _ := fun P => (HKA.out P).1.2.2.1
      have p3 : ∀ P : Later (wr.alloc (.cells #[.int .i64 (ya : Nat), .int .i64 (yl : Nat), .int .i64 (yq : Nat), .int .i64 (yt : Nat)] 40)), _ := fun P => (HKA.out P).1.2.2.2
      have q0 : ∀ P : Later (wr.alloc (.cells #[.int .i64 (ya : Nat), .int .i64 (yl : Nat), .int .i64 (yq : Nat), .int .i64 (yt : Nat)] 40)), _ := fun P => (HXY.out.later P.below).c0
      have q1 : ∀ P : Later (wr.alloc (.cells #[.int .i64 (ya : Nat), .int .i64 (yl : Nat), .int .i64 (yq : Nat), .int .i64 (yt : Nat)] 40)), _ := fun P => (HXY.out.later P.below).c1
      have q2 : ∀ P : Later (wr.alloc (.cells #[.int .i64 (ya : Nat), .int .i64 (yl : Nat), .int .i64 (yq : Nat), .int .i64 (yt : Nat)] 40)), _ := fun P => (HXY.out.later P.below).c2
      have q3 : ∀ P : Later (wr.alloc (.cells #[.int .i64 (ya : Nat), .int .i64 (yl : Nat), .int .i64 (yq : Nat), .int .i64 (yt : Nat)] 40)), _ := fun P => (HXY.out.later P.below).c3
      have hys := HYS.out
      unfold Xt.Sm Xt.fin at hys
      simp only at hys
      have hxs := HS.out
      unfold Xt.Sm Xt.fin at hxs
      simp only at hxs
      have hcp : ∀ P : Later (wr.alloc (.cells #[.int .i64 (ya : Nat), .int .i64 (yl : Nat), .int .i64 (yq : Nat), .int .i64 (yt : Nat)] 40)), _ := fun P => part_any xa xl xq xt ya yl ⟨by omega, by omega⟩ ⟨by omega, by omega⟩ P.val
      have hne := later_ne (wr.alloc (.cells #[.int .i64 (ya : Nat), .int .i64 (yl : Nat), .int .i64 (yq : Nat), .int .i64 (yt : Nat)] 40))
      have hE := fun w => run_eql40 (ya : Nat) (yl : Nat) (yq : Nat) (yt : Nat) (ya : Nat) (yl : Nat) (xq : Nat) ((xt : Nat) + (ya : Nat) - (xa : Nat)) w
      have HKW : Hid (∀ P : Later (wr.alloc (.cells #[.int .i64 (ya : Nat), .int .i64 (yl : Nat), .int .i64 (yq : Nat), .int .i64 (yt : Nat)] 40)), Xs P.val (.slice (some ⟨g, off, none⟩) N fc) (mvAt (wasL l xa (xa + xl)) ⟨xa, xl, xq, xt⟩ q t k) ∧ Keep (fun j => (Value.slice (some ⟨g, off, none⟩) N fc).ownBlock = some j) w5 P.val) := fun P => ⟨(HL5.out.later hbA).later P.below, hkA.trans (Keep.of_below (X := fun j => (Value.slice (some ⟨g, off, none⟩) N fc).ownBlock = some j) P.below) fun _ _ e => e⟩
      clear hl5 hkp hbA hkA
      cases hh : hitX ⟨xa, xl, xq, xt⟩ ⟨ya, yl, yq, yt⟩ with
      | false =>
        have HMK := hide (mvAt_keep (q := q) (t := t) hy hh)
        rw [show decide ((ya : Int) = (ya : Nat) ∧ (yl : Int) = (yl : Nat) ∧ (yq : Int) = (xq : Nat) ∧ (yt : Int) = ((xt : Nat) + (ya : Nat) - (xa : Nat) : Int)) = false from decide_eq_false fun e => by
          have := of_decide_eq_false hh
          simp only at this
          omega] at hE
        rw [hh] at HHL
        clear hh hy
        go_wp2
        refine wp_region_later (by kernel_rfl) (by kernel_rfl) ?_
        (repeat (first | go_big_quiet_skip | (go_big_quiet_want; go_big_quiet_op; go_big_quiet_on)))
        (go_big_quiet_want; go_big_quiet_op; apply Exists.intro; refine ⟨fun p => ?_, ?_⟩; (· exact later_of (hcp p)); go_big_quiet_on)
        (repeat (first | go_big_quiet_skip | (go_big_quiet_want; go_big_quiet_op; go_big_quiet_on)))
        refine wpQuiet_nil ?_
        rintro _ ⟨P, rfl⟩
        obtain ⟨hl6, hk6⟩ := HKW.out P
        have HL6 := hide hl6
        have HK6 := hide hk6
        clear p0 p1 p2 p3 q0 q1 q2 q3 hcp hne hE HKW HKA hl6 hk6 HXY
        generalize P.val = w6 at *
        go_wp2
        go_roundw
        case rel => exact ⟨k + 1, by omega, by go_num, by rw [HHL.out]; rfl, by rw [HMK.out]; exact HL6.out, HK6.out⟩
        case measure => simp [intOf]; omega
      | true =>
        have HMS := hide (mvAt_succ (x := ⟨xa, xl, xq, xt⟩) (q := q) (t := t) hy)
        have HMX : Hid (mvX ⟨xa, xl, xq, xt⟩ q t ⟨ya, yl, yq, yt⟩ = ⟨ya, yl, q, t + (ya - xa)⟩) := by
          show mvX _ _ _ _ = _
          unfold mvX
          rw [hh]
          rfl
        have HGT := hide (mvAt_get (x := ⟨xa, xl, xq, xt⟩) (q := q) (t := t) hy)
        rw [show decide ((ya : Int) = (ya : Nat) ∧ (yl : Int) = (yl : Nat) ∧ (yq : Int) = (xq : Nat) ∧ (yt : Int) = ((xt : Nat) + (ya : Nat) - (xa : Nat) : Int)) = true from decide_eq_true (by
          have := of_decide_eq_true hh
          simp only at this
          omega)] at hE
        rw [hh] at HHL
        clear hh hy
        go_wp2
        refine wp_region_later (by kernel_rfl) (by kernel_rfl) ?_
        (repeat (first | go_big_quiet_skip | (go_big_quiet_want; go_big_quiet_op; go_big_quiet_on)))
        (go_big_quiet_want; go_big_quiet_op; apply Exists.intro; refine ⟨fun p => ?_, ?_⟩; (· exact later_of (hcp p)); go_big_quiet_on)
        (repeat (first | go_big_quiet_skip | (go_big_quiet_want; go_big_quiet_op; go_big_quiet_on)))
        refine wpQuiet_nil ?_
        rintro _ ⟨P, rfl⟩
        obtain ⟨hl6, hk6⟩ := HKW.out P
        obtain ⟨g', off', he', hc6⟩ := hl6.at.2 k _ HGT.out
        obtain ⟨rfl, rfl⟩ : g' = g ∧ off' = off := by
          injection he' with he'
          injection he' with h7 h8
          exact ⟨h7.symm, h8.symm⟩
        have HL6 := hide hl6
        have HK6 := hide hk6
        have HC6 := hide hc6
        have hxy := HXY.out.later P.below
        obtain ⟨r0, r1, r2, r3, _, rl⟩ := hxy
        have HXY6 := hide (HXY.out.later P.below)
        obtain ⟨_, z0, z1, z2, z3⟩ := HKA.out P
        have ht2 := HT.out
        have hcq := part_any xa xl q t ya yl ⟨by omega, by omega⟩ ⟨by omega, by omega⟩ P.val
        clear p0 p1 p2 p3 q0 q1 q2 q3 hcp hne hE HKW HKA hl6 hk6 HXY hc6 he'
        generalize P.val = w6 at *
        go_wp2_with fail
        refine hcq.mono ?_
        rintro e w7 ⟨rfl, hb7⟩
        have HB7 := hide hb7
        obtain ⟨c0, c1, c2, c3, cf, cl⟩ := HC6.out.later hb7
        have h8 : ((t : Int) + (ya : Nat) - (xa : Nat)) = ((t + (ya - xa) : Nat) : Int) := by omega
        have hML : (mvAt (wasL l xa (xa + xl)) ⟨xa, xl, xq, xt⟩ q t k).length = N := by rw [mvAt_length, ← HNN.out]
        have P1 : Hid (Xs ((((w7.setCell ⟨g', off' + k * 4, none⟩ (.int .i64 (ya : Nat))).setCell ⟨g', off' + k * 4 + 1, none⟩ (.int .i64 (yl : Nat))).setCell ⟨g', off' + k * 4 + 2, none⟩ (.int .i64 (q : Nat))).setCell ⟨g', off' + k * 4 + 3, none⟩ (.int .i64 ((t : Int) + (ya : Nat) - (xa : Nat)))) (.slice (some ⟨g', off', none⟩) N fc) (mvAt (wasL l xa (xa + xl)) ⟨xa, xl, xq, xt⟩ q t (k + 1))) := by
          have h9 := HL6.out.later hb7
          rw [← hML] at h9
          have h10 := h9.set (i := k) (by omega) ⟨ya, yl, q, t + (ya - xa)⟩
          rw [← HMX.out, HMS.out, hML, HMX.out] at h10
          rw [h8]
          exact h10
        have P2 : Hid (Keep (fun j => (Value.slice (some ⟨g', off', none⟩) N fc).ownBlock = some j) w5 ((((w7.setCell ⟨g', off' + k * 4, none⟩ (.int .i64 (ya : Nat))).setCell ⟨g', off' + k * 4 + 1, none⟩ (.int .i64 (yl : Nat))).setCell ⟨g', off' + k * 4 + 2, none⟩ (.int .i64 (q : Nat))).setCell ⟨g', off' + k * 4 + 3, none⟩ (.int .i64 ((t : Int) + (ya : Nat) - (xa : Nat))))) := by
          have h9 := HK6.out.trans (Keep.of_below (X := fun j => (Value.slice (some ⟨g', off', none⟩) N fc).ownBlock = some j) hb7) fun _ _ e => e
          exact h9.trans (Keep.setCells (X := fun j => (Value.slice (some ⟨g', off', none⟩) N fc).ownBlock = some j) g' rfl [.int .i64 (ya : Nat), .int .i64 (yl : Nat), .int .i64 (q : Nat), .int .i64 ((t : Int) + (ya : Nat) - (xa : Nat))] (off' + k * 4) w7) fun _ _ e => e
        have s1 : w7.cell? ⟨wr.heap.size, 1, none⟩ = some (.int .i64 (yl : Nat)) := (HXY6.out.later hb7).c1
        have hll : lens (((wasL l xa (xa + xl)).take k).filter (hitX ⟨xa, xl, xq, xt⟩)) ≤ 4294967296 := lens_small HSW.out HWN.out k
        clear hcq hb7 z0 z1 z2 z3 r0 r1 r2 r3 h8 hML
        go_wp2
        go_roundw
        case rel => exact ⟨k + 1, by omega, by go_num, by rw [HHL.out]; go_num, P1.out, P2.out⟩
        case measure => simp [intOf]; omega
    · obtain rfl : k = N := by omega
      have hfin : (wasL l xa (xa + xl)).take k = wasL l xa (xa + xl) := List.take_of_length_le (by rw [← HNN.out]; exact Nat.le_refl _)
      have hful : mvAt (wasL l xa (xa + xl)) ⟨xa, xl, xq, xt⟩ q t k = (wasL l xa (xa + xl)).map (mvX ⟨xa, xl, xq, xt⟩ q t) := by rw [HNN.out, mvAt_full]
      rw [hful] at hl5
      rw [hfin]
      have hXk : ∀ j, (Value.slice fa k fc).ownBlock = some j → w3.heap.size < j := fun j e => by
        have h9 := HFR.out _ e
        rw [heap_size_alloc] at h9
        omega
      have hwr : Below w.heap.size w wr := HB5.out.trans (hkp.below HB5.out.size fun i hi e => by have := hXk i e; omega)
      have hM5 := (mapT_good b l).keep ((mapT_good b l).later HM.out HB5.out) hkp fun i hi e => by
        have h9 := (mapT_good b l).lt HM.out i hi
        have := hXk i e
        omega
      obtain ⟨v', hRM', hXv'⟩ := hM5
      obtain ⟨m1, m2⟩ := mv_in HF.out.can ⟨xa, xl, xq, xt⟩ q t
      have hSM : Sm ((wasL l xa (xa + xl)).map (mvX ⟨xa, xl, xq, xt⟩ q t)) := fun y hy => by
        obtain ⟨z, hz, rfl⟩ := List.mem_map.1 hy
        obtain ⟨b1, b2, b3⟩ := HSW.out z hz
        have b4 := (HIN.out z hz).1
        have hq := HQ.out
        have ht := HT.out
        unfold mvX
        split
        · unfold Xt.Sm Xt.fin at *
          simp only at *
          omega
        · exact ⟨b1, b2, b3⟩
      have hc6 := lay_any hXv' hRM' HF.out.can HF.out.sm (Nat.le_trans HF.out.len (by omega)) hl5 m1 hSM (by rw [List.length_map, ← HNN.out]; omega) xa xl h1 hx m2
      obtain ⟨⟨x0, x1, x2, x3⟩, _⟩ := HK.out wr hkp
      have HWR := hide hwr
      clear hl5 hkp hlt hfin hful hXk hwr hRM' hXv' m1 m2 hSM
      go_wp2_with fail
      refine hc6.mono ?_
      rintro e w9 ⟨v9, rfl, hl9⟩
      have HL9 := hide hl9
      clear hc6 hl9 x0 x1 x2 x3
      go_wp2
      go_ret2
      exact ⟨rfl, LeftT.mono (HL9.out.first HWR.out) fun Z hZ => by
        obtain ⟨XA, XB, g1, _, _, g4⟩ := hZ
        exact ⟨XA, g1, fun i hi => (g4 i).2 (.inl hi)⟩⟩

end Wi
end Go.Proofs.Ytjbgojccfkmlnaa
