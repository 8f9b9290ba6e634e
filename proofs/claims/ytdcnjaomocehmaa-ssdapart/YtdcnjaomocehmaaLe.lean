/- A part of the proofs about package ssd: what its functions answer, call by call. -/
import Derived.Test.YtdcnjaomocehmaaLx
import Derived.Test.YtdcnjaomocehmaaLc
namespace Go.Proofs.Ytdcnjaomocehmaa
open Go.RowKit
namespace Wi

/-- Of the device the sector 19 lasts as X, and was written first, as Y; all else is of other sectors. -/
structure Ap (X Y : List Nat) (d : Dv) : Prop where
  gone : d.gone = false
  stop : d.stop = none
  len : d.last.length = 20
  lst : d.last.getD 19 [] = X
  pend : ∃ r, d.pend = (19, Y) :: r ∧ ∀ p ∈ r, p.1 ≠ 19
theorem Ap.start {X Y : List Nat} (hx : X.length = 64) (hy : Y.length = 64) : Ap X Y ((((dv0 20).write 19 X).barrier).write 19 Y) ∧ ((((dv0 20).write 19 X).barrier).write 19 Y).pend.length = 1 ∧ (((dv0 20).write 19 X).barrier).pend.length = 0 := by
  have w1 := (write_fits (d := dv0 20) rfl rfl (A := 19) (n := 1) (data := X) (by omega) (by simp [dv0])).2
  have e1 : (dv0 20).write 19 X = (dv0 20).plus (puts 19 X 1) := w1
  have p1 : ∀ Z : List Nat, Z.length = 64 → puts 19 Z 1 = [(19, Z)] := fun Z hZ => by
    simp only [puts]
    rw [List.take_of_length_le (by omega)]
  rw [e1, p1 X hx]
  have e2 : ((dv0 20).plus [(19, X)]).barrier = ⟨(dv0 20).last.set 19 X, [], false, none⟩ := rfl
  rw [e2]
  have w2 := (write_fits (d := ⟨(dv0 20).last.set 19 X, [], false, none⟩) rfl rfl (A := 19) (n := 1) (data := Y) (by omega) (by simp [dv0])).2
  have e3 : (Dv.mk ((dv0 20).last.set 19 X) [] false none).write 19 Y = (Dv.mk ((dv0 20).last.set 19 X) [] false none).plus (puts 19 Y 1) := w2
  rw [e3, p1 Y hy]
  exact ⟨⟨rfl, rfl, by simp [Dv.plus, dv0], by simp [Dv.plus, dv0, List.getD], ⟨[], rfl, by simp⟩⟩, rfl, rfl⟩
theorem Ap.step {X Y : List Nat} {d : Dv} (h : Ap X Y d) (o : OpV) (h0 : o.ask = 0) (h8 : o.place ≤ 8) (hs : o.data.size ≤ 640) : Ap X Y (d.step o) := by
  have hd : d.dead = false := by simp [Dv.dead, h.gone, h.stop]
  unfold Dv.step
  rw [if_pos h0]
  unfold Dv.write
  rw [hd]
  simp only [Bool.false_eq_true, if_false]
  split
  · rename_i he
    have hz := Dv.writeE_zero he
    rw [bs_length] at hz
    obtain ⟨r, hr, hp⟩ := h.pend
    refine ⟨h.gone, by simp [Dv.tick, h.stop], h.len, h.lst, ⟨r ++ puts o.place.toNat (bs o.data) ((bs o.data).length / 64), by rw [hr]; rfl, fun p hp' => ?_⟩⟩
    rcases List.mem_append.1 hp' with h1 | h1
    · exact hp p h1
    · have := puts_at _ _ _ p h1
      rw [bs_length] at this
      omega
  · exact ⟨h.gone, by simp [Dv.tick, h.stop], h.len, h.lst, h.pend⟩
theorem Ap.read {X Y : List Nat} {d : Dv} (h : Ap X Y d) : d.readE 19 1 = 0 ∧ d.readS 19 1 = Y := by
  obtain ⟨r1, r2⟩ := read_fits (d := d) h.gone (a := 19) (n := 1) (A := 19) (N := 1) rfl rfl (by rw [h.len]; omega)
  refine ⟨r1, ?_⟩
  obtain ⟨r, hr, hp⟩ := h.pend
  rw [r2]
  simp only [Dv.secs, Dv.at, hr, over]
  simp [over_apart 19 r Y hp]
theorem Ap.crash {X Y : List Nat} {d : Dv} (h : Ap X Y d) (k : Int) (K : List Int) (hk : k = 0 ∨ k = 1) : (d.crash (k :: K)).readE 19 1 = 0 ∧ (d.crash (k :: K)).readS 19 1 = if k = 1 then Y else X := by
  obtain ⟨r1, r2⟩ := read_fits (d := d.crash (k :: K)) h.gone (a := 19) (n := 1) (A := 19) (N := 1) rfl rfl (by show 19 + 1 ≤ (crashes _ _ _).length; rw [crashes_length, h.len]; omega)
  refine ⟨r1, ?_⟩
  obtain ⟨r, hr, hp⟩ := h.pend
  have e : (crashes d.last d.pend (k :: K)).getD 19 [] = if k = 1 then Y else X := by
    rw [hr, crashes, crashes_apart 19 r _ _ hp]
    have hl := h.len
    have : (d.last.set 19 (left1 (d.last.getD 19 []) Y (how k))).getD 19 [] = left1 X Y (how k) := by
      rw [h.lst, List.getD, List.getElem?_set_self (by omega)]
      rfl
    show (d.last.set 19 (left1 (d.last.getD 19 []) Y (how k))).getD 19 [] = _
    rw [this]
    rcases hk with rfl | rfl
    · simp [left1, how]
    · simp [left1, how]
  rw [r2]
  simp only [Dv.secs, Dv.at, Dv.crash, over, List.range_succ, List.range_zero, List.nil_append, List.flatMap_cons, List.flatMap_nil, List.append_nil, Nat.add_zero]
  exact e
theorem My.left {W w w' : World} {b : Nat} {d' : Dv} {X : Nat → Prop} (hX : ∀ k, X k → W.heap.size ≤ k) (hb : Below W.heap.size W w) (hl : Left w b X d' w') : My W w' b d' := by
  obtain ⟨X', hd⟩ := hl
  exact ⟨X', hd.dev, hd.from hb.size hX, hb.trans (hd.below hb.size hX)⟩
/-- A row of numbers that is written. -/
def KRow (w : World) (g : Nat) (l : List Int) : Prop := w.heap[g]? = some (.cells (l.map fun x => Value.int .i64 x).toArray 3 (0, 0))
theorem KRow.set {w : World} {g : Nat} {l : List Int} (h : KRow w g l) (i : Nat) (v : Int) : KRow (w.setCell ⟨g, i, none⟩ (.int .i64 v)) g (l.set i v) := by
  unfold KRow
  rw [setCell_blk h]
  simp [List.map_set]
theorem KRow.cell {w : World} {g : Nat} {l : List Int} (h : KRow w g l) {i : Nat} {x : Int} (hi : l[i]? = some x) : w.cell? ⟨g, i, none⟩ = some (.int .i64 x) := by
  rw [cell_of_row _ _ _ _ _ _ h]
  simp [hi]
theorem KRow.free {w : World} {g : Nat} {l : List Int} (h : KRow w g l) (i : Nat) : w.frozen? ⟨g, i, none⟩ = false := frozen_of_row _ _ _ _ _ h
theorem KRow.ks {w : World} {g : Nat} {l : List Int} (h : KRow w g l) {X : Nat → Prop} (hx : ¬ X g) (hn : ∀ x ∈ l, Num x) (hl : l.length ≤ 1000) : Ks w X (some ⟨g, 0, none⟩) l.length l :=
  ⟨rfl, by omega, hn, fun i x hi => ⟨g, 0, rfl, lt_of_block h, hx, by rw [Nat.zero_add]; exact h.cell hi⟩⟩
theorem info3 : (Try.prog.info? 3).map (fun i => (i.zero, i.size, i.bytes)) = some (some (.int .i64 0), 1, 8) := by kernel_rfl
theorem make_ints {N : Nat} (h : N ≤ 1000000) (w : World) : ∃ w', (Instr.makeSlice 34 (.int .i64 (N : Int)) (.int .i64 (N : Int))).run Try.prog w = .ok (.slice (some ⟨w.heap.size, 0, none⟩) N N) w' ∧ KRow w' w.heap.size (List.replicate N 0) ∧ Below w.heap.size w w' := by
  obtain ⟨i0, hi, hz0, hz1, hz2⟩ := info_parts info3
  have hr := run_make (P := Try.prog) w 34 3 i0 (.int .i64 0) Try.underlying34 hi hz0 .i64 .i64 (N : Int) (N : Int) (by omega) (by omega) (by rw [hz2]; omega) (by omega)
  rw [hz1] at hr
  refine ⟨_, by simpa using hr, ?_, below_alloc w _⟩
  unfold KRow
  rw [heap_alloc_new]
  congr 2
  apply Array.ext'
  rw [show (Value.int .i64 0).cells = #[Value.int .i64 0] from rfl, toList_madeCells_one]
  simp
/-- The device, and the row of numbers that a crash is to keep. -/
structure DevKeep (W : World) (b : Nat) (d : Dv) (g : Nat) (m : Nat) (k0 : Int) (w : World) : Prop where
  dev : ∃ X, Dev w b X d ∧ (∀ k, X k → W.heap.size ≤ k) ∧ ¬ X g
  row : ∃ l, KRow w g (k0 :: l) ∧ l.length + 1 = m ∧ ∀ x ∈ l, Num x
  new : W.heap.size ≤ g
  below : Below W.heap.size W w
theorem DevKeep.set {W w : World} {b : Nat} {d : Dv} {g m : Nat} {k0 : Int} (h : DevKeep W b d g m k0 w) (i : Nat) (v : Int) (hv : Num v) : DevKeep W b d g m k0 (w.setCell ⟨g, i + 1, none⟩ (.int .i64 v)) := by
  obtain ⟨X, hD, hX, hx⟩ := h.dev
  obtain ⟨l, hr, hl, hn⟩ := h.row
  have k := Keep.setCell (X := fun j => j = g) w ⟨g, i + 1, none⟩ (.int .i64 v) rfl
  refine ⟨⟨X, hD.keep k fun j hj e => hx (e ▸ hj), hX, hx⟩, ⟨l.set i v, hr.set (i + 1) v, by simpa using hl, fun x hm => ?_⟩, h.new, h.below.trans (k.below h.below.size fun j hj e => by have := h.new; omega)⟩
  rcases List.mem_or_eq_of_mem_set hm with h1 | h1
  · exact hn x h1
  · rw [h1]; exact hv
theorem DevKeep.set0 {W w : World} {b : Nat} {d : Dv} {g m : Nat} {k0 : Int} (h : DevKeep W b d g m k0 w) (v : Int) : DevKeep W b d g m v (w.setCell ⟨g, 0, none⟩ (.int .i64 v)) := by
  obtain ⟨X, hD, hX, hx⟩ := h.dev
  obtain ⟨l, hr, hl, hn⟩ := h.row
  have k := Keep.setCell (X := fun j => j = g) w ⟨g, 0, none⟩ (.int .i64 v) rfl
  exact ⟨⟨X, hD.keep k fun j hj e => hx (e ▸ hj), hX, hx⟩, ⟨l, hr.set 0 v, hl, hn⟩, h.new, h.below.trans (k.below h.below.size fun j hj e => by have := h.new; omega)⟩
theorem DevKeep.cell {W w : World} {b : Nat} {d : Dv} {g m : Nat} {k0 : Int} (h : DevKeep W b d g m k0 w) {i : Nat} (hi : i < m) : (∃ x, w.cell? ⟨g, i, none⟩ = some (.int .i64 x)) ∧ w.frozen? ⟨g, i, none⟩ = false := by
  obtain ⟨l, hr, hl, hn⟩ := h.row
  exact ⟨⟨_, hr.cell (List.getElem?_eq_getElem (by simp; omega))⟩, hr.free i⟩

set_option maxHeartbeats 8000000 in
set_option maxRecDepth 20000 in
theorem ssdApart_walk (x y : Nat) (a : Option Addr) (n cap : Nat) (xs : List OpV) (kept_ : Bool) (W : World) (hx : x < 256) (hy : y < 256) (hO0 : Os W a n xs) : Calls Try.prog 8 #[.agg #[.int .u8 (x : Nat), .int .u8 (y : Nat)], .slice a n cap, .bool kept_] W fun e w' => e = .returned (.bool true) ∧ Below W.heap.size W w' := by
  have hn := hO0.most
  have HL := hide hO0.len
  obtain ⟨W1, hW1⟩ : ∃ W1, W1 = W.alloc (.cells #[.int .u8 (x : Nat), .int .u8 (y : Nat)] 52) := ⟨_, rfl⟩
  have hb0 : Below W.heap.size W W1 := by rw [hW1]; exact below_alloc _ _
  have hN0 := heap_alloc_new W (.cells #[.int .u8 (x : Nat), .int .u8 (y : Nat)] 52)
  rw [← hW1] at hN0
  have HW1 := hide hW1
  clear hW1
  have hO := hO0.later hb0
  have hfx : ∀ w, _ := fun w => full_any x hx w
  have hfy : ∀ w, _ := fun w => full_any y hy w
  have T0 : Hid (∀ w, Below W1.heap.size W1 w → w.cell? ⟨W.heap.size, 0, none⟩ = some (.int .u8 (x : Nat)) ∧ w.cell? ⟨W.heap.size, 1, none⟩ = some (.int .u8 (y : Nat))) := fun w hb => ⟨(hb.cell (p := ⟨W.heap.size, 0, none⟩) (lt_of_block hN0)).trans (by rw [cell_of_row _ _ _ _ _ _ hN0]; rfl), (hb.cell (p := ⟨W.heap.size, 1, none⟩) (lt_of_block hN0)).trans (by rw [cell_of_row _ _ _ _ _ _ hN0]; rfl)⟩
  obtain ⟨hAp, hp1, hp2⟩ := Ap.start (X := List.replicate 64 x) (Y := List.replicate 64 y) List.length_replicate List.length_replicate
  rw [← bs_full hx, ← bs_full hy] at hAp hp1
  rw [← bs_full hx] at hp2
  have sx : (str (List.replicate 64 x)).size = 64 := by rw [str_size, List.length_replicate]
  have sy : (str (List.replicate 64 y)).size = 64 := by rw [str_size, List.length_replicate]
  have hnw := new_any 20 (by omega) (by omega) W1
  have HB0 := hide hb0
  clear hb0 hN0
  obtain ⟨d1, hd1⟩ : ∃ d1, d1 = (dv0 20).write 19 (bs (str (List.replicate 64 x))) := ⟨_, rfl⟩
  obtain ⟨d2, hd2⟩ : ∃ d2, d2 = d1.barrier := ⟨_, rfl⟩
  obtain ⟨d3, hd3⟩ : ∃ d3, d3 = d2.write 19 (bs (str (List.replicate 64 y))) := ⟨_, rfl⟩
  rw [← hd1, ← hd2, ← hd3] at hAp hp1
  rw [← hd1, ← hd2] at hp2
  rw [bs_full hx, bs_full hy] at hAp
  have E1 := hide hd1
  have E2 := hide hd2
  have E3 := hide hd3
  have P2 := hide hp2
  have P3 := hide hp1
  clear hd1 hd2 hd3 hp2 hp1
  obtain ⟨SX, hSX⟩ : ∃ SX, SX = str (List.replicate 64 x) := ⟨_, rfl⟩
  obtain ⟨SY, hSY⟩ : ∃ SY, SY = str (List.replicate 64 y) := ⟨_, rfl⟩
  rw [← hSX] at hfx sx E1
  rw [← hSY] at hfy sy E3
  have ESX := hide hSX
  have ESY := hide hSY
  clear hSX hSY
  cases hB : fewB xs with
  | false =>
    go_enter Try.func8, Try.ntmps8
    go_wp2_with fail
    rw [← HW1.out]
    refine hnw.mono ?_
    rintro e w1 ⟨rfl, hN1⟩
    have hM := hN1.my (Below.refl _ _)
    clear hN1 hnw
    have hf := few_any (cap := cap) (hO.later hM.below)
    rw [hB] at hf
    go_wp2_with fail
    refine hf.mono ?_
    rintro e w' ⟨rfl, rfl⟩
    clear hf
    have hb2 := hide hM.below
    clear hM
    go_wp2_with fail
    refine (awake_any _).mono ?_
    rintro e w3 ⟨rfl, hb3⟩
    go_wp2
    go_ret
    exact ⟨rfl, HB0.out.trans ((hb2.out.trans (hb3.mono hb2.out.size)).mono HB0.out.size)⟩
  | true =>
    go_enter Try.func8, Try.ntmps8
    go_wp2_with fail
    rw [← HW1.out]
    refine hnw.mono ?_
    rintro e w1 ⟨rfl, hN1⟩
    have hM := hN1.my (Below.refl _ _)
    clear hN1 hnw
    have hf := few_any (cap := cap) (hO.later hM.below)
    rw [hB] at hf
    go_wp2_with fail
    refine hf.mono ?_
    rintro e w' ⟨rfl, rfl⟩
    clear hf
    obtain ⟨hgood, h50⟩ := fewB_iff.1 hB
    have hgood' : ∀ o ∈ xs, o.data.size ≤ 640 := fun o ho => (hgood o ho).1
    have HG := hide hgood'
    have HB := hide hB
    clear hgood hgood' hB
    obtain ⟨t0, t1⟩ := T0.out _ hM.below
    go_wp2_with fail
    refine (hfx _).mono ?_
    rintro e w2 ⟨rfl, hb2⟩
    replace hM := hM.later hb2
    clear hb2 t0 t1
    obtain ⟨X, hD, hX, hgo⟩ := hM.go
    have hc := write_any hD 19 SX (by omega) (by omega) (by show 0 + _ ≤ _; omega)
    rw [← E1.out] at hc
    generalize (dv0 20).writeA 19 (bs SX) = EE at *
    go_wp2_with fail
    refine hc.mono ?_
    rintro e w3 ⟨rfl, hl⟩
    replace hM := hgo hl
    clear hl hgo hD hX X hc
    obtain ⟨X, hD, hX, hgo⟩ := hM.go
    have hc := barrier_any hD
    rw [← E2.out] at hc
    generalize d1.barrierA = EE2 at *
    go_wp2_with fail
    refine hc.mono ?_
    rintro e w4 ⟨rfl, hl⟩
    replace hM := hgo hl
    clear hl hgo hD hX X hc
    obtain ⟨t0, t1⟩ := T0.out _ hM.below
    go_wp2_with fail
    refine (hfy _).mono ?_
    rintro e w5 ⟨rfl, hb2⟩
    replace hM := hM.later hb2
    clear hb2 t0 t1
    obtain ⟨X, hD, hX, hgo⟩ := hM.go
    have hc := write_any hD 19 SY (by omega) (by omega) (by rw [P2.out]; omega)
    rw [← E3.out] at hc
    generalize d2.writeA 19 (bs SY) = EE3 at *
    go_wp2_with fail
    refine hc.mono ?_
    rintro e w6 ⟨rfl, hl⟩
    replace hM := hgo hl
    clear hl hgo hD hX X hc
    have HM := hide hM
    clear hM
    go_wp2
    go_loopw [9, 10] (fun v i wr => ∃ (k : Nat) (d : Dv), k ≤ n ∧ i = .int .i64 k ∧ v = .int .i64 (d.pend.length : Nat) ∧ d.pend.length ≤ 1 + 10 * k ∧ Ap (List.replicate 64 x) (List.replicate 64 y) d ∧ My W1 wr (W1.heap.size + 1) d) (fun _ i _ => n - (intOf i).toNat)
    case atStart => exact ⟨0, d3, Nat.zero_le _, rfl, by rw [P3.out]; rfl, by rw [P3.out]; omega, hAp, HM.out⟩
    case round =>
      clear HM hAp E1 E2 E3 P2 P3 sx sy
      obtain ⟨k, d, hk, rfl, rfl, hpk, hAp, hM⟩ := hrel
      by_cases hlt : k < n
      · obtain ⟨o, ho⟩ : ∃ o, xs[k]? = some o := ⟨_, List.getElem?_eq_getElem (by have := HL.out; omega)⟩
        have hmem := List.mem_of_getElem? ho
        have hsz := HG.out o hmem
        have hok := hO.ok o hmem
        have hkl : k ≤ 50 := by have := HL.out; omega
        obtain ⟨b, off, rfl, c0, c1, c2, c3, c4⟩ := hO.at hM.below ho
        clear ho
        have hA1 := below_alloc wr (.cells o.cells.toArray 36)
        have hM1 := hM.later hA1
        have hst := fun h0 h8 => hAp.step o h0 h8 hsz
        have hpd := step_pend d o hsz
        have hplc := hok.place
        obtain ⟨X, hD, hX, hgo⟩ := hM1.go
        have hpe := pending_any hD
        have hc := does_any hD o (hok.to hM1.below hX) hsz (by omega)
        clear hok hmem
        obtain ⟨ask, pl, nn, data, ka, kn, kc, keep⟩ := o
        unfold OpV.cells at *
        simp only at *
        have HM1 := hide hM1
        have HD := hide hpe
        clear hM1 hM hA1 hD
        by_cases h0 : ask = 0
        · subst h0
          by_cases h8 : 8 < pl
          · go_wp2
            go_roundw
            case rel => exact ⟨k + 1, d, by omega, by go_num, rfl, by omega, hAp, HM1.out⟩
            case measure => simp [intOf]; omega
          · have hA2 := hst rfl (by omega)
            generalize hS : str (d.stepS ⟨0, pl, nn, data, ka, kn, kc, keep⟩) = S at *
            generalize hE : d.stepE ⟨0, pl, nn, data, ka, kn, kc, keep⟩ = E at *
            generalize hd' : d.step ⟨0, pl, nn, data, ka, kn, kc, keep⟩ = d' at *
            clear hS hE hd'
            go_wp2_with fail
            refine hpe.mono ?_
            rintro e w' ⟨rfl, rfl⟩
            go_wp2_with fail
            refine hc.mono ?_
            rintro e w7 ⟨rfl, hl⟩
            have hM2 := hgo hl
            clear hl hgo hX hc HD hpe X
            obtain ⟨X, hD, hX, hgo⟩ := hM2.go
            have hpe := pending_any hD
            clear hD hX hgo X
            have hq1 : d.pend.length ≤ 1000 := by omega
            have hq2 : d'.pend.length ≤ 1000 := by omega
            have HM2 := hide hM2
            clear hM2
            generalize hL1 : d.pend.length = L1 at *
            generalize hL2 : d'.pend.length = L2 at *
            have HL2 := hide hL2
            clear hL2 hL1
            go_wp2_with fail
            refine hpe.mono ?_
            rintro e w' ⟨rfl, rfl⟩
            go_wp2
            go_roundw
            case rel => exact ⟨k + 1, d', by omega, by go_num, by rw [HL2.out]; go_num, by rw [HL2.out]; omega, hA2, HM2.out⟩
            case measure => simp [intOf]; omega
        · have b0 : (ask != 0) = true := by rw [bne_iff_ne]; exact h0
          clear h0
          go_wp2
          go_roundw
          case rel => exact ⟨k + 1, d, by omega, by go_num, rfl, by omega, hAp, HM1.out⟩
          case measure => simp [intOf]; omega
      · obtain rfl : k = n := by omega
        clear hlt
        have hpl : d.pend.length ≤ 501 := by have := HL.out; omega
        have hpos : 1 ≤ d.pend.length := by obtain ⟨r, hr, _⟩ := hAp.pend; rw [hr]; simp
        obtain ⟨X, hD, hX, hgo⟩ := hM.go
        obtain ⟨r1, r2⟩ := hAp.read
        have hc := read_any hD 19 1 (by omega) (by omega)
        rw [r1, r2, ← ESY.out] at hc
        go_wp2_with fail
        refine hc.mono ?_
        rintro e w7 ⟨rfl, hb7⟩
        replace hM := hM.later hb7
        clear hb7 hgo hD hX X hc r1 r2
        obtain ⟨t0, t1⟩ := T0.out _ hM.below
        go_wp2_with fail
        refine (hfy _).mono ?_
        rintro e w8 ⟨rfl, hb8⟩
        replace hM := hM.later hb8
        clear hb8 t0 t1
        obtain ⟨X, hD, hX, hgo⟩ := hM.go
        have hpe := pending_any hD
        have q1 : (SY.toList == SY.toList) = true := beq_lists rfl
        obtain ⟨w9, hr9, hrow, hb9⟩ := make_ints (N := d.pend.length) (by omega) w8
        have HR : Hid (DevKeep W1 (W1.heap.size + 1) d w8.heap.size d.pend.length 0 w9) := by
          show DevKeep _ _ _ _ _ _ _
          refine ⟨⟨X, hD.later hb9, hX, fun hx => Nat.lt_irrefl _ (hD.lt _ hx)⟩, ⟨List.replicate (d.pend.length - 1) 0, ?_, by simp; omega, fun x hx => by rw [List.eq_of_mem_replicate hx]; exact ⟨by omega, by omega⟩⟩, hM.below.size, hM.below.trans (hb9.mono hM.below.size)⟩
          rw [← List.replicate_succ, Nat.sub_add_cancel hpos]
          exact hrow
        generalize hN : d.pend.length = N at *
        have HN := hide hN
        clear hN hrow hb9 hgo hX hM hpk
        go_wp2_with fail
        refine hpe.mono ?_
        rintro e w' ⟨rfl, rfl⟩
        clear hpe hD
        have hz8 := HR.out.new
        go_wp2
        clear hr9
        generalize w'.heap.size = g at *
        go_loopw [16] (fun i wr => ∃ m : Nat, m + 1 ≤ N ∧ i = .int .i64 ((m + 1 : Nat) : Int) ∧ DevKeep W1 (W1.heap.size + 1) d g N 0 wr) (fun i _ => N - (intOf i).toNat)
        case atStart => exact ⟨0, by omega, rfl, HR.out⟩
        case round =>
          clear HR
          obtain ⟨m, hm, rfl, hK⟩ := hrel
          by_cases hlt : m + 1 < N
          · have hc0 := (hK.cell (i := m + 1) hlt)
            obtain ⟨⟨x0, hx0⟩, hf0⟩ := hc0
            have HK := hide (hK.set m (((m + 1 : Nat) : Int) % 3) ⟨by omega, by omega⟩)
            clear hK
            go_wp2
            go_roundw
            case rel => exact ⟨m + 1, by omega, by go_num, by simpa using HK.out⟩
            case measure => simp [intOf]; omega
          · have hc0 := (hK.cell (i := 0) (by omega))
            obtain ⟨⟨x0, hx0⟩, hf0⟩ := hc0
            have hK0 := hK
            cases kept_ with
            | true =>
              replace hK := hK.set0 1
              obtain ⟨X, hD, hX, hx⟩ := hK.dev
              obtain ⟨l, hrow, hl, hn⟩ := hK.row
              have hks := hrow.ks hx (fun x hx' => by
                rcases List.mem_cons.1 hx' with rfl | h'
                · exact ⟨by omega, by omega⟩
                · exact hn x h') (by simp; omega)
              simp only [List.length_cons, hl] at hks
              have hc := crash_any hD hks (cap := N)
              obtain ⟨r1, r2⟩ := hAp.crash 1 l (by simp)
              simp only [if_true] at r2
              have hbw := hK.below
              generalize hd' : d.crash (1 :: l) = d' at *
              clear hd'
              obtain ⟨t0, t1⟩ := T0.out _ hK0.below
              obtain ⟨t2, t3⟩ := T0.out _ hK.below
              have HK0 := hide hK0
              clear hK hK0 hrow hks hl hn hAp
              go_wp2_with fail
              refine hc.mono ?_
              rintro e w10 ⟨rfl, hl⟩
              have hM := My.left hX hbw hl
              clear hl hc hX hD hx X hbw t0 t1 t2 t3
              obtain ⟨X, hD, hX, hgo⟩ := hM.go
              have hc := read_any hD 19 1 (by omega) (by omega)
              rw [r1, r2, ← ESY.out] at hc
              clear r1 r2
              go_wp2_with fail
              refine hc.mono ?_
              rintro e w11 ⟨rfl, hb11⟩
              have hM2 := hM.later hb11
              clear hb11 hM hc hgo hX hD X
              have q2 : (SY.toList == SY.toList) = true := beq_lists rfl
              go_wp2_with fail
              refine (hfy _).mono ?_
              rintro e w12 ⟨rfl, hb12⟩
              have hM3 := hide (hM2.later hb12).below
              clear hb12 hM2
              go_wp2_with fail
              refine (awake_any _).mono ?_
              rintro e w13 ⟨rfl, hb13⟩
              go_wp2
              go_ret
              exact ⟨rfl, HB0.out.trans ((hM3.out.trans (hb13.mono hM3.out.size)).mono HB0.out.size)⟩
            | false =>
              obtain ⟨X, hD, hX, hx⟩ := hK.dev
              obtain ⟨l, hrow, hl, hn⟩ := hK.row
              have hks := hrow.ks hx (fun x hx' => by
                rcases List.mem_cons.1 hx' with rfl | h'
                · exact ⟨by omega, by omega⟩
                · exact hn x h') (by simp; omega)
              simp only [List.length_cons, hl] at hks
              have hc := crash_any hD hks (cap := N)
              obtain ⟨r1, r2⟩ := hAp.crash 0 l (by simp)
              simp only [show ¬ ((0 : Int) = 1) by omega, if_false] at r2
              have hbw := hK.below
              generalize hd' : d.crash (0 :: l) = d' at *
              clear hd'
              obtain ⟨t0, t1⟩ := T0.out _ hK0.below
              obtain ⟨t2, t3⟩ := T0.out _ hK.below
              have HK0 := hide hK0
              clear hK hK0 hrow hks hl hn hAp
              go_wp2_with fail
              refine hc.mono ?_
              rintro e w10 ⟨rfl, hl⟩
              have hM := My.left hX hbw hl
              clear hl hc hX hD hx X hbw t0 t1 t2 t3
              obtain ⟨X, hD, hX, hgo⟩ := hM.go
              have hc := read_any hD 19 1 (by omega) (by omega)
              rw [r1, r2, ← ESX.out] at hc
              clear r1 r2
              go_wp2_with fail
              refine hc.mono ?_
              rintro e w11 ⟨rfl, hb11⟩
              have hM2 := hM.later hb11
              clear hb11 hM hc hgo hX hD X
              have q2 : (SX.toList == SX.toList) = true := beq_lists rfl
              go_wp2_with fail
              refine (hfx _).mono ?_
              rintro e w12 ⟨rfl, hb12⟩
              have hM3 := hide (hM2.later hb12).below
              clear hb12 hM2
              go_wp2_with fail
              refine (awake_any _).mono ?_
              rintro e w13 ⟨rfl, hb13⟩
              go_wp2
              go_ret
              exact ⟨rfl, HB0.out.trans ((hM3.out.trans (hb13.mono hM3.out.size)).mono HB0.out.size)⟩

end Wi
end Go.Proofs.Ytdcnjaomocehmaa
