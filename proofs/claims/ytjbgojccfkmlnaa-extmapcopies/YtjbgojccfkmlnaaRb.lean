/- What is put into the map of the document, and cut from it. -/
import Derived.Test.YtjbgojccfkmlnaaRa
namespace Go.Proofs.Ytjbgojccfkmlnaa
open Go.RowKit
namespace Wi

theorem behind_any (q t n : Nat) (w : World) (h : t + n ≤ 9223372036854775807) : Calls Try.prog 45 #[.agg #[.int .i64 (q : Nat), .int .i64 (t : Nat)], .int .i64 (n : Nat)] w fun e w' => e = .returned (.agg #[.int .i64 (q : Nat), .int .i64 ((t + n : Nat) : Int)]) ∧ Below w.heap.size w w' := by
  have e1 : ((t : Nat) : Int) + (n : Int) ≤ 9223372036854775807 := by omega
  go_enter Try.func45, Try.ntmps45
  go_wp2
  refine bodyPost_ret (v := .agg #[.int .i64 (q : Nat), .int .i64 ((t + n : Nat) : Int)]) (by simp [results, Try.results45, go_sem]) rfl ⟨rfl, ?_⟩
  have B0 := below_alloc w (.cells #[.int .i64 (q : Nat), .int .i64 (t : Nat)] 32)
  exact B0.alloc B0.size _
/-- So many sectors of an extent are there; so many of a span are nowhere. -/
def Rf.putN (d : Rf) (x : Xt) (m : Nat) : Rf := ⟨fun j => if x.at_ ≤ j ∧ j < x.at_ + m then true else d.is j, fun j => if x.at_ ≤ j ∧ j < x.at_ + m then x.seq else d.sq j, fun j => if x.at_ ≤ j ∧ j < x.at_ + m then x.to + (j - x.at_) else d.to j⟩
def Rf.cutN (d : Rf) (a m : Nat) : Rf := { d with is := fun j => if a ≤ j ∧ j < a + m then false else d.is j }
theorem Rf.ext {d e : Rf} (h1 : ∀ j, d.is j = e.is j) (h2 : ∀ j, d.sq j = e.sq j) (h3 : ∀ j, d.to j = e.to j) : d = e := by
  cases d
  cases e
  simp only at h1 h2 h3
  rw [show _ = _ from funext h1, show _ = _ from funext h2, show _ = _ from funext h3]
theorem putN_zero (d : Rf) (x : Xt) : d.putN x 0 = d := Rf.ext (fun j => if_neg (by omega)) (fun j => if_neg (by omega)) fun j => if_neg (by omega)
theorem putN_succ (d : Rf) (x : Xt) (m : Nat) : ((d.putN x m).setIs (x.at_ + m) true).setSp (x.at_ + m) x.seq (x.to + m) = d.putN x (m + 1) := by
  apply Rf.ext
  · intro j
    show (if j = x.at_ + m then true else if x.at_ ≤ j ∧ j < x.at_ + m then true else d.is j) = if x.at_ ≤ j ∧ j < x.at_ + (m + 1) then true else d.is j
    by_cases h : j = x.at_ + m
    · rw [if_pos h, if_pos (by omega)]
    · rw [if_neg h]
      by_cases h2 : x.at_ ≤ j ∧ j < x.at_ + m
      · rw [if_pos h2, if_pos (by omega)]
      · rw [if_neg h2, if_neg (by omega)]
  · intro j
    show (if j = x.at_ + m then x.seq else if x.at_ ≤ j ∧ j < x.at_ + m then x.seq else d.sq j) = if x.at_ ≤ j ∧ j < x.at_ + (m + 1) then x.seq else d.sq j
    by_cases h : j = x.at_ + m
    · rw [if_pos h, if_pos (by omega)]
    · rw [if_neg h]
      by_cases h2 : x.at_ ≤ j ∧ j < x.at_ + m
      · rw [if_pos h2, if_pos (by omega)]
      · rw [if_neg h2, if_neg (by omega)]
  · intro j
    show (if j = x.at_ + m then x.to + m else if x.at_ ≤ j ∧ j < x.at_ + m then x.to + (j - x.at_) else d.to j) = if x.at_ ≤ j ∧ j < x.at_ + (m + 1) then x.to + (j - x.at_) else d.to j
    by_cases h : j = x.at_ + m
    · rw [if_pos h, if_pos (by omega)]
      omega
    · rw [if_neg h]
      by_cases h2 : x.at_ ≤ j ∧ j < x.at_ + m
      · rw [if_pos h2, if_pos (by omega)]
      · rw [if_neg h2, if_neg (by omega)]
theorem cutN_zero (d : Rf) (a : Nat) : d.cutN a 0 = d := Rf.ext (fun j => if_neg (by omega)) (fun j => rfl) fun j => rfl
theorem cutN_succ (d : Rf) (a m : Nat) : (d.cutN a m).setIs (a + m) false = d.cutN a (m + 1) := by
  apply Rf.ext
  · intro j
    show (if j = a + m then false else if a ≤ j ∧ j < a + m then false else d.is j) = if a ≤ j ∧ j < a + (m + 1) then false else d.is j
    by_cases h : j = a + m
    · rw [if_pos h, if_pos (by omega)]
    · rw [if_neg h]
      by_cases h2 : a ≤ j ∧ j < a + m
      · rw [if_pos h2, if_pos (by omega)]
      · rw [if_neg h2, if_neg (by omega)]
  · exact fun j => rfl
  · exact fun j => rfl
/-- What a call leaves of the document's map. -/
structure RefL (w w' : World) (r gi gs n : Nat) (d : Rf) : Prop where
  ref : RefM w' r gi gs n d
  keep : Keep (fun k => k = r ∨ k = gi ∨ k = gs) w w'
theorem RefL.left {w w' : World} {r gi gs n : Nat} {d : Rf} {X : Nat → Prop} (hX : ∀ k, X k ↔ k = r ∨ k = gi ∨ k = gs) (h : RefL w w' r gi gs n d) : LeftT (refT r n d) w X w' :=
  ⟨X, ⟨gi, gs, h.ref, hX⟩, ⟨h.keep.os, h.keep.tape, h.keep.output, h.keep.size, fun k hk hn => h.keep.block k hk fun e => hn ((hX k).2 e)⟩, fun _ e => .inl e⟩
theorem RefL.later {w w1 w2 : World} {r gi gs n : Nat} {d : Rf} (h : RefL w w1 r gi gs n d) (hb : Below w1.heap.size w1 w2) : RefL w w2 r gi gs n d :=
  ⟨h.ref.later hb, h.keep.trans (Keep.of_below (X := fun k => k = r ∨ k = gi ∨ k = gs) hb) fun _ _ e => e⟩
theorem RefL.setIs {w w1 : World} {r gi gs n : Nat} {d : Rf} (h : RefL w w1 r gi gs n d) (i : Nat) (b : Bool) : RefL w (w1.setCell ⟨gi, i, none⟩ (.bool b)) r gi gs n (d.setIs i b) :=
  ⟨h.ref.setIs i b, h.keep.trans (Keep.setCell (X := fun k => k = r ∨ k = gi ∨ k = gs) w1 ⟨gi, i, none⟩ _ (.inr (.inl rfl))) fun _ _ e => e⟩
theorem RefL.setSp {w w1 : World} {r gi gs n : Nat} {d : Rf} (h : RefL w w1 r gi gs n d) {i : Nat} (q t : Nat) (hi : i < n) : RefL w (w1.setCells gs (i * 2) [.int .i64 (q : Nat), .int .i64 (t : Nat)]) r gi gs n (d.setSp i q t) :=
  ⟨h.ref.setSp q t hi, h.keep.trans (Keep.setCells (X := fun k => k = r ∨ k = gi ∨ k = gs) gs (.inr (.inr rfl)) _ _ w1) fun _ _ e => e⟩
theorem exec_store32 {A : Act} {w : World} {x y : Operand} {g o : Nat} {q t : Nat} (hx : A.eval x = .pointer (some ⟨g, o, none⟩)) (hy : A.eval y = .agg #[.int .i64 (q : Nat), .int .i64 (t : Nat)]) (h0 : (w.cell? ⟨g, o, none⟩).isSome = true) (h1 : (w.cell? ⟨g, o + 1, none⟩).isSome = true) (hf : ∀ j, w.frozen? ⟨g, j, none⟩ = false) :
    ∀ op : Oper, op.op = .store 32 x y → (execOp A.eval op).run Try.prog w = .ok .skip (w.setCells g o [.int .i64 (q : Nat), .int .i64 (t : Nat)]) := fun op ho => by
  have ht : w.there g o (#[Value.int .i64 (q : Nat), .int .i64 (t : Nat)] : Array Value).size := fun j hj => by
    refine ⟨?_, hf _⟩
    have hj2 : j < 2 := hj
    have hj3 : j = 0 ∨ j = 1 := by omega
    rcases hj3 with rfl | rfl
    · exact h0
    · exact h1
  unfold execOp
  simp only [ho, hx, hy, Sem.run_bind, Sem.run_pure, run_storeAt_mid (P := Try.prog) w g o 32 #[.int .i64 (q : Nat), .int .i64 (t : Nat)] ht (by kernel_rfl) (by simp [Value.oneCell']), Result.andThen_ok]

set_option maxHeartbeats 8000000 in
set_option maxRecDepth 100000 in
theorem refput_any {w : World} {r gi gs n : Nat} {d : Rf} (h : RefM w r gi gs n d) (hn : n ≤ 1000000) (xa xl xq xt : Nat) (hx : xa + xl ≤ n) (ht : xt + xl ≤ 1099511693312) :
    Calls Try.prog 24 #[.pointer (some ⟨r, 0, none⟩), .agg #[.int .i64 (xa : Nat), .int .i64 (xl : Nat), .int .i64 (xq : Nat), .int .i64 (xt : Nat)]] w fun e w' => e = .returned (.tuple #[]) ∧ RefL w w' r gi gs n (d.putN ⟨xa, xl, xq, xt⟩ xl) := by
  have hrl := lt_of_block h.blk
  have hgi := lt_of_block h.is_
  have hgs := lt_of_block h.sp_
  have hb := below_alloc w (.cells #[.int .i64 (xa : Nat), .int .i64 (xl : Nat), .int .i64 (xq : Nat), .int .i64 (xt : Nat)] 40)
  have HR0 : Hid (RefL w (w.alloc (.cells #[.int .i64 (xa : Nat), .int .i64 (xl : Nat), .int .i64 (xq : Nat), .int .i64 (xt : Nat)] 40)) r gi gs n (d.putN ⟨xa, xl, xq, xt⟩ 0)) := ⟨by rw [putN_zero]; exact h.later hb, Keep.of_below hb⟩
  have HX0 : Hid (XCell (w.alloc (.cells #[.int .i64 (xa : Nat), .int .i64 (xl : Nat), .int .i64 (xq : Nat), .int .i64 (xt : Nat)] 40)) w.heap.size 0 ⟨xa, xl, xq, xt⟩) := new_x w ⟨xa, xl, xq, xt⟩ 40
  clear h hb
  go_enter Try.func24, Try.ntmps24
  go_wp2
  go_loopw [4] (fun i wr => ∃ m : Nat, m ≤ xl ∧ i = .int .i64 m ∧ RefL w wr r gi gs n (d.putN ⟨xa, xl, xq, xt⟩ m) ∧ XCell wr w.heap.size 0 ⟨xa, xl, xq, xt⟩) (fun i _ => xl - (intOf i).toNat)
  case atStart => exact ⟨0, Nat.zero_le _, rfl, HR0.out, HX0.out⟩
  case round =>
    clear HR0 HX0
    obtain ⟨m, hm, rfl, hR, hX⟩ := hrel
    by_cases hlt : m < xl
    · have d0 := hR.ref.c0
      have hfr := fun j => frozen_of_row wr gi j _ _ hR.ref.is_
      have hcb := hR.ref.b (i := xa + m) (by omega)
      obtain ⟨c0, c1, c2, c3, hXf, hXl⟩ := hX
      have HRL : Hid (RefL w (wr.setCell ⟨gi, xa + m, none⟩ (.bool true)).drew r gi gs n ((d.putN ⟨xa, xl, xq, xt⟩ m).setIs (xa + m) true)) := (hR.setIs (xa + m) true).later (Below.refl _ _).drew
      have HX4 : Hid (∀ w1, Below (wr.setCell ⟨gi, xa + m, none⟩ (.bool true)).drew.heap.size (wr.setCell ⟨gi, xa + m, none⟩ (.bool true)).drew w1 → XCell w1 w.heap.size 0 ⟨xa, xl, xq, xt⟩) := fun w1 hb => by
        have hk := (Keep.setCell (X := fun j => j = gi) wr ⟨gi, xa + m, none⟩ (.bool true) rfl).drew
        have hne : ¬ w.heap.size = gi := by omega
        have h1 : XCell (wr.setCell ⟨gi, xa + m, none⟩ (.bool true)).drew w.heap.size 0 ⟨xa, xl, xq, xt⟩ := ⟨(keep_cell hk hXl hne).trans c0, (keep_cell hk hXl hne).trans c1, (keep_cell hk hXl hne).trans c2, (keep_cell hk hXl hne).trans c3, fun j => by rw [World.frozen?_of_block (hk.block _ hXl hne)]; exact hXf j, Nat.lt_of_lt_of_le hXl hk.size⟩
        exact h1.later hb
      replace hfr := hfr (xa + m)
      have hwr : IntKind.i64.wrap ((xa : Int) + (m : Int)) = (xa : Int) + (m : Int) := by rw [IntKind.wrap_i64]; omega
      have hbd1 : ((xa : Int) + (m : Int)).toNat = xa + m := by omega
      have hbd2 : (0 : Int) ≤ (xa : Int) + (m : Int) := by omega
      have hbd3 : (xa : Int) + (m : Int) < (n : Int) := by omega
      clear hR
      go_wp2
      go_region
      rename_i KK hKK
      refine hKK _ _ ?_
      obtain ⟨W5, hW5⟩ : ∃ W5, W5 = (wr.setCell ⟨gi, xa + m, none⟩ (.bool true)).drew := ⟨_, rfl⟩
      have HWS : Hid (w.heap.size < W5.heap.size) := by show _ < _; rw [hW5]; exact (HX4.out _ (Below.refl _ _)).lt
      rw [← hW5]
      rw [← hW5] at HRL HX4
      clear hKK c0 c1 c2 c3 d0 hcb hfr hXf hXl hW5
      have hm1 : ¬ gs = w.heap.size := by omega
      go_wp2_with fail
      refine wp_region_specs_last (n := 14) [.val (.pointer (some ⟨r, 0, none⟩)), .val (.pointer (some ⟨r, 0, none⟩)), .val (.pointer (some ⟨r, 1, none⟩)), .val (.slice (some ⟨gs, 0, none⟩) n n), .val (.pointer (some ⟨w.heap.size, 0, none⟩)), .val (.pointer (some ⟨w.heap.size, 0, none⟩)), .val (.int .i64 (xa : Nat)), .val (.int .i64 (m : Nat)), .val (.int .i64 ((xa : Int) + (m : Int))), .val (.pointer (some ⟨w.heap.size, 2, none⟩)), .val (.agg #[.int .i64 (xq : Nat), .int .i64 (xt : Nat)]), .val (.int .i64 (m : Nat)), .val (.agg #[.int .i64 (xq : Nat), .int .i64 ((xt + m : Nat) : Int)]), .val (.pointer (some ⟨gs, (xa + m) * 2, none⟩))] (by kernel_rfl) (by kernel_rfl) (by kernel_rfl) rfl rfl (by kernel_rfl) ?_ ?_
      · simp only [List.take]
        refine ⟨?_, ?_⟩
        · intro A w1 hb ho hd
          have e0 : A.tmps[0]?.getD undef = .pointer (some ⟨r, 0, none⟩) := olds_get ho 0 (by kernel_rfl)
          refine ⟨rfl, goes_value (v := .pointer (some ⟨r, 0, none⟩)) ?_ rfl⟩
          simp [go_sem, e0]
        refine ⟨?_, ?_⟩
        · intro A w1 hb ho hd
          have e22 : A.tmps[22]?.getD undef = .pointer (some ⟨r, 0, none⟩) := getq (hd _ (Array.mem_of_getElem? (i := 0) rfl) rfl _ _ rfl rfl)
          refine ⟨rfl, goes_value (v := .pointer (some ⟨r, 0, none⟩)) ?_ rfl⟩
          simp [go_sem, e22]
        refine ⟨?_, ?_⟩
        · intro A w1 hb ho hd
          have e23 : A.tmps[23]?.getD undef = .pointer (some ⟨r, 0, none⟩) := getq (hd _ (Array.mem_of_getElem? (i := 0) rfl) rfl _ _ rfl rfl)
          refine ⟨rfl, goes_value (v := .pointer (some ⟨r, 1, none⟩)) ?_ rfl⟩
          simp [go_sem, e23]
        refine ⟨?_, ?_⟩
        · intro A w1 hb ho hd
          have e24 : A.tmps[24]?.getD undef = .pointer (some ⟨r, 1, none⟩) := getq (hd _ (Array.mem_of_getElem? (i := 0) rfl) rfl _ _ rfl rfl)
          have z := (HRL.out.later hb).ref.c1
          refine ⟨rfl, goes_value (v := .slice (some ⟨gs, 0, none⟩) n n) ?_ rfl⟩
          simp [go_sem, e24, z]
        refine ⟨?_, ?_⟩
        · intro A w1 hb ho hd
          have e3 : A.tmps[3]?.getD undef = .pointer (some ⟨w.heap.size, 0, none⟩) := olds_get ho 3 (by kernel_rfl)
          refine ⟨rfl, goes_value (v := .pointer (some ⟨w.heap.size, 0, none⟩)) ?_ rfl⟩
          simp [go_sem, e3]
        refine ⟨?_, ?_⟩
        · intro A w1 hb ho hd
          have e26 : A.tmps[26]?.getD undef = .pointer (some ⟨w.heap.size, 0, none⟩) := getq (hd _ (Array.mem_of_getElem? (i := 0) rfl) rfl _ _ rfl rfl)
          refine ⟨rfl, goes_value (v := .pointer (some ⟨w.heap.size, 0, none⟩)) ?_ rfl⟩
          simp [go_sem, e26]
        refine ⟨?_, ?_⟩
        · intro A w1 hb ho hd
          have e27 : A.tmps[27]?.getD undef = .pointer (some ⟨w.heap.size, 0, none⟩) := getq (hd _ (Array.mem_of_getElem? (i := 0) rfl) rfl _ _ rfl rfl)
          have y := HX4.out w1 hb
          obtain ⟨y0, y1, y2, y3, _, _⟩ := y
          refine ⟨rfl, goes_value (v := .int .i64 (xa : Nat)) ?_ rfl⟩
          simp [go_sem, e27, y0]
        refine ⟨?_, ?_⟩
        · intro A w1 hb ho hd
          have e4 : A.tmps[4]?.getD undef = .int .i64 (m : Nat) := olds_get ho 4 (by kernel_rfl)
          refine ⟨rfl, goes_value (v := .int .i64 (m : Nat)) ?_ rfl⟩
          simp [go_sem, e4]
        refine ⟨?_, ?_⟩
        · intro A w1 hb ho hd
          have e28 : A.tmps[28]?.getD undef = .int .i64 (xa : Nat) := getq (hd _ (Array.mem_of_getElem? (i := 0) rfl) rfl _ _ rfl rfl)
          have e29 : A.tmps[29]?.getD undef = .int .i64 (m : Nat) := getq (hd _ (Array.mem_of_getElem? (i := 1) rfl) rfl _ _ rfl rfl)
          refine ⟨rfl, goes_value (v := .int .i64 ((xa : Int) + (m : Int))) ?_ rfl⟩
          simp [go_sem, e28, e29, hwr]
        refine ⟨?_, ?_⟩
        · intro A w1 hb ho hd
          have e3 : A.tmps[3]?.getD undef = .pointer (some ⟨w.heap.size, 0, none⟩) := olds_get ho 3 (by kernel_rfl)
          refine ⟨rfl, goes_value (v := .pointer (some ⟨w.heap.size, 2, none⟩)) ?_ rfl⟩
          simp [go_sem, e3]
        refine ⟨?_, ?_⟩
        · intro A w1 hb ho hd
          have e31 : A.tmps[31]?.getD undef = .pointer (some ⟨w.heap.size, 2, none⟩) := getq (hd _ (Array.mem_of_getElem? (i := 0) rfl) rfl _ _ rfl rfl)
          have y := HX4.out w1 hb
          obtain ⟨y0, y1, y2, y3, _, _⟩ := y
          refine ⟨rfl, goes_value (v := .agg #[.int .i64 (xq : Nat), .int .i64 (xt : Nat)]) ?_ rfl⟩
          simp [go_sem, e31, y2, y3]
        refine ⟨?_, ?_⟩
        · intro A w1 hb ho hd
          have e4 : A.tmps[4]?.getD undef = .int .i64 (m : Nat) := olds_get ho 4 (by kernel_rfl)
          refine ⟨rfl, goes_value (v := .int .i64 (m : Nat)) ?_ rfl⟩
          simp [go_sem, e4]
        refine ⟨?_, ?_⟩
        · intro A w1 hb ho hd
          have e32 : A.tmps[32]?.getD undef = .agg #[.int .i64 (xq : Nat), .int .i64 (xt : Nat)] := getq (hd _ (Array.mem_of_getElem? (i := 0) rfl) rfl _ _ rfl rfl)
          have e33 : A.tmps[33]?.getD undef = .int .i64 (m : Nat) := getq (hd _ (Array.mem_of_getElem? (i := 1) rfl) rfl _ _ rfl rfl)
          refine ⟨rfl, goes_call (f := 45) (args := #[.agg #[.int .i64 (xq : Nat), .int .i64 (xt : Nat)], .int .i64 (m : Nat)]) ?_ (behind_any xq xt m w1 (by omega))⟩
          simp [go_sem, e32, e33]
        refine ⟨?_, ?_⟩
        · intro A w1 hb ho hd
          have e25 : A.tmps[25]?.getD undef = .slice (some ⟨gs, 0, none⟩) n n := getq (hd _ (Array.mem_of_getElem? (i := 0) rfl) rfl _ _ rfl rfl)
          have e30 : A.tmps[30]?.getD undef = .int .i64 ((xa : Int) + (m : Int)) := getq (hd _ (Array.mem_of_getElem? (i := 1) rfl) rfl _ _ rfl rfl)
          refine ⟨rfl, goes_value (v := .pointer (some ⟨gs, (xa + m) * 2, none⟩)) ?_ rfl⟩
          simp [go_sem, e25, e30, hbd1, hbd2, hbd3]
        trivial
      intro A w9 hb9 hdf hsz hol hft
      have m22 := hft 0 _ 22 (by omega) rfl rfl
      have m23 := hft 1 _ 23 (by omega) rfl rfl
      have m24 := hft 2 _ 24 (by omega) rfl rfl
      have m25 := hft 3 _ 25 (by omega) rfl rfl
      have m26 := hft 4 _ 26 (by omega) rfl rfl
      have m27 := hft 5 _ 27 (by omega) rfl rfl
      have m28 := hft 6 _ 28 (by omega) rfl rfl
      have m29 := hft 7 _ 29 (by omega) rfl rfl
      have m30 := hft 8 _ 30 (by omega) rfl rfl
      have m31 := hft 9 _ 31 (by omega) rfl rfl
      have m32 := hft 10 _ 32 (by omega) rfl rfl
      have m33 := hft 11 _ 33 (by omega) rfl rfl
      have m34 := hft 12 _ 34 (by omega) rfl rfl
      have m35 := hft 13 _ 35 (by omega) rfl rfl
      have hR9 := HRL.out.later hb9
      have hst := exec_store32 (A := A) (x := .tmp 35) (y := .tmp 34) m35 m34 (by rw [hR9.ref.p0 (by omega)]; rfl) (by rw [hR9.ref.p1 (by omega)]; rfl) (fun j => frozen_of_row w9 gs j _ _ hR9.ref.sp_)
      have HR10 := hide (hR9.setSp (i := xa + m) xq (xt + m) (by omega))
      have HX10 : Hid (XCell (w9.setCells gs ((xa + m) * 2) [.int .i64 (xq : Nat), .int .i64 ((xt + m : Nat) : Int)]) w.heap.size 0 ⟨xa, xl, xq, xt⟩) := by
        have hk := Keep.setCells (X := fun j => j = gs) gs rfl [.int .i64 (xq : Nat), .int .i64 ((xt + m : Nat) : Int)] ((xa + m) * 2) w9
        have hX9 := HX4.out w9 hb9
        exact ⟨(keep_cell hk hX9.lt (Ne.symm hm1)).trans hX9.c0, (keep_cell hk hX9.lt (Ne.symm hm1)).trans hX9.c1, (keep_cell hk hX9.lt (Ne.symm hm1)).trans hX9.c2, (keep_cell hk hX9.lt (Ne.symm hm1)).trans hX9.c3, fun j => by rw [World.frozen?_of_block (hk.block _ hX9.lt (Ne.symm hm1))]; exact hX9.f j, Nat.lt_of_lt_of_le hX9.lt hk.size⟩
      have hpn := putN_succ d ⟨xa, xl, xq, xt⟩ m
      simp only at hpn
      rw [hpn] at HR10
      rename_i KK2 hKK2
      refine ⟨_, hst _ rfl, hKK2 _ _ ?_⟩
      clear hpn hst hR9
      generalize w9.setCells gs ((xa + m) * 2) [.int .i64 (xq : Nat), .int .i64 ((xt + m : Nat) : Int)] = W10 at *
      show Code.wp _ _ _ A W10
      rw [frame_puts hdf hsz hol]
      simp only [List.foldl_cons, List.foldl_nil, Act.put, Option.getD_some, List.setIfInBounds_toArray, List.set_cons_succ, List.set_cons_zero]
      clear m22 m23 m24 m25 m26 m27 m28 m29 m30 m31 m32 m33 m34 m35 hft hol hsz hdf hKK2 hb9
      go_wp2
      go_roundw
      case rel => exact ⟨m + 1, by omega, by go_num, HR10.out, HX10.out⟩
      case measure => simp [intOf]; omega
    · obtain rfl : m = xl := by omega
      have HR := hide hR
      obtain ⟨c0, c1, c2, c3, _, _⟩ := hX
      clear hR
      go_wp2
      go_end0
      exact ⟨rfl, HR.out⟩

set_option maxHeartbeats 8000000 in
set_option maxRecDepth 100000 in
theorem refcut_any {w : World} {r gi gs n : Nat} {d : Rf} (h : RefM w r gi gs n d) (hn : n ≤ 1000000) (xa xl : Nat) (hx : xa + xl ≤ n) :
    Calls Try.prog 35 #[.pointer (some ⟨r, 0, none⟩), .agg #[.int .i64 (xa : Nat), .int .i64 (xl : Nat)]] w fun e w' => e = .returned (.tuple #[]) ∧ RefL w w' r gi gs n (d.cutN xa xl) := by
  have hgi := lt_of_block h.is_
  have hb := below_alloc w (.cells #[.int .i64 (xa : Nat), .int .i64 (xl : Nat)] 38)
  have HR0 : Hid (RefL w (w.alloc (.cells #[.int .i64 (xa : Nat), .int .i64 (xl : Nat)] 38)) r gi gs n (d.cutN xa 0)) := ⟨by rw [cutN_zero]; exact h.later hb, Keep.of_below hb⟩
  have HX0 : Hid ((w.alloc (.cells #[.int .i64 (xa : Nat), .int .i64 (xl : Nat)] 38)).cell? ⟨w.heap.size, 0, none⟩ = some (.int .i64 (xa : Nat)) ∧ (w.alloc (.cells #[.int .i64 (xa : Nat), .int .i64 (xl : Nat)] 38)).cell? ⟨w.heap.size, 1, none⟩ = some (.int .i64 (xl : Nat)) ∧ w.heap.size < (w.alloc (.cells #[.int .i64 (xa : Nat), .int .i64 (xl : Nat)] 38)).heap.size) := by
    have hh := heap_alloc_new w (.cells #[.int .i64 (xa : Nat), .int .i64 (xl : Nat)] 38)
    refine ⟨?_, ?_, lt_of_block hh⟩ <;> (rw [cell_of_row _ _ _ _ _ _ hh]; rfl)
  clear h hb
  go_enter Try.func35, Try.ntmps35
  go_wp2
  go_loopw [4] (fun i wr => ∃ m : Nat, m ≤ xl ∧ i = .int .i64 m ∧ RefL w wr r gi gs n (d.cutN xa m) ∧ (wr.cell? ⟨w.heap.size, 0, none⟩ = some (.int .i64 (xa : Nat)) ∧ wr.cell? ⟨w.heap.size, 1, none⟩ = some (.int .i64 (xl : Nat)) ∧ w.heap.size < wr.heap.size)) (fun i _ => xl - (intOf i).toNat)
  case atStart => exact ⟨0, Nat.zero_le _, rfl, HR0.out, HX0.out⟩
  case round =>
    clear HR0 HX0
    obtain ⟨m, hm, rfl, hR, c0, c1, hl⟩ := hrel
    by_cases hlt : m < xl
    · have d0 := hR.ref.c0
      have hfr := frozen_of_row wr gi (xa + m) _ _ hR.ref.is_
      have hcb := hR.ref.b (i := xa + m) (by omega)
      have hcn := cutN_succ d xa m
      have hRL := (hR.setIs (xa + m) false).later (Below.refl _ _).drew
      rw [hcn] at hRL
      have HRL := hide hRL
      have HX4 : Hid ((wr.setCell ⟨gi, xa + m, none⟩ (.bool false)).drew.cell? ⟨w.heap.size, 0, none⟩ = some (.int .i64 (xa : Nat)) ∧ (wr.setCell ⟨gi, xa + m, none⟩ (.bool false)).drew.cell? ⟨w.heap.size, 1, none⟩ = some (.int .i64 (xl : Nat)) ∧ w.heap.size < (wr.setCell ⟨gi, xa + m, none⟩ (.bool false)).drew.heap.size) := by
        have hk := (Keep.setCell (X := fun j => j = gi) wr ⟨gi, xa + m, none⟩ (.bool false) rfl).drew
        have hne : ¬ w.heap.size = gi := by omega
        exact ⟨(keep_cell hk hl hne).trans c0, (keep_cell hk hl hne).trans c1, Nat.lt_of_lt_of_le hl hk.size⟩
      have hbd1 : ((xa : Int) + (m : Int)).toNat = xa + m := by omega
      have hbd2 : (0 : Int) ≤ (xa : Int) + (m : Int) := by omega
      have hbd3 : (xa : Int) + (m : Int) < (n : Int) := by omega
      have hwr : IntKind.i64.wrap ((xa : Int) + (m : Int)) = (xa : Int) + (m : Int) := by rw [IntKind.wrap_i64]; omega
      clear hR hRL hcn
      go_wp2
      go_region
      rename_i KK hKK
      refine hKK _ _ ?_
      clear hKK c0 c1 d0 hcb hfr
      go_wp2
      go_roundw
      case rel => exact ⟨m + 1, by omega, by go_num, HRL.out, HX4.out⟩
      case measure => simp [intOf]; omega
    · obtain rfl : m = xl := by omega
      have HR := hide hR
      clear hR
      go_wp2
      go_end0
      exact ⟨rfl, HR.out⟩

end Wi
end Go.Proofs.Ytjbgojccfkmlnaa
