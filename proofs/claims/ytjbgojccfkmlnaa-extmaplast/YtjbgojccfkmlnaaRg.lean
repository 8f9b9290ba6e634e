/- What is moved in the map of the document. -/
import Derived.Test.YtjbgojccfkmlnaaRc
namespace Go.Proofs.Ytjbgojccfkmlnaa
open Go.RowKit
namespace Wi

/-- Is a sector just where the extent says? -/
def Rf.there (d : Rf) (x : Xt) (i : Nat) : Bool := d.is i && (decide (d.sq i = x.seq) && decide (d.to i = x.to + (i - x.at_)))
def Rf.hit (d : Rf) (x : Xt) (m i : Nat) : Bool := decide (x.at_ ≤ i ∧ i < x.at_ + m) && d.there x i
def Rf.moveN (d : Rf) (x : Xt) (q t m : Nat) : Rf := ⟨d.is, fun i => if d.hit x m i then q else d.sq i, fun i => if d.hit x m i then t + (i - x.at_) else d.to i⟩
def Rf.moved (d : Rf) (x : Xt) : Nat → Nat
  | 0 => 0
  | m + 1 => d.moved x m + if d.there x (x.at_ + m) then 1 else 0
theorem moved_le (d : Rf) (x : Xt) : ∀ m, d.moved x m ≤ m
  | 0 => Nat.le_refl _
  | m + 1 => by
    have := moved_le d x m
    unfold Rf.moved
    split <;> omega
theorem hit_zero (d : Rf) (x : Xt) (i : Nat) : d.hit x 0 i = false := by
  unfold Rf.hit
  rw [decide_eq_false (by omega), Bool.false_and]
theorem moveN_zero (d : Rf) (x : Xt) (q t : Nat) : d.moveN x q t 0 = d := Rf.ext (fun _ => rfl) (fun j => by show (if d.hit x 0 j then q else d.sq j) = _; rw [hit_zero]; rfl) fun j => by show (if d.hit x 0 j then t + (j - x.at_) else d.to j) = _; rw [hit_zero]; rfl
theorem hit_succ (d : Rf) (x : Xt) (m i : Nat) : d.hit x (m + 1) i = (d.hit x m i || (decide (i = x.at_ + m) && d.there x i)) := by
  unfold Rf.hit
  by_cases h : i = x.at_ + m
  · subst h
    rw [decide_eq_true (show x.at_ ≤ x.at_ + m ∧ x.at_ + m < x.at_ + (m + 1) by omega), decide_eq_false (show ¬ (x.at_ ≤ x.at_ + m ∧ x.at_ + m < x.at_ + m) by omega), decide_eq_true rfl]
    simp
  · rw [decide_eq_false h, Bool.false_and, Bool.or_false]
    congr 1
    apply decide_eq_decide.2
    omega
theorem moveN_no (d : Rf) (x : Xt) (q t m : Nat) (h : d.there x (x.at_ + m) = false) : d.moveN x q t (m + 1) = d.moveN x q t m := by
  have e : ∀ j, d.hit x (m + 1) j = d.hit x m j := fun j => by
    rw [hit_succ]
    by_cases hj : j = x.at_ + m
    · subst hj
      rw [h, Bool.and_false, Bool.or_false]
    · rw [decide_eq_false hj, Bool.false_and, Bool.or_false]
  exact Rf.ext (fun _ => rfl) (fun j => by show (if d.hit x (m + 1) j then q else d.sq j) = if d.hit x m j then q else d.sq j; rw [e]) fun j => by show (if d.hit x (m + 1) j then t + (j - x.at_) else d.to j) = if d.hit x m j then t + (j - x.at_) else d.to j; rw [e]
theorem hit_self (d : Rf) (x : Xt) (m : Nat) : d.hit x m (x.at_ + m) = false := by
  unfold Rf.hit
  rw [decide_eq_false (by omega), Bool.false_and]
theorem moveN_yes (d : Rf) (x : Xt) (q t m : Nat) (h : d.there x (x.at_ + m) = true) : (d.moveN x q t m).setSp (x.at_ + m) q (t + m) = d.moveN x q t (m + 1) := by
  have e : ∀ j, d.hit x (m + 1) j = (d.hit x m j || decide (j = x.at_ + m)) := fun j => by
    rw [hit_succ]
    by_cases hj : j = x.at_ + m
    · subst hj
      rw [h, Bool.and_true]
    · rw [decide_eq_false hj, Bool.false_and]
  refine Rf.ext (fun _ => rfl) (fun j => ?_) fun j => ?_
  · show (if j = x.at_ + m then q else if d.hit x m j then q else d.sq j) = if d.hit x (m + 1) j then q else d.sq j
    rw [e]
    by_cases hj : j = x.at_ + m
    · rw [if_pos hj, decide_eq_true hj, Bool.or_true, if_pos rfl]
    · rw [if_neg hj, decide_eq_false hj, Bool.or_false]
  · show (if j = x.at_ + m then t + m else if d.hit x m j then t + (j - x.at_) else d.to j) = if d.hit x (m + 1) j then t + (j - x.at_) else d.to j
    rw [e]
    by_cases hj : j = x.at_ + m
    · rw [if_pos hj, decide_eq_true hj, Bool.or_true, if_pos rfl]
      omega
    · rw [if_neg hj, decide_eq_false hj, Bool.or_false]
/-- A spot in a box. -/
structure PCell (w : World) (g : Nat) (q t : Nat) : Prop where
  c0 : w.cell? ⟨g, 0, none⟩ = some (.int .i64 (q : Nat))
  c1 : w.cell? ⟨g, 1, none⟩ = some (.int .i64 (t : Nat))
  lt : g < w.heap.size
theorem PCell.later {w w' : World} {g q t : Nat} (h : PCell w g q t) (hb : Below w.heap.size w w') : PCell w' g q t :=
  ⟨(hb.cell (p := ⟨g, _, none⟩) h.lt).trans h.c0, (hb.cell (p := ⟨g, _, none⟩) h.lt).trans h.c1, Nat.lt_of_lt_of_le h.lt hb.size⟩
theorem PCell.keep {X : Nat → Prop} {w w' : World} {g q t : Nat} (h : PCell w g q t) (hk : Keep X w w') (hx : ¬ X g) : PCell w' g q t :=
  ⟨(keep_cell hk h.lt hx).trans h.c0, (keep_cell hk h.lt hx).trans h.c1, Nat.lt_of_lt_of_le h.lt hk.size⟩
theorem XCell.keep {X : Nat → Prop} {w w' : World} {g : Nat} {x : Xt} (h : XCell w g 0 x) (hk : Keep X w w') (hx : ¬ X g) : XCell w' g 0 x :=
  ⟨(keep_cell hk h.lt hx).trans h.c0, (keep_cell hk h.lt hx).trans h.c1, (keep_cell hk h.lt hx).trans h.c2, (keep_cell hk h.lt hx).trans h.c3, fun j => by rw [World.frozen?_of_block (hk.block _ h.lt hx)]; exact h.f j, Nat.lt_of_lt_of_le h.lt hk.size⟩
set_option maxHeartbeats 8000000 in
set_option maxRecDepth 100000 in
theorem refmove_any {w : World} {r gi gs n : Nat} {d : Rf} (h : RefM w r gi gs n d) (hn : n ≤ 65536) (xa xl xq xt pq pt : Nat) (hx : xa + xl ≤ n) (ht : xt + xl ≤ 1099511693312) (hp : pt + xl ≤ 1099511693312) :
    Calls Try.prog 36 #[.pointer (some ⟨r, 0, none⟩), .agg #[.int .i64 (xa : Nat), .int .i64 (xl : Nat), .int .i64 (xq : Nat), .int .i64 (xt : Nat)], .agg #[.int .i64 (pq : Nat), .int .i64 (pt : Nat)]] w fun e w' => e = .returned (.int .i64 (d.moved ⟨xa, xl, xq, xt⟩ xl : Nat)) ∧ RefL w w' r gi gs n (d.moveN ⟨xa, xl, xq, xt⟩ pq pt xl) := by
  have hgs := lt_of_block h.sp_
  obtain ⟨W, hW⟩ : ∃ W, W = (w.alloc (.cells #[.int .i64 (xa : Nat), .int .i64 (xl : Nat), .int .i64 (xq : Nat), .int .i64 (xt : Nat)] 40)).alloc (.cells #[.int .i64 (pq : Nat), .int .i64 (pt : Nat)] 32) := ⟨_, rfl⟩
  have hb : Below w.heap.size w W := by
    rw [hW]
    exact (below_alloc w _).alloc (below_alloc w _).size _
  have HX0 : Hid (XCell W w.heap.size 0 ⟨xa, xl, xq, xt⟩) := by show XCell _ _ _ _; rw [hW]; exact (new_x w ⟨xa, xl, xq, xt⟩ 40).later (below_alloc _ _)
  have HP0 : Hid (PCell W (w.heap.size + 1) pq pt) := by
    show PCell _ _ _ _
    have hh := heap_alloc_new (w.alloc (.cells #[.int .i64 (xa : Nat), .int .i64 (xl : Nat), .int .i64 (xq : Nat), .int .i64 (xt : Nat)] 40)) (.cells #[.int .i64 (pq : Nat), .int .i64 (pt : Nat)] 32)
    rw [← hW, show (w.alloc (.cells #[.int .i64 (xa : Nat), .int .i64 (xl : Nat), .int .i64 (xq : Nat), .int .i64 (xt : Nat)] 40)).heap.size = w.heap.size + 1 by simp] at hh
    refine ⟨?_, ?_, lt_of_block hh⟩ <;> (rw [cell_of_row _ _ _ _ _ _ hh]; rfl)
  have HR0 : Hid (RefL w W r gi gs n (d.moveN ⟨xa, xl, xq, xt⟩ pq pt 0)) := ⟨by rw [moveN_zero]; exact h.later hb, Keep.of_below hb⟩
  have HW := hide hW
  have HML := hide (moved_le d ⟨xa, xl, xq, xt⟩)
  clear h hb hW
  go_enter Try.func36, Try.ntmps36
  go_wp2_with fail
  rw [← HW.out]
  go_wp2
  go_loopw [7, 8] (fun s i wr => ∃ m : Nat, m ≤ xl ∧ i = .int .i64 m ∧ s = .int .i64 (d.moved ⟨xa, xl, xq, xt⟩ m : Nat) ∧ RefL w wr r gi gs n (d.moveN ⟨xa, xl, xq, xt⟩ pq pt m) ∧ XCell wr w.heap.size 0 ⟨xa, xl, xq, xt⟩ ∧ PCell wr (w.heap.size + 1) pq pt) (fun _ i _ => xl - (intOf i).toNat)
  case atStart => exact ⟨0, Nat.zero_le _, rfl, rfl, HR0.out, HX0.out, HP0.out⟩
  case round =>
    clear HR0 HX0 HP0
    obtain ⟨m, hm, rfl, rfl, hR, hX, hP⟩ := hrel
    have hX9 := hX
    obtain ⟨c0, c1, c2, c3, _, _⟩ := hX9
    have hml := HML.out m
    by_cases hlt : m < xl
    · have HX := hide hX
      have HP := hide hP
      have HR := hide hR
      have hsq : (d.moveN ⟨xa, xl, xq, xt⟩ pq pt m).sq (xa + m) = d.sq (xa + m) := by
        show (if d.hit ⟨xa, xl, xq, xt⟩ m (xa + m) then pq else d.sq (xa + m)) = _
        rw [hit_self d ⟨xa, xl, xq, xt⟩ m]
        rfl
      have hto : (d.moveN ⟨xa, xl, xq, xt⟩ pq pt m).to (xa + m) = d.to (xa + m) := by
        show (if d.hit ⟨xa, xl, xq, xt⟩ m (xa + m) then pt + (xa + m - xa) else d.to (xa + m)) = _
        rw [hit_self d ⟨xa, xl, xq, xt⟩ m]
        rfl
      have hth : d.there ⟨xa, xl, xq, xt⟩ (xa + m) = (d.is (xa + m) && decide (xq = d.sq (xa + m) ∧ xt + m = d.to (xa + m))) := by
        unfold Rf.there
        simp only
        rw [show xa + m - xa = m by omega]
        congr 1
        rw [← Bool.decide_and]
        apply decide_eq_decide.2
        omega
      have HMV : Hid (d.moved ⟨xa, xl, xq, xt⟩ (m + 1) = d.moved ⟨xa, xl, xq, xt⟩ m + if d.there ⟨xa, xl, xq, xt⟩ (xa + m) then 1 else 0) := rfl
      have k0 : ∀ P : Later wr, _ := fun P => (hR.later P.below).ref.c0
      have k1 : ∀ P : Later wr, _ := fun P => (hR.later P.below).ref.c1
      have kb : ∀ P : Later wr, P.val.cell? ⟨gi, xa + m, none⟩ = some (.bool (d.is (xa + m))) := fun P => (hR.later P.below).ref.b (i := xa + m) (by omega)
      have kp : ∀ P : Later wr, P.val.cell? ⟨gs, (xa + m) * 2, none⟩ = some (.int .i64 (d.sq (xa + m) : Nat)) := fun P => by rw [(hR.later P.below).ref.p0 (by omega), hsq]
      have kt : ∀ P : Later wr, P.val.cell? ⟨gs, (xa + m) * 2 + 1, none⟩ = some (.int .i64 (d.to (xa + m) : Nat)) := fun P => by rw [(hR.later P.below).ref.p1 (by omega), hto]
      have x0 : ∀ P : Later wr, _ := fun P => (hX.later P.below).c0
      have x1 : ∀ P : Later wr, _ := fun P => (hX.later P.below).c1
      have x2 : ∀ P : Later wr, _ := fun P => (hX.later P.below).c2
      have x3 : ∀ P : Later wr, _ := fun P => (hX.later P.below).c3
      have hcb : ∀ P : Later wr, _ := fun P => behind_any xq xt m P.val (by omega)
      obtain ⟨Z, hZ⟩ : ∃ Z, xt + m = Z := ⟨_, rfl⟩
      rw [hZ] at hcb hth
      have hEq := fun w => run_eql32 (xq : Nat) (Z : Nat) (d.sq (xa + m) : Nat) (d.to (xa + m) : Nat) w
      have hEq2 := fun w => run_eql32 (d.sq (xa + m) : Nat) (d.to (xa + m) : Nat) (xq : Nat) (Z : Nat) w
      have hwr : IntKind.i64.wrap ((xa : Int) + (m : Int)) = (xa : Int) + (m : Int) := by rw [IntKind.wrap_i64]; omega
      have hbd1 : ((xa : Int) + (m : Int)).toNat = xa + m := by omega
      have hbd2 : (0 : Int) ≤ (xa : Int) + (m : Int) := by omega
      have hbd3 : (xa : Int) + (m : Int) < (n : Int) := by omega
      have hne := later_ne wr
      clear hR hX hP hZ hsq hto
      generalize d.sq (xa + m) = Q at *
      generalize d.to (xa + m) = T at *
      cases hi : d.is (xa + m) with
      | false =>
        rw [hi] at kb hth
        rw [Bool.false_and] at hth
        have HN := hide (moveN_no d ⟨xa, xl, xq, xt⟩ pq pt m hth)
        have HMV1 : Hid (d.moved ⟨xa, xl, xq, xt⟩ (m + 1) = d.moved ⟨xa, xl, xq, xt⟩ m) := by show _ = _; rw [HMV.out, hth]; rfl
        clear hi hth HMV
        generalize d.moved ⟨xa, xl, xq, xt⟩ m = C at *
        go_wp2
        refine wp_region_later (by kernel_rfl) (by kernel_rfl) ?_
        (repeat (first | go_big_quiet_skip | (go_big_quiet_want; go_big_quiet_op; go_big_quiet_on)))
        refine wpQuiet_nil ?_
        rintro _ ⟨P, rfl⟩
        have HR2 := hide (HR.out.later P.below)
        have HX2 := hide (HX.out.later P.below)
        have HP2 := hide (HP.out.later P.below)
        clear k0 k1 kb kp kt x0 x1 x2 x3 hcb hne c0 c1 c2 c3
        generalize P.val = w3 at *
        go_wp2
        go_roundw
        case rel => exact ⟨m + 1, by omega, by go_num, by rw [HMV1.out], by rw [HN.out]; exact HR2.out, HX2.out, HP2.out⟩
        case measure => simp [intOf]; omega
      | true =>
        rw [hi] at kb hth
        rw [Bool.true_and] at hth
        by_cases hG : xq = Q ∧ Z = T
        · rw [decide_eq_true hG] at hth
          have e1 : decide ((xq : Int) = (Q : Int) ∧ (Z : Int) = (T : Int)) = true := by simp; omega
          have e2 : decide ((Q : Int) = (xq : Int) ∧ (T : Int) = (Z : Int)) = true := by simp; omega
          rw [e1] at hEq
          rw [e2] at hEq2
          have HN := hide (moveN_yes d ⟨xa, xl, xq, xt⟩ pq pt m hth)
          have HMV1 : Hid (d.moved ⟨xa, xl, xq, xt⟩ (m + 1) = d.moved ⟨xa, xl, xq, xt⟩ m + 1) := by show _ = _; rw [HMV.out, hth]; rfl
          clear hi hth HMV hG e1 e2
          generalize d.moved ⟨xa, xl, xq, xt⟩ m = C at *
          go_wp2
          refine wp_region_later (by kernel_rfl) (by kernel_rfl) ?_
          (repeat (first | go_big_quiet_skip | (go_big_quiet_want; go_big_quiet_op; go_big_quiet_on)))
          (go_big_quiet_want; go_big_quiet_op; apply Exists.intro; refine ⟨fun p => ?_, ?_⟩; (· exact later_of (hcb p)); go_big_quiet_on)
          (repeat (first | go_big_quiet_skip | (go_big_quiet_want; go_big_quiet_op; go_big_quiet_on)))
          refine wpQuiet_nil ?_
          rintro _ ⟨P, rfl⟩
          have HRL := hide (HR.out.later P.below)
          have HBX : Hid (XCell P.val w.heap.size 0 ⟨xa, xl, xq, xt⟩ ∧ PCell P.val (w.heap.size + 1) pq pt) := ⟨HX.out.later P.below, HP.out.later P.below⟩
          clear k0 k1 kb kp kt x0 x1 x2 x3 hcb hne hEq hEq2 c0 c1 c2 c3
          generalize P.val = w3 at *
          go_wp2_with fail
          refine wp_region_specs_last (n := 13) [.val (.pointer (some ⟨r, 0, none⟩)), .val (.pointer (some ⟨r, 0, none⟩)), .val (.pointer (some ⟨r, 1, none⟩)), .val (.slice (some ⟨gs, 0, none⟩) n n), .val (.pointer (some ⟨w.heap.size, 0, none⟩)), .val (.pointer (some ⟨w.heap.size, 0, none⟩)), .val (.int .i64 (xa : Nat)), .val (.int .i64 (m : Nat)), .val (.int .i64 ((xa : Int) + (m : Int))), .val (.agg #[.int .i64 (pq : Nat), .int .i64 (pt : Nat)]), .val (.int .i64 (m : Nat)), .val (.agg #[.int .i64 (pq : Nat), .int .i64 ((pt + m : Nat) : Int)]), .val (.pointer (some ⟨gs, (xa + m) * 2, none⟩))] (by kernel_rfl) (by kernel_rfl) (by kernel_rfl) rfl rfl (by kernel_rfl) ?_ ?_
          · simp only [List.take]
            refine ⟨?_, ?_⟩
            · intro A w1 hb ho hd
              have e0 : A.tmps[0]?.getD undef = .pointer (some ⟨r, 0, none⟩) := olds_get ho 0 (by kernel_rfl)
              refine ⟨rfl, goes_value (v := .pointer (some ⟨r, 0, none⟩)) ?_ rfl⟩
              simp [go_sem, e0]
            refine ⟨?_, ?_⟩
            · intro A w1 hb ho hd
              have e45 : A.tmps[45]?.getD undef = .pointer (some ⟨r, 0, none⟩) := getq (hd _ (Array.mem_of_getElem? (i := 0) rfl) rfl _ _ rfl rfl)
              refine ⟨rfl, goes_value (v := .pointer (some ⟨r, 0, none⟩)) ?_ rfl⟩
              simp [go_sem, e45]
            refine ⟨?_, ?_⟩
            · intro A w1 hb ho hd
              have e46 : A.tmps[46]?.getD undef = .pointer (some ⟨r, 0, none⟩) := getq (hd _ (Array.mem_of_getElem? (i := 0) rfl) rfl _ _ rfl rfl)
              refine ⟨rfl, goes_value (v := .pointer (some ⟨r, 1, none⟩)) ?_ rfl⟩
              simp [go_sem, e46]
            refine ⟨?_, ?_⟩
            · intro A w1 hb ho hd
              have e47 : A.tmps[47]?.getD undef = .pointer (some ⟨r, 1, none⟩) := getq (hd _ (Array.mem_of_getElem? (i := 0) rfl) rfl _ _ rfl rfl)
              have z := (HRL.out.later hb).ref.c1
              refine ⟨rfl, goes_value (v := .slice (some ⟨gs, 0, none⟩) n n) ?_ rfl⟩
              simp [go_sem, e47, z]
            refine ⟨?_, ?_⟩
            · intro A w1 hb ho hd
              have e4 : A.tmps[4]?.getD undef = .pointer (some ⟨w.heap.size, 0, none⟩) := olds_get ho 4 (by kernel_rfl)
              refine ⟨rfl, goes_value (v := .pointer (some ⟨w.heap.size, 0, none⟩)) ?_ rfl⟩
              simp [go_sem, e4]
            refine ⟨?_, ?_⟩
            · intro A w1 hb ho hd
              have e49 : A.tmps[49]?.getD undef = .pointer (some ⟨w.heap.size, 0, none⟩) := getq (hd _ (Array.mem_of_getElem? (i := 0) rfl) rfl _ _ rfl rfl)
              refine ⟨rfl, goes_value (v := .pointer (some ⟨w.heap.size, 0, none⟩)) ?_ rfl⟩
              simp [go_sem, e49]
            refine ⟨?_, ?_⟩
            · intro A w1 hb ho hd
              have e50 : A.tmps[50]?.getD undef = .pointer (some ⟨w.heap.size, 0, none⟩) := getq (hd _ (Array.mem_of_getElem? (i := 0) rfl) rfl _ _ rfl rfl)
              have y := (HBX.out.1.later hb).c0
              refine ⟨rfl, goes_value (v := .int .i64 (xa : Nat)) ?_ rfl⟩
              simp [go_sem, e50, y]
            refine ⟨?_, ?_⟩
            · intro A w1 hb ho hd
              have e8 : A.tmps[8]?.getD undef = .int .i64 (m : Nat) := olds_get ho 8 (by kernel_rfl)
              refine ⟨rfl, goes_value (v := .int .i64 (m : Nat)) ?_ rfl⟩
              simp [go_sem, e8]
            refine ⟨?_, ?_⟩
            · intro A w1 hb ho hd
              have e51 : A.tmps[51]?.getD undef = .int .i64 (xa : Nat) := getq (hd _ (Array.mem_of_getElem? (i := 0) rfl) rfl _ _ rfl rfl)
              have e52 : A.tmps[52]?.getD undef = .int .i64 (m : Nat) := getq (hd _ (Array.mem_of_getElem? (i := 1) rfl) rfl _ _ rfl rfl)
              refine ⟨rfl, goes_value (v := .int .i64 ((xa : Int) + (m : Int))) ?_ rfl⟩
              simp [go_sem, e51, e52, hwr]
            refine ⟨?_, ?_⟩
            · intro A w1 hb ho hd
              have e5 : A.tmps[5]?.getD undef = .pointer (some ⟨w.heap.size + 1, 0, none⟩) := olds_get ho 5 (by kernel_rfl)
              have y := HBX.out.2.later hb
              obtain ⟨y0, y1, _⟩ := y
              refine ⟨rfl, goes_value (v := .agg #[.int .i64 (pq : Nat), .int .i64 (pt : Nat)]) ?_ rfl⟩
              simp [go_sem, e5, y0, y1]
            refine ⟨?_, ?_⟩
            · intro A w1 hb ho hd
              have e8 : A.tmps[8]?.getD undef = .int .i64 (m : Nat) := olds_get ho 8 (by kernel_rfl)
              refine ⟨rfl, goes_value (v := .int .i64 (m : Nat)) ?_ rfl⟩
              simp [go_sem, e8]
            refine ⟨?_, ?_⟩
            · intro A w1 hb ho hd
              have e54 : A.tmps[54]?.getD undef = .agg #[.int .i64 (pq : Nat), .int .i64 (pt : Nat)] := getq (hd _ (Array.mem_of_getElem? (i := 0) rfl) rfl _ _ rfl rfl)
              have e55 : A.tmps[55]?.getD undef = .int .i64 (m : Nat) := getq (hd _ (Array.mem_of_getElem? (i := 1) rfl) rfl _ _ rfl rfl)
              refine ⟨rfl, goes_call (f := 45) (args := #[.agg #[.int .i64 (pq : Nat), .int .i64 (pt : Nat)], .int .i64 (m : Nat)]) ?_ (behind_any pq pt m w1 (by omega))⟩
              simp [go_sem, e54, e55]
            refine ⟨?_, ?_⟩
            · intro A w1 hb ho hd
              have e48 : A.tmps[48]?.getD undef = .slice (some ⟨gs, 0, none⟩) n n := getq (hd _ (Array.mem_of_getElem? (i := 0) rfl) rfl _ _ rfl rfl)
              have e53 : A.tmps[53]?.getD undef = .int .i64 ((xa : Int) + (m : Int)) := getq (hd _ (Array.mem_of_getElem? (i := 1) rfl) rfl _ _ rfl rfl)
              refine ⟨rfl, goes_value (v := .pointer (some ⟨gs, (xa + m) * 2, none⟩)) ?_ rfl⟩
              simp [go_sem, e48, e53, hbd1, hbd2, hbd3]
            trivial
          intro A w9 hb9 hdf hsz hol hft
          have m45 := hft 0 _ 45 (by omega) rfl rfl
          have m46 := hft 1 _ 46 (by omega) rfl rfl
          have m47 := hft 2 _ 47 (by omega) rfl rfl
          have m48 := hft 3 _ 48 (by omega) rfl rfl
          have m49 := hft 4 _ 49 (by omega) rfl rfl
          have m50 := hft 5 _ 50 (by omega) rfl rfl
          have m51 := hft 6 _ 51 (by omega) rfl rfl
          have m52 := hft 7 _ 52 (by omega) rfl rfl
          have m53 := hft 8 _ 53 (by omega) rfl rfl
          have m54 := hft 9 _ 54 (by omega) rfl rfl
          have m55 := hft 10 _ 55 (by omega) rfl rfl
          have m56 := hft 11 _ 56 (by omega) rfl rfl
          have m57 := hft 12 _ 57 (by omega) rfl rfl
          have hR9 := HRL.out.later hb9
          have hst := exec_store32 (A := A) (x := .tmp 57) (y := .tmp 56) m57 m56 (by rw [hR9.ref.p0 (by omega)]; rfl) (by rw [hR9.ref.p1 (by omega)]; rfl) (fun j => frozen_of_row w9 gs j _ _ hR9.ref.sp_)
          have hR10 := hR9.setSp (i := xa + m) pq (pt + m) (by omega)
          rw [HN.out] at hR10
          have HR10 := hide hR10
          have hk := Keep.setCells (X := fun j => j = gs) gs rfl [.int .i64 (pq : Nat), .int .i64 ((pt + m : Nat) : Int)] ((xa + m) * 2) w9
          have HX10 := hide ((HBX.out.1.later hb9).keep hk (fun e => by omega))
          have HP10 := hide ((HBX.out.2.later hb9).keep hk (fun e => by omega))
          rename_i KK2 hKK2
          refine ⟨_, hst _ rfl, hKK2 _ _ ?_⟩
          clear hst hR9 hR10 hk
          generalize w9.setCells gs ((xa + m) * 2) [.int .i64 (pq : Nat), .int .i64 ((pt + m : Nat) : Int)] = W10 at *
          show Code.wp _ _ _ A W10
          rw [frame_puts hdf hsz hol]
          simp only [List.foldl_cons, List.foldl_nil, Act.put, Option.getD_some, List.setIfInBounds_toArray, List.set_cons_succ, List.set_cons_zero]
          clear m45 m46 m47 m48 m49 m50 m51 m52 m53 m54 m55 m56 m57 hft hol hsz hdf hKK2 hb9
          go_wp2
          go_roundw
          case rel => exact ⟨m + 1, by omega, by go_num, by rw [HMV1.out]; go_num, HR10.out, HX10.out, HP10.out⟩
          case measure => simp [intOf]; omega
        · rw [decide_eq_false hG] at hth
          have e1 : decide ((xq : Int) = (Q : Int) ∧ (Z : Int) = (T : Int)) = false := by simp; omega
          have e2 : decide ((Q : Int) = (xq : Int) ∧ (T : Int) = (Z : Int)) = false := by simp; omega
          rw [e1] at hEq
          rw [e2] at hEq2
          have HN := hide (moveN_no d ⟨xa, xl, xq, xt⟩ pq pt m hth)
          have HMV1 : Hid (d.moved ⟨xa, xl, xq, xt⟩ (m + 1) = d.moved ⟨xa, xl, xq, xt⟩ m) := by show _ = _; rw [HMV.out, hth]; rfl
          clear hi hth HMV hG e1 e2
          generalize d.moved ⟨xa, xl, xq, xt⟩ m = C at *
          go_wp2
          refine wp_region_later (by kernel_rfl) (by kernel_rfl) ?_
          (repeat (first | go_big_quiet_skip | (go_big_quiet_want; go_big_quiet_op; go_big_quiet_on)))
          (go_big_quiet_want; go_big_quiet_op; apply Exists.intro; refine ⟨fun p => ?_, ?_⟩; (· exact later_of (hcb p)); go_big_quiet_on)
          (repeat (first | go_big_quiet_skip | (go_big_quiet_want; go_big_quiet_op; go_big_quiet_on)))
          refine wpQuiet_nil ?_
          rintro _ ⟨P, rfl⟩
          have HR2 := hide (HR.out.later P.below)
          have HX2 := hide (HX.out.later P.below)
          have HP2 := hide (HP.out.later P.below)
          clear k0 k1 kb kp kt x0 x1 x2 x3 hcb hne hEq hEq2 c0 c1 c2 c3
          generalize P.val = w3 at *
          go_wp2
          go_roundw
          case rel => exact ⟨m + 1, by omega, by go_num, by rw [HMV1.out], by rw [HN.out]; exact HR2.out, HX2.out, HP2.out⟩
          case measure => simp [intOf]; omega
    · obtain rfl : m = xl := by omega
      have HR := hide hR
      clear hR
      go_wp2
      go_ret
      exact ⟨rfl, HR.out⟩

end Wi
end Go.Proofs.Ytjbgojccfkmlnaa
