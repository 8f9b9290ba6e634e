/- A part of the proofs about package super: what its functions answer, call by call. -/
import Derived.Test.YtjopjffecnflkaaDoorSd
import Derived.Test.YtjopjffecnflkaaDoorWt
namespace Go.Proofs.YtjopjffecnflkaaDoor
open Go.RowKit
namespace Su
open Cr
/-- A superblock in a box. -/
structure BoxS (w : World) (b : Nat) (key ep ser siz tail num : Nat) : Prop where
  lt : b < w.heap.size
  c0 : w.cell? ⟨b, 0, none⟩ = some (.int .u64 (key : Nat))
  c1 : w.cell? ⟨b, 1, none⟩ = some (.int .i64 (ep : Nat))
  c2 : w.cell? ⟨b, 2, none⟩ = some (.int .i64 (ser : Nat))
  c3 : w.cell? ⟨b, 3, none⟩ = some (.int .i64 (siz : Nat))
  c4 : w.cell? ⟨b, 4, none⟩ = some (.int .i64 (tail : Nat))
  c5 : w.cell? ⟨b, 5, none⟩ = some (.int .i64 (num : Nat))
theorem BoxS.later {w w' : World} {b key ep ser siz tail num : Nat} (h : BoxS w b key ep ser siz tail num) (hb : Below (b + 1) w w') : BoxS w' b key ep ser siz tail num :=
  ⟨Nat.lt_of_lt_of_le h.lt hb.size, (hb.cell (by simp)).trans h.c0, (hb.cell (by simp)).trans h.c1, (hb.cell (by simp)).trans h.c2, (hb.cell (by simp)).trans h.c3, (hb.cell (by simp)).trans h.c4, (hb.cell (by simp)).trans h.c5⟩
theorem boxS (w : World) (key ep ser siz tail num : Nat) (t : TypeId) : BoxS (w.alloc (.cells #[.int .u64 (key : Nat), .int .i64 (ep : Nat), .int .i64 (ser : Nat), .int .i64 (siz : Nat), .int .i64 (tail : Nat), .int .i64 (num : Nat)] t)) w.heap.size key ep ser siz tail num :=
  ⟨by simp, by simp, by simp, by simp, by simp, by simp, by simp⟩
/-- A superblock's bytes ahead of the check sum. -/
def secN (key ep siz ser tail num : Nat) : List Nat := [76, 83, 85, 80] ++ (be key 8 ++ (be ep 4 ++ (be siz 4 ++ (be ser 8 ++ (be tail 8 ++ (be num 8 ++ ([0, 0, 0, 0, 0, 0, 0, 0] ++ be ser 8)))))))
theorem tell_bytes (key ep siz ser tail num : Nat) : (List.range 60).map (pF (pF (pF (pF (pF (pF (pF mF 4 8 key 8) 12 4 ep 4) 16 4 siz 4) 20 8 ser 8) 28 8 tail 8) 36 8 num 8) 52 8 ser 8) = secN key ep siz ser tail num := by
  simp [List.range, List.range.loop, pF, mF, secN, be]
theorem secN_lt (key ep siz ser tail num : Nat) : ∀ b ∈ secN key ep siz ser tail num, b < 256 := by
  intro b hb
  simp only [secN, List.mem_append] at hb
  rcases hb with h | h | h | h | h | h | h | h | h
  · simp at h; omega
  · exact be_lt _ _ b h
  · exact be_lt _ _ b h
  · exact be_lt _ _ b h
  · exact be_lt _ _ b h
  · exact be_lt _ _ b h
  · exact be_lt _ _ b h
  · simp at h; omega
  · exact be_lt _ _ b h
theorem len_sec (key ep siz ser tail num : Nat) : (secN key ep siz ser tail num).length = 60 := by simp [secN, be]
/-- Any superblock in a box. -/
structure BoxC (w : World) (b : Nat) (key : Nat) (ep ser siz tail num : Int) : Prop where
  lt : b < w.heap.size
  c0 : w.cell? ⟨b, 0, none⟩ = some (.int .u64 (key : Nat))
  c1 : w.cell? ⟨b, 1, none⟩ = some (.int .i64 ep)
  c2 : w.cell? ⟨b, 2, none⟩ = some (.int .i64 ser)
  c3 : w.cell? ⟨b, 3, none⟩ = some (.int .i64 siz)
  c4 : w.cell? ⟨b, 4, none⟩ = some (.int .i64 tail)
  c5 : w.cell? ⟨b, 5, none⟩ = some (.int .i64 num)
  fr : ∀ i, i < 6 → w.frozen? ⟨b, i, none⟩ = false
theorem BoxC.later {w w' : World} {b key : Nat} {ep ser siz tail num : Int} (h : BoxC w b key ep ser siz tail num) (hb : Below (b + 1) w w') : BoxC w' b key ep ser siz tail num :=
  ⟨Nat.lt_of_lt_of_le h.lt hb.size, (hb.cell (by simp)).trans h.c0, (hb.cell (by simp)).trans h.c1, (hb.cell (by simp)).trans h.c2, (hb.cell (by simp)).trans h.c3, (hb.cell (by simp)).trans h.c4, (hb.cell (by simp)).trans h.c5, fun i hi => (hb.frozen (by simp)).trans (h.fr i hi)⟩
theorem boxC (w : World) (key : Nat) (ep ser siz tail num : Int) (t : TypeId) : BoxC (w.alloc (.cells #[.int .u64 (key : Nat), .int .i64 ep, .int .i64 ser, .int .i64 siz, .int .i64 tail, .int .i64 num] t)) w.heap.size key ep ser siz tail num :=
  ⟨by simp, by simp, by simp, by simp, by simp, by simp, by simp, fun i _ => by simp⟩
theorem cell_ne {w : World} {b i j : Nat} {v : Value} (h : i ≠ j) : (w.setCell ⟨b, i, none⟩ v).cell? ⟨b, j, none⟩ = w.cell? ⟨b, j, none⟩ := World.cell?_setCell_other _ _ _ _ (fun e => h (by cases e; rfl))
theorem cell_eq {w : World} {b i : Nat} {v u : Value} (h : w.cell? ⟨b, i, none⟩ = some u) : (w.setCell ⟨b, i, none⟩ v).cell? ⟨b, i, none⟩ = some v := World.cell?_setCell_same _ _ _ h
theorem BoxC.put {w : World} {b key : Nat} {ep ser siz tail num : Int} (h : BoxC w b key ep ser siz tail num) (k : Nat) (e r z t n : Int) : BoxC ((((((w.setCell ⟨b, 0, none⟩ (.int .u64 (k : Nat))).setCell ⟨b, 1, none⟩ (.int .i64 e)).setCell ⟨b, 2, none⟩ (.int .i64 r)).setCell ⟨b, 3, none⟩ (.int .i64 z)).setCell ⟨b, 4, none⟩ (.int .i64 t)).setCell ⟨b, 5, none⟩ (.int .i64 n)) b k e r z t n := by
  have c0 := h.c0
  have c1 := h.c1
  have c2 := h.c2
  have c3 := h.c3
  have c4 := h.c4
  have c5 := h.c5
  refine ⟨by simpa using h.lt, ?_, ?_, ?_, ?_, ?_, ?_, fun i hi => by simp only [World.frozen?_setCell]; exact h.fr i hi⟩
  · rw [cell_ne (by decide), cell_ne (by decide), cell_ne (by decide), cell_ne (by decide), cell_ne (by decide)]
    exact cell_eq c0
  · rw [cell_ne (by decide), cell_ne (by decide), cell_ne (by decide), cell_ne (by decide)]
    exact cell_eq ((cell_ne (by decide)).trans c1)
  · rw [cell_ne (by decide), cell_ne (by decide), cell_ne (by decide)]
    exact cell_eq ((cell_ne (by decide)).trans ((cell_ne (by decide)).trans c2))
  · rw [cell_ne (by decide), cell_ne (by decide)]
    exact cell_eq ((cell_ne (by decide)).trans ((cell_ne (by decide)).trans ((cell_ne (by decide)).trans c3)))
  · rw [cell_ne (by decide)]
    exact cell_eq ((cell_ne (by decide)).trans ((cell_ne (by decide)).trans ((cell_ne (by decide)).trans ((cell_ne (by decide)).trans c4))))
  · exact cell_eq ((cell_ne (by decide)).trans ((cell_ne (by decide)).trans ((cell_ne (by decide)).trans ((cell_ne (by decide)).trans ((cell_ne (by decide)).trans c5)))))
theorem BoxC.below {w w0 : World} {B b key : Nat} {ep ser siz tail num : Int} (_ : BoxC w b key ep ser siz tail num) (h : Below B w0 w) (hb : B ≤ b) (k : Nat) (e r z t n : Int) : Below B w0 ((((((w.setCell ⟨b, 0, none⟩ (.int .u64 (k : Nat))).setCell ⟨b, 1, none⟩ (.int .i64 e)).setCell ⟨b, 2, none⟩ (.int .i64 r)).setCell ⟨b, 3, none⟩ (.int .i64 z)).setCell ⟨b, 4, none⟩ (.int .i64 t)).setCell ⟨b, 5, none⟩ (.int .i64 n)) :=
  below_set (below_set (below_set (below_set (below_set (below_set h hb _ _) hb _ _) hb _ _) hb _ _) hb _ _) hb _ _
set_option maxHeartbeats 2000000 in
theorem tellN (key ep siz ser tail num : Nat) (h0 : key < 18446744073709551616) (h1 : ep < 4294967296) (h2 : siz ≤ 65536) (h3 : ser < 1099511627776) (h4 : tail < 1099511627776) (h5 : num < 1099511627776) (w : World) (T : Tab w) : Calls Tryd.prog 22 #[.agg #[.int .u64 (key : Nat), .int .i64 (ep : Nat), .int .i64 (ser : Nat), .int .i64 (siz : Nat), .int .i64 (tail : Nat), .int .i64 (num : Nat)]] w fun e w' => e = .returned (.string (sealOf (str (secN key ep siz ser tail num)))) ∧ Below w.heap.size w w' := by
  obtain ⟨W, hcp, R, B⟩ := copy_mark (w.alloc (.cells #[.int .u64 (key : Nat), .int .i64 (ep : Nat), .int .i64 (ser : Nat), .int .i64 (siz : Nat), .int .i64 (tail : Nat), .int .i64 (num : Nat)] 24))
  have X := (boxS w key ep ser siz tail num 24).later (B.mono (by simp))
  have BB := (below_alloc w (.cells #[.int .u64 (key : Nat), .int .i64 (ep : Nat), .int .i64 (ser : Nat), .int .i64 (siz : Nat), .int .i64 (tail : Nat), .int .i64 (num : Nat)] 24)).trans (B.mono (by simp))
  rw [World.size_alloc] at hcp R
  clear B
  generalize hA : sealOf (str (secN key ep siz ser tail num)) = A
  replace hA := hide hA
  go_enter Tryd.func22, Tryd.ntmps22
  go_wp2
  rw [show (#[.int .u8 0, .int .u8 0, .int .u8 0, .int .u8 0, .int .u8 0, .int .u8 0, .int .u8 0, .int .u8 0, .int .u8 0, .int .u8 0, .int .u8 0, .int .u8 0, .int .u8 0, .int .u8 0, .int .u8 0, .int .u8 0, .int .u8 0, .int .u8 0, .int .u8 0, .int .u8 0, .int .u8 0, .int .u8 0, .int .u8 0, .int .u8 0, .int .u8 0, .int .u8 0, .int .u8 0, .int .u8 0, .int .u8 0, .int .u8 0, .int .u8 0, .int .u8 0, .int .u8 0, .int .u8 0, .int .u8 0, .int .u8 0, .int .u8 0, .int .u8 0, .int .u8 0, .int .u8 0, .int .u8 0, .int .u8 0, .int .u8 0, .int .u8 0, .int .u8 0, .int .u8 0, .int .u8 0, .int .u8 0, .int .u8 0, .int .u8 0, .int .u8 0, .int .u8 0, .int .u8 0, .int .u8 0, .int .u8 0, .int .u8 0, .int .u8 0, .int .u8 0, .int .u8 0, .int .u8 0] : Array Value) = zs 60 from rfl, hcp]
  clear hcp
  have hne0 := later_ne W
  have c0 : ∀ p : Later W, p.val.cell? ⟨w.heap.size, 0, none⟩ = some (.int .u64 (key : Nat)) := fun p => (X.later (p.below.mono X.lt)).c0
  go_wp2
  refine wp_region_later_tail 3 (by kernel_rfl) (by kernel_rfl) ?_
  simp only [List.take, List.drop]
  (repeat (first | go_big_quiet_skip | (go_big_quiet_want; go_big_quiet_op; go_big_quiet_on)))
  refine wpQuiet_nil ?_
  rintro _ ⟨q0, rfl⟩
  have P0 := put64_any key h0 (w.heap.size + 1) 4 56 60 _ (by omega) rfl (by omega) (w.heap.size + 1) (Nat.le_refl _) q0.val (R.later q0.below)
  clear c0 hne0
  go_wp2_with fail
  refine P0.mono ?_
  clear P0
  rintro e W1 ⟨rfl, R2, B2⟩
  replace X := (X.later (q0.below.mono X.lt)).later B2
  replace BB := (BB.trans (q0.below.mono BB.size)).trans (B2.mono (by omega))
  clear R B2
  have R := R2
  clear R2
  have hne1 := later_ne W1
  have c1 : ∀ p : Later W1, p.val.cell? ⟨w.heap.size, 1, none⟩ = some (.int .i64 (ep : Nat)) := fun p => (X.later (p.below.mono X.lt)).c1
  go_wp2
  refine wp_region_later_tail 4 (by kernel_rfl) (by kernel_rfl) ?_
  simp only [List.take, List.drop]
  (repeat (first | go_big_quiet_skip | (go_big_quiet_want; go_big_quiet_op; go_big_quiet_on)))
  refine wpQuiet_nil ?_
  rintro _ ⟨q1, rfl⟩
  have P1 := put32_any ep h1 (w.heap.size + 1) 12 48 60 _ (by omega) rfl (by omega) (w.heap.size + 1) (Nat.le_refl _) q1.val (R.later q1.below)
  clear c1 hne1
  go_wp2_with fail
  refine P1.mono ?_
  clear P1
  rintro e W2 ⟨rfl, R2, B2⟩
  replace X := (X.later (q1.below.mono X.lt)).later B2
  replace BB := (BB.trans (q1.below.mono BB.size)).trans (B2.mono (by omega))
  clear R B2
  have R := R2
  clear R2
  have hne2 := later_ne W2
  have c2 : ∀ p : Later W2, p.val.cell? ⟨w.heap.size, 3, none⟩ = some (.int .i64 (siz : Nat)) := fun p => (X.later (p.below.mono X.lt)).c3
  go_wp2
  refine wp_region_later_tail 4 (by kernel_rfl) (by kernel_rfl) ?_
  simp only [List.take, List.drop]
  (repeat (first | go_big_quiet_skip | (go_big_quiet_want; go_big_quiet_op; go_big_quiet_on)))
  refine wpQuiet_nil ?_
  rintro _ ⟨q2, rfl⟩
  have P2 := put32_any siz (by omega) (w.heap.size + 1) 16 44 60 _ (by omega) rfl (by omega) (w.heap.size + 1) (Nat.le_refl _) q2.val (R.later q2.below)
  clear c2 hne2
  go_wp2_with fail
  refine P2.mono ?_
  clear P2
  rintro e W3 ⟨rfl, R2, B2⟩
  replace X := (X.later (q2.below.mono X.lt)).later B2
  replace BB := (BB.trans (q2.below.mono BB.size)).trans (B2.mono (by omega))
  clear R B2
  have R := R2
  clear R2
  have hne3 := later_ne W3
  have c3 : ∀ p : Later W3, p.val.cell? ⟨w.heap.size, 2, none⟩ = some (.int .i64 (ser : Nat)) := fun p => (X.later (p.below.mono X.lt)).c2
  go_wp2
  refine wp_region_later_tail 4 (by kernel_rfl) (by kernel_rfl) ?_
  simp only [List.take, List.drop]
  (repeat (first | go_big_quiet_skip | (go_big_quiet_want; go_big_quiet_op; go_big_quiet_on)))
  refine wpQuiet_nil ?_
  rintro _ ⟨q3, rfl⟩
  have P3 := put64_any ser (by omega) (w.heap.size + 1) 20 40 60 _ (by omega) rfl (by omega) (w.heap.size + 1) (Nat.le_refl _) q3.val (R.later q3.below)
  clear c3 hne3
  go_wp2_with fail
  refine P3.mono ?_
  clear P3
  rintro e W4 ⟨rfl, R2, B2⟩
  replace X := (X.later (q3.below.mono X.lt)).later B2
  replace BB := (BB.trans (q3.below.mono BB.size)).trans (B2.mono (by omega))
  clear R B2
  have R := R2
  clear R2
  have hne4 := later_ne W4
  have c4 : ∀ p : Later W4, p.val.cell? ⟨w.heap.size, 4, none⟩ = some (.int .i64 (tail : Nat)) := fun p => (X.later (p.below.mono X.lt)).c4
  go_wp2
  refine wp_region_later_tail 4 (by kernel_rfl) (by kernel_rfl) ?_
  simp only [List.take, List.drop]
  (repeat (first | go_big_quiet_skip | (go_big_quiet_want; go_big_quiet_op; go_big_quiet_on)))
  refine wpQuiet_nil ?_
  rintro _ ⟨q4, rfl⟩
  have P4 := put64_any tail (by omega) (w.heap.size + 1) 28 32 60 _ (by omega) rfl (by omega) (w.heap.size + 1) (Nat.le_refl _) q4.val (R.later q4.below)
  clear c4 hne4
  go_wp2_with fail
  refine P4.mono ?_
  clear P4
  rintro e W5 ⟨rfl, R2, B2⟩
  replace X := (X.later (q4.below.mono X.lt)).later B2
  replace BB := (BB.trans (q4.below.mono BB.size)).trans (B2.mono (by omega))
  clear R B2
  have R := R2
  clear R2
  have hne5 := later_ne W5
  have c5 : ∀ p : Later W5, p.val.cell? ⟨w.heap.size, 5, none⟩ = some (.int .i64 (num : Nat)) := fun p => (X.later (p.below.mono X.lt)).c5
  go_wp2
  refine wp_region_later_tail 4 (by kernel_rfl) (by kernel_rfl) ?_
  simp only [List.take, List.drop]
  (repeat (first | go_big_quiet_skip | (go_big_quiet_want; go_big_quiet_op; go_big_quiet_on)))
  refine wpQuiet_nil ?_
  rintro _ ⟨q5, rfl⟩
  have P5 := put64_any num (by omega) (w.heap.size + 1) 36 24 60 _ (by omega) rfl (by omega) (w.heap.size + 1) (Nat.le_refl _) q5.val (R.later q5.below)
  clear c5 hne5
  go_wp2_with fail
  refine P5.mono ?_
  clear P5
  rintro e W6 ⟨rfl, R2, B2⟩
  replace X := (X.later (q5.below.mono X.lt)).later B2
  replace BB := (BB.trans (q5.below.mono BB.size)).trans (B2.mono (by omega))
  clear R B2
  have R := R2
  clear R2
  have hne6 := later_ne W6
  have c6 : ∀ p : Later W6, p.val.cell? ⟨w.heap.size, 2, none⟩ = some (.int .i64 (ser : Nat)) := fun p => (X.later (p.below.mono X.lt)).c2
  go_wp2
  refine wp_region_later_tail 4 (by kernel_rfl) (by kernel_rfl) ?_
  simp only [List.take, List.drop]
  (repeat (first | go_big_quiet_skip | (go_big_quiet_want; go_big_quiet_op; go_big_quiet_on)))
  refine wpQuiet_nil ?_
  rintro _ ⟨q6, rfl⟩
  have P6 := put64_any ser (by omega) (w.heap.size + 1) 52 8 60 _ (by omega) rfl (by omega) (w.heap.size + 1) (Nat.le_refl _) q6.val (R.later q6.below)
  clear c6 hne6
  go_wp2_with fail
  refine P6.mono ?_
  clear P6
  rintro e W7 ⟨rfl, R2, B2⟩
  replace X := (X.later (q6.below.mono X.lt)).later B2
  replace BB := (BB.trans (q6.below.mono BB.size)).trans (B2.mono (by omega))
  clear R B2
  have R := R2
  clear R2
  have hcv := R.conv 60
  rw [tell_bytes] at hcv
  have T7 := T.later BB
  have hz : (str (secN key ep siz ser tail num)).size ≤ 1000 := by rw [str_size]; simp [secN, be]
  have hs := seal_any (str (secN key ep siz ser tail num)) hz W7 T7
  have hl : (sealOf (str (secN key ep siz ser tail num))).size = 64 := by rw [sealOf_size, str_size, len_sec]
  have he : str (secN key ep siz ser tail num) ++ str (four (more 0 (bs (str (secN key ep siz ser tail num))))) = A := hA.out
  rw [he] at hs
  rw [hA.out] at hl
  clear he hA
  generalize str (secN key ep siz ser tail num) = S at *
  clear R X T
  go_wp2_with fail
  refine hs.mono ?_
  rintro e w' ⟨rfl, hb⟩
  have BF := BB.trans (hb.mono BB.size)
  clear hs
  go_wp2
  go_ret
  exact ⟨rfl, BF⟩
/-- A superblock's sector. -/
def Sb.bytes (s : Sb) : List Nat := secN s.key s.ep.toNat s.siz.toNat s.ser.toNat s.tail.toNat s.num.toNat
def Sb.sec (s : Sb) : ByteArray := sealOf (str s.bytes)
theorem tell_any (s : Sb) (hs : s.Fit) (hc : chk s = 0) (w : World) (T : Tab w) : Calls Tryd.prog 22 #[s.val] w fun e w' => e = .returned (.string s.sec) ∧ Below w.heap.size w w' := by
  obtain ⟨key, ep, ser, siz, tail, num⟩ := s
  have hk := hs.k
  obtain ⟨e1, e2, r1, r2, n1, n2, z1, z2, t1, t2⟩ := chk_ok hc
  simp only at hk e1 e2 r1 r2 n1 n2 z1 z2 t1 t2
  obtain ⟨ep, rfl⟩ := Int.eq_ofNat_of_zero_le e1
  obtain ⟨ser, rfl⟩ := Int.eq_ofNat_of_zero_le r1
  obtain ⟨siz, rfl⟩ := Int.eq_ofNat_of_zero_le (show 0 ≤ siz by omega)
  obtain ⟨tail, rfl⟩ := Int.eq_ofNat_of_zero_le t1
  obtain ⟨num, rfl⟩ := Int.eq_ofNat_of_zero_le n1
  exact tellN key ep siz ser tail num hk (by omega) (by omega) (by omega) (by omega) (by omega) w T
/-- What Encode answers. -/
def Sb.enc (s : Sb) : ByteArray := if chk s = 0 then s.sec else ByteArray.empty
set_option maxHeartbeats 2000000 in
theorem encode_any (s : Sb) (hs : s.Fit) (w : World) (T : Tab w) : Calls Tryd.prog 11 #[s.val] w fun e w' => e = .returned (.tuple #[.string s.enc, .int .i64 (chk s)]) ∧ Below w.heap.size w w' := by
  have hc := fun w => schk_any s hs w
  by_cases h : chk s = 0
  · have ht := fun w T => tell_any s hs h w T
    have he : s.enc = s.sec := if_pos h
    rw [he]
    rw [h] at hc ⊢
    generalize s.sec = S at *
    obtain ⟨key, ep, ser, siz, tail, num⟩ := s
    simp only [Sb.val] at hc ht ⊢
    clear h he hs
    go_enter Tryd.func11, Tryd.ntmps11
    go_wp2_with fail
    refine (hc _).mono ?_
    rintro e w1 ⟨rfl, b1⟩
    have BB := (below_alloc _ _).trans (b1.mono (by simp))
    have X := boxC w key ep ser siz tail num 24
    replace X := X.later (b1.mono (by simp))
    have c0 := X.c0
    have c1 := X.c1
    have c2 := X.c2
    have c3 := X.c3
    have c4 := X.c4
    have c5 := X.c5
    have T1 := T.later BB
    clear X b1
    go_wp2_with fail
    refine (ht _ T1).mono ?_
    rintro e w2 ⟨rfl, b2⟩
    have BF := BB.trans (b2.mono BB.size)
    clear ht hc c0 c1 c2 c3 c4 c5
    go_wp2
    go_ret2
    exact ⟨rfl, BF⟩
  · have he : s.enc = ByteArray.empty := if_neg h
    rw [he]
    generalize chk s = c at *
    obtain ⟨key, ep, ser, siz, tail, num⟩ := s
    simp only [Sb.val] at hc ⊢
    clear he hs
    go_enter Tryd.func11, Tryd.ntmps11
    go_wp2_with fail
    refine (hc _).mono ?_
    rintro e w1 ⟨rfl, b1⟩
    have BB := (below_alloc _ _).trans (b1.mono (by simp))
    clear hc b1
    go_wp2
    go_ret2
    exact ⟨rfl, BB⟩
end Su
end Go.Proofs.YtjopjffecnflkaaDoor
