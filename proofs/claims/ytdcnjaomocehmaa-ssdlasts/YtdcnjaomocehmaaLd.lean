/- A part of the proofs about package ssd: what its functions answer, call by call. -/
import Derived.Test.YtdcnjaomocehmaaLx
import Derived.Test.YtdcnjaomocehmaaLc
import Derived.Test.YtdcnjaomocehmaaLw
import Derived.Test.YtdcnjaomocehmaaLe
namespace Go.Proofs.Ytdcnjaomocehmaa
open Go.RowKit
namespace Wi

def fl (x : Nat) : List Nat := List.replicate 64 x
theorem fl_length (x : Nat) : (fl x).length = 64 := List.length_replicate
theorem fl_take (x : Nat) : (fl x).take 32 = List.replicate 32 x := by simp [fl]
theorem fl_drop (x : Nat) : (fl x).drop 32 = List.replicate 32 x := by simp [fl]
theorem bs_fl {x : Nat} (h : x < 256) : bs (str (fl x)) = fl x := bs_full h
/-- The device of three sectors x, with writes of the sector 1 pending. -/
def dl (x : Nat) (xs : List Nat) : Dv := ⟨[fl x, fl x, fl x], xs.map (fun y => (1, fl y)), false, none⟩
theorem three_puts (F : List Nat) (hF : F.length = 64) : puts 0 (F ++ F ++ F) 3 = [(0, F), (1, F), (2, F)] := by
  have h1 : (F ++ F ++ F).take 64 = F := by rw [List.append_assoc, ← hF, List.take_left]
  have h2 : (F ++ F ++ F).drop 64 = F ++ F := by rw [List.append_assoc, ← hF, List.drop_left]
  have h3 : (F ++ F).take 64 = F := by rw [← hF, List.take_left]
  have h4 : (F ++ F).drop 64 = F := by rw [← hF, List.drop_left]
  have h5 : F.take 64 = F := List.take_of_length_le (by omega)
  simp only [puts, h1, h2, h3, h4, h5]
theorem dl_start (x : Nat) : (dv0 3).writeA 0 (fl x ++ fl x ++ fl x) = 0 ∧ ((dv0 3).write 0 (fl x ++ fl x ++ fl x)).barrier = dl x [] ∧ (dl x []).barrier = dl x [] ∧ ((dv0 3).write 0 (fl x ++ fl x ++ fl x)).pend.length = 3 := by
  obtain ⟨w1, w2⟩ := write_fits (d := dv0 3) rfl rfl (A := 0) (n := 3) (data := fl x ++ fl x ++ fl x) (by simp [fl_length]) (by simp [dv0])
  refine ⟨w1, ?_, rfl, ?_⟩
  · rw [show (dv0 3).write 0 (fl x ++ fl x ++ fl x) = (dv0 3).plus (puts 0 (fl x ++ fl x ++ fl x) 3) from w2, three_puts _ (fl_length x)]
    rfl
  · rw [show (dv0 3).write 0 (fl x ++ fl x ++ fl x) = (dv0 3).plus (puts 0 (fl x ++ fl x ++ fl x) 3) from w2, three_puts _ (fl_length x)]
    rfl
theorem dl_step (x : Nat) (xs : List Nat) (y : Nat) : (dl x xs).writeA 1 (fl y) = 0 ∧ (dl x xs).write 1 (fl y) = dl x (xs ++ [y]) := by
  obtain ⟨w1, w2⟩ := write_fits (d := dl x xs) rfl rfl (A := 1) (n := 1) (data := fl y) (by simp [fl_length]) (by simp [dl])
  refine ⟨w1, ?_⟩
  rw [show (dl x xs).write 1 (fl y) = (dl x xs).plus (puts 1 (fl y) 1) from w2]
  have : puts 1 (fl y) 1 = [(1, fl y)] := by
    simp only [puts]
    rw [List.take_of_length_le (by rw [fl_length]; omega)]
  rw [this]
  simp [dl, Dv.plus]
theorem dl_pend (x : Nat) (xs : List Nat) : (dl x xs).pend.length = xs.length := by simp [dl]
/-- Whose half is it? -/
def hit (H : ByteArray) (x : Nat) (l : List Nat) : Bool := (H.toList == (str (List.replicate 32 x)).toList) || l.any fun y => H.toList == (str (List.replicate 32 y)).toList
theorem hit_snoc (H : ByteArray) (x : Nat) (l : List Nat) (y : Nat) : hit H x (l ++ [y]) = (hit H x l || (H.toList == (str (List.replicate 32 y)).toList)) := by simp [hit, Bool.or_assoc]
theorem hit_of {M : List Nat} {x : Nat} {l : List Nat} (h : M = List.replicate 32 x ∨ ∃ y ∈ l, M = List.replicate 32 y) : hit (str M) x l = true := by
  unfold hit
  rcases h with rfl | ⟨y, hy, rfl⟩
  · rw [beq_lists rfl]; rfl
  · rw [Bool.or_eq_true]
    exact .inr (List.any_eq_true.2 ⟨y, hy, beq_lists rfl⟩)
theorem lasts_facts (x : Nat) (xs : List Nat) (keep : List Int) : ∃ (d : Dv) (S H R : ByteArray), (dl x xs).crash keep = d ∧ (∀ K, d.crash K = d) ∧ d.readE 0 3 = 0 ∧ str (d.readS 0 3) = S ∧ d.pend.length = 0 ∧ S.size = 192 ∧ S.extract 0 64 = str (fl x) ∧ S.extract 128 192 = str (fl x) ∧ S.extract 64 96 = H ∧ S.extract 96 128 = R ∧ hit H x xs = true ∧ hit R x xs = true := by
  have hw : ∀ p ∈ (dl x xs).pend, p.2.length = 64 ∧ p.1 = 1 := fun p hp => by
    obtain ⟨y, _, rfl⟩ := List.mem_map.1 hp
    exact ⟨fl_length y, rfl⟩
  have h0 := crashes_apart 0 (dl x xs).pend (dl x xs).last keep fun p hp => by rw [(hw p hp).2]; omega
  have h2 := crashes_apart 2 (dl x xs).pend (dl x xs).last keep fun p hp => by rw [(hw p hp).2]; omega
  obtain ⟨m0, m1, m2⟩ := crashes_halves 1 (dl x xs).pend (dl x xs).last keep (fun p hp => (hw p hp).1) (fl_length x) (by simp [dl])
  have hl := crashes_length (dl x xs).pend (dl x xs).last keep
  have e0 : (dl x xs).last.getD 0 [] = fl x := rfl
  have e1 : (dl x xs).last.getD 1 [] = fl x := rfl
  have e2 : (dl x xs).last.getD 2 [] = fl x := rfl
  have el : (dl x xs).last.length = 3 := rfl
  have hm : ∀ p ∈ (dl x xs).pend, ∃ y ∈ xs, p.2 = fl y := fun p hp => by
    obtain ⟨y, hy, rfl⟩ := List.mem_map.1 hp
    exact ⟨y, hy, rfl⟩
  have hc : (dl x xs).crash keep = ⟨crashes (dl x xs).last (dl x xs).pend keep, [], false, none⟩ := rfl
  rw [e0] at h0
  rw [e1] at m1 m2
  rw [e2] at h2
  rw [el] at hl
  rw [hc]
  generalize crashes (dl x xs).last (dl x xs).pend keep = L at *
  generalize hM : L.getD 1 [] = M at *
  obtain ⟨r1, r2⟩ := read_fits (d := ⟨L, [], false, none⟩) rfl (a := 0) (n := 3) (A := 0) (N := 3) rfl rfl (by show 0 + 3 ≤ L.length; omega)
  have hs : (Dv.mk L [] false none).secs 0 3 = fl x ++ (M ++ fl x) := by
    have : (Dv.mk L [] false none).secs 0 3 = L.getD 0 [] ++ (L.getD 1 [] ++ (L.getD 2 [] ++ [])) := rfl
    rw [this, h0, hM, h2, List.append_nil]
  rw [hs] at r2
  have c1 : ∀ i j, (str (fl x ++ (M ++ fl x))).extract i j = str (((fl x ++ (M ++ fl x)).drop i).take (j - i)) := fun i j => str_cut _ i j
  have d64 : (fl x ++ (M ++ fl x)).drop 64 = M ++ fl x := by
    have := List.drop_left (l₁ := fl x) (l₂ := M ++ fl x)
    rwa [fl_length] at this
  have d96 : (fl x ++ (M ++ fl x)).drop 96 = M.drop 32 ++ fl x := by
    rw [show 96 = 64 + 32 from rfl, ← List.drop_drop, d64, List.drop_append_of_le_length (by omega)]
  have d128 : (fl x ++ (M ++ fl x)).drop 128 = fl x := by
    rw [show 128 = 64 + 64 from rfl, ← List.drop_drop, d64]
    have := List.drop_left (l₁ := M) (l₂ := fl x)
    rwa [m0] at this
  have t0 : (fl x ++ (M ++ fl x)).take 64 = fl x := by
    have := List.take_left (l₁ := fl x) (l₂ := M ++ fl x)
    rwa [fl_length] at this
  have t1 : (M ++ fl x).take 32 = M.take 32 := List.take_append_of_le_length (by omega)
  have t2 : (M.drop 32 ++ fl x).take 32 = M.drop 32 := by
    have := List.take_left (l₁ := M.drop 32) (l₂ := fl x)
    rwa [List.length_drop, m0] at this
  refine ⟨_, _, str (M.take 32), str (M.drop 32), rfl, fun K => rfl, r1, rfl, rfl, ?_, ?_, ?_, ?_, ?_, ?_, ?_⟩
  · rw [r2, str_size]; simp [fl_length, m0]
  · rw [r2, c1, List.drop_zero, t0]
  · rw [r2, c1, d128, List.take_of_length_le (by rw [fl_length]; omega)]
  · rw [r2, c1, d64, t1]
  · rw [r2, c1, d96, t2]
  · refine hit_of ?_
    rcases m1 with h | ⟨p, hp, _, h⟩
    · exact .inl (by rw [h, fl_take])
    · obtain ⟨y, hy, e⟩ := hm p hp
      exact .inr ⟨y, hy, by rw [h, e, fl_take]⟩
  · refine hit_of ?_
    rcases m2 with h | ⟨p, hp, _, h⟩
    · exact .inl (by rw [h, fl_drop])
    · obtain ⟨y, hy, e⟩ := hm p hp
      exact .inr ⟨y, hy, by rw [h, e, fl_drop]⟩
theorem fl_half (x : Nat) : (str (fl x)).extract 0 32 = str (List.replicate 32 x) := by rw [str_take, fl_take]
theorem fl_size (x : Nat) : (str (fl x)).size = 64 := by rw [str_size, fl_length]
theorem fl_three {x : Nat} (h : x < 256) : bs (str (fl x) ++ str (fl x) ++ str (fl x)) = fl x ++ fl x ++ fl x ∧ (str (fl x) ++ str (fl x) ++ str (fl x)).size = 192 := by
  constructor
  · rw [← str_append, ← str_append]
    refine bs_str fun b hb => ?_
    simp only [List.mem_append] at hb
    have : ∀ b ∈ fl x, b < 256 := fun b hb => by rw [List.eq_of_mem_replicate hb]; exact h
    rcases hb with (hb | hb) | hb
    all_goals exact this b hb
  · rw [← str_append, ← str_append, str_size]
    simp [fl_length]
theorem Bs.at {W w : World} {a : Option Addr} {n : Nat} {xs : List Nat} (h : Bs W a n xs) (hb : Below W.heap.size W w) {k : Nat} {y : Nat} (hk : xs[k]? = some y) : ∃ g off, a = some ⟨g, off, none⟩ ∧ w.cell? ⟨g, off + k, none⟩ = some (.int .u8 (y : Nat)) := by
  obtain ⟨g, off, ha, hlt, hc⟩ := h.cells k y hk
  exact ⟨g, off, ha, (hb.cell (p := ⟨g, off + k, none⟩) hlt).trans hc⟩

set_option maxHeartbeats 8000000 in
set_option maxRecDepth 20000 in
theorem ssdLasts_walk (x : Nat) (a : Option Addr) (n cap : Nat) (xs : List Nat) (ka : Option Addr) (kn kc : Nat) (keep : List Int) (W : World) (hx : x < 256) (hBs : Bs W a n xs) (hKs : Ks W (fun _ => False) ka kn keep) : Calls Try.prog 5 #[.int .u8 (x : Nat), .slice a n cap, .slice ka kn kc] W fun e w' => e = .returned (.bool true) ∧ Below W.heap.size W w' := by
  have hn := hBs.most
  have hkn := hKs.most
  have HL := hide hBs.len
  have hnw := new_any 3 (by omega) (by omega) W
  by_cases hfew : n ≤ 10 ∧ kn ≤ 20
  · obtain ⟨hn10, hk20⟩ := hfew
    have hfx : ∀ w, _ := fun w => full_any x hx w
    have sx := fl_size x
    have fx := bs_fl hx
    obtain ⟨f3, z3⟩ := fl_three hx
    obtain ⟨s1, s2, s3, s4⟩ := dl_start x
    obtain ⟨d, S, H, R, L1, L2, L3, L4, L5, L6, L7, L8, L9, L10, L11, L12⟩ := lasts_facts x xs keep
    have ex := fl_half x
    obtain ⟨SX, hSX⟩ : ∃ SX, SX = str (fl x) := ⟨_, rfl⟩
    rw [show List.replicate 64 x = fl x from rfl, ← hSX] at hfx
    rw [← hSX] at sx fx f3 z3 L7 L8 ex
    obtain ⟨T3, hT3⟩ : ∃ T3, SX ++ SX ++ SX = T3 := ⟨_, rfl⟩
    rw [hT3] at f3 z3
    obtain ⟨SH, hSH⟩ : ∃ SH, SH = str (List.replicate 32 x) := ⟨_, rfl⟩
    rw [← hSH] at ex
    have HSX := hide hSX
    have HSH := hide hSH
    have F3 := hide f3
    have S1 := hide s1
    have S2 := hide s2
    have S3 := hide s3
    have S4 := hide s4
    have M1 := hide L1
    have M2 := hide L2
    have M3 := hide L3
    have M4 := hide L4
    have M5 := hide L5
    have M7 := hide L7
    have M8 := hide L8
    have M9 := hide L9
    have M10 := hide L10
    have M11 := hide L11
    have M12 := hide L12
    have EX := hide ex
    have HT3 := hide hT3
    clear hSX hSH f3 s1 s2 s3 s4 L1 L2 L3 L4 L5 L7 L8 L9 L10 L11 L12 ex hT3 fx
    go_enter Try.func5, Try.ntmps5
    go_wp2_with fail
    refine hnw.mono ?_
    rintro e w1 ⟨rfl, hN1⟩
    have hM := hN1.my (Below.refl _ _)
    clear hN1 hnw
    go_wp2_with fail
    refine (hfx _).mono ?_
    rintro e w2 ⟨rfl, hb2⟩
    replace hM := hM.later hb2
    clear hb2
    go_wp2_with fail
    refine (hfx _).mono ?_
    rintro e w3 ⟨rfl, hb3⟩
    replace hM := hM.later hb3
    clear hb3
    go_wp2_with fail
    refine (hfx _).mono ?_
    rintro e w4 ⟨rfl, hb4⟩
    replace hM := hM.later hb4
    clear hb4
    obtain ⟨X, hD, hX, hgo⟩ := hM.go
    have hc := write_any hD 0 T3 (by omega) (by omega) (by show 0 + _ ≤ _; omega)
    rw [F3.out, S1.out] at hc
    rw [← HT3.out] at hc
    go_wp2_with fail
    refine hc.mono ?_
    rintro e w5 ⟨rfl, hl⟩
    replace hM := hgo hl
    clear hl hgo hD hX X hc
    obtain ⟨X, hD, hX, hgo⟩ := hM.go
    have hc := barrier_any hD
    rw [S2.out] at hc
    generalize Dv.barrierA _ = EE2 at *
    go_wp2_with fail
    refine hc.mono ?_
    rintro e w6 ⟨rfl, hl⟩
    replace hM := hgo hl
    clear hl hgo hD hX X hc
    obtain ⟨X, hD, hX, hgo⟩ := hM.go
    have hc := barrier_any hD
    rw [S3.out] at hc
    generalize Dv.barrierA _ = EE3 at *
    go_wp2_with fail
    refine hc.mono ?_
    rintro e w7 ⟨rfl, hl⟩
    replace hM := hgo hl
    clear hl hgo hD hX X hc
    have HM := hide hM
    clear hM
    go_wp2
    go_loopw [9] (fun i wr => ∃ k : Nat, k ≤ n ∧ i = .int .i64 k ∧ My W wr (W.heap.size + 1) (dl x (xs.take k))) (fun i _ => n - (intOf i).toNat)
    case atStart => exact ⟨0, Nat.zero_le _, rfl, HM.out⟩
    case round =>
      clear HM
      obtain ⟨k, hk, rfl, hM⟩ := hrel
      by_cases hlt : k < n
      · obtain ⟨y, hy⟩ : ∃ y, xs[k]? = some y := ⟨_, List.getElem?_eq_getElem (by have := HL.out; omega)⟩
        have hy256 := hBs.num y (List.mem_of_getElem? hy)
        obtain ⟨g, off, rfl, c0⟩ := hBs.at hM.below hy
        have HT := hide (snoc_take _ _ _ hy)
        have hfy : ∀ w, _ := fun w => full_any y hy256 w
        have sy := fl_size y
        have fy := hide (bs_fl hy256)
        obtain ⟨u1, u2⟩ := dl_step x (xs.take k) y
        have U1 := hide u1
        have U2 := hide u2
        obtain ⟨SY, hSY⟩ : ∃ SY, SY = str (fl y) := ⟨_, rfl⟩
        rw [show List.replicate 64 y = fl y from rfl, ← hSY] at hfy
        rw [← hSY] at sy
        have FY : Hid (bs SY = fl y) := by show _ = _; rw [hSY]; exact fy.out
        clear u1 u2 hSY fy hy
        have hpl : Hid ((dl x (xs.take k)).pend.length ≤ 10) := by show _ ≤ _; rw [dl_pend, List.length_take]; omega
        go_wp2_with fail
        refine (hfy _).mono ?_
        rintro e w8 ⟨rfl, hb8⟩
        replace hM := hM.later hb8
        clear hb8 c0
        obtain ⟨X, hD, hX, hgo⟩ := hM.go
        have hc := write_any hD 1 SY (by omega) (by omega) (by have := hpl.out; omega)
        rw [FY.out, U1.out, U2.out, ← HT.out] at hc
        go_wp2_with fail
        refine hc.mono ?_
        rintro e w9 ⟨rfl, hl⟩
        have HM2 := hide (hgo hl)
        clear hl hgo hD hX X hc hM
        go_wp2
        go_roundw
        case rel => exact ⟨k + 1, by omega, by go_num, HM2.out⟩
        case measure => simp [intOf]; omega
      · obtain rfl : k = n := by omega
        clear hlt
        have hall : dl x (xs.take k) = dl x xs := by rw [HL.out, List.take_length]
        rw [hall] at hM
        clear hall
        obtain ⟨X, hD, hX, hgo⟩ := hM.go
        have hpe := pending_any hD
        rw [dl_pend, ← HL.out] at hpe
        go_wp2_with fail
        refine hpe.mono ?_
        rintro e w' ⟨rfl, rfl⟩
        clear hpe
        have hc := crash_any hD (cap := kc) (hKs.to hM.below hX)
        rw [M1.out] at hc
        go_wp2_with fail
        refine hc.mono ?_
        rintro e w8 ⟨rfl, hl⟩
        replace hM := hgo hl
        clear hl hgo hD hX X hc
        obtain ⟨X, hD, hX, hgo⟩ := hM.go
        have hc := read_any hD 0 3 (by omega) (by omega)
        rw [M3.out, M4.out] at hc
        go_wp2_with fail
        refine hc.mono ?_
        rintro e w9 ⟨rfl, hl⟩
        replace hM := hM.later hl
        clear hl hgo hD hX X hc
        obtain ⟨X, hD, hX, hgo⟩ := hM.go
        have hb8 := below_alloc w9 (.cells #[.int .i64 1, .int .i64 1, .int .i64 1] 3)
        have hc := crash_any (hD.later hb8) (cap := 3) (Ks.new w9 X [1, 1, 1] (by simp [Num]) (by simp) hD.lt #[.int .i64 1, .int .i64 1, .int .i64 1] rfl)
        rw [M2.out] at hc
        simp only [List.length_cons, List.length_nil] at hc
        go_wp2_with fail
        refine hc.mono ?_
        rintro e w10 ⟨rfl, hl⟩
        replace hM := hgo (hl.first hb8)
        clear hl hgo hD hX X hc hb8
        obtain ⟨X, hD, hX, hgo⟩ := hM.go
        have hc := read_any hD 0 3 (by omega) (by omega)
        rw [M3.out, M4.out] at hc
        go_wp2_with fail
        refine hc.mono ?_
        rintro e w11 ⟨rfl, hl⟩
        replace hM := hM.later hl
        clear hl hgo hD hX X hc
        have v1 : (S.toList == S.toList) = true := beq_lists rfl
        have v2 : (SX.toList == SX.toList) = true := beq_lists rfl
        have v3 := M7.out
        have v4 := M8.out
        have hne := later_ne w11
        go_wp2
        refine wp_region_later (by kernel_rfl) (by kernel_rfl) ?_
        (repeat (first | go_big_quiet_skip | (go_big_quiet_want; go_big_quiet_op; go_big_quiet_on)))
        (go_big_quiet_want; go_big_quiet_op; apply Exists.intro; refine ⟨fun p => ?_, ?_⟩; (· exact later_of (hfx _)); go_big_quiet_on)
        (repeat (first | go_big_quiet_skip | (go_big_quiet_want; go_big_quiet_op; go_big_quiet_on)))
        (go_big_quiet_want; go_big_quiet_op; apply Exists.intro; refine ⟨fun p => ?_, ?_⟩; (· exact later_of (hfx _)); go_big_quiet_on)
        (repeat (first | go_big_quiet_skip | (go_big_quiet_want; go_big_quiet_op; go_big_quiet_on)))
        refine wpQuiet_nil ?_
        rintro _ ⟨p, rfl⟩
        replace hM := hM.later p.below
        clear v1 v2 v3 v4
        have v5 := M9.out
        have v6 := M10.out
        go_wp2_with fail
        refine (hfx _).mono ?_
        rintro e w12 ⟨rfl, hb12⟩
        replace hM := hM.later hb12
        clear hb12 v5 v6
        have v7 := EX.out
        go_wp2_with fail
        refine (hfx _).mono ?_
        rintro e w13 ⟨rfl, hb13⟩
        have HM := hide (hM.later hb13)
        clear hb13 hM
        obtain ⟨q1, hq1⟩ : ∃ q, (H.toList == SH.toList) = q := ⟨_, rfl⟩
        obtain ⟨q2, hq2⟩ : ∃ q, (R.toList == SH.toList) = q := ⟨_, rfl⟩
        go_wp2
        have Q1 : Hid (q1 = hit H x (xs.take 0)) := by show _ = _; rw [← hq1, HSH.out]; simp [hit]
        have Q2 : Hid (q2 = hit R x (xs.take 0)) := by show _ = _; rw [← hq2, HSH.out]; simp [hit]
        clear hq1 hq2 v7
        go_loopw [16, 17, 18] (fun h r i wr => ∃ (j : Nat) (b1 b2 : Bool), j ≤ k ∧ i = .int .i64 j ∧ h = .bool b1 ∧ r = .bool b2 ∧ Hid (b1 = hit H x (xs.take j)) ∧ Hid (b2 = hit R x (xs.take j)) ∧ My W wr (W.heap.size + 1) d) (fun _ _ i _ => k - (intOf i).toNat)
        case atStart => exact ⟨0, q1, q2, Nat.zero_le _, rfl, rfl, rfl, Q1, Q2, HM.out⟩
        case round =>
          clear HM Q1 Q2
          obtain ⟨j, b1, b2, hj, rfl, rfl, rfl, E1, E2, hM⟩ := hrel
          by_cases hlt : j < k
          · obtain ⟨y, hy⟩ : ∃ y, xs[j]? = some y := ⟨_, List.getElem?_eq_getElem (by have := HL.out; omega)⟩
            have hy256 := hBs.num y (List.mem_of_getElem? hy)
            obtain ⟨g, off, rfl, c0⟩ := hBs.at hM.below hy
            have HK := hide (snoc_take _ _ _ hy)
            have hfy : ∀ w, _ := fun w => full_any y hy256 w
            have sy := fl_size y
            have ey := fl_half y
            obtain ⟨SY, hSY⟩ : ∃ SY, SY = str (fl y) := ⟨_, rfl⟩
            rw [show List.replicate 64 y = fl y from rfl, ← hSY] at hfy
            rw [← hSY] at sy ey
            obtain ⟨TY, hTY⟩ : ∃ TY, TY = str (List.replicate 32 y) := ⟨_, rfl⟩
            rw [← hTY] at ey
            obtain ⟨q1, hq1⟩ : ∃ q, (H.toList == TY.toList) = q := ⟨_, rfl⟩
            obtain ⟨q2, hq2⟩ : ∃ q, (R.toList == TY.toList) = q := ⟨_, rfl⟩
            have Q1 : Hid ((H.toList == (str (List.replicate 32 y)).toList) = q1) := by show _ = _; rw [← hTY]; exact hq1
            have Q2 : Hid ((R.toList == (str (List.replicate 32 y)).toList) = q2) := by show _ = _; rw [← hTY]; exact hq2
            have HY := hide hy
            clear hSY hTY hy
            cases b1 with
            | true =>
              cases b2 with
              | true =>
                have HM3 := hide hM
                clear hM
                go_wp2
                go_roundw
                case rel => exact ⟨j + 1, true, true, by omega, by go_num, rfl, rfl, by show _ = hit _ _ _; rw [HK.out, hit_snoc, ← E1.out]; rfl, by show _ = hit _ _ _; rw [HK.out, hit_snoc, ← E2.out]; rfl, HM3.out⟩
                case measure => simp [intOf]; omega
              | false =>
                obtain ⟨g2, off2, hgo2, c1⟩ := hBs.at hM.below HY.out
                obtain ⟨rfl, rfl⟩ : g = g2 ∧ off = off2 := by simpa using hgo2
                clear hgo2
                go_wp2_with fail
                refine (hfy _).mono ?_
                rintro e w21 ⟨rfl, hbw21⟩
                replace hM := hM.later hbw21
                clear hbw21
                have HM3 := hide hM
                clear hM
                go_wp2
                go_roundw
                case rel => exact ⟨j + 1, true, q2, by omega, by go_num, rfl, rfl, by show _ = hit _ _ _; rw [HK.out, hit_snoc, ← E1.out]; rfl, by show _ = hit _ _ _; rw [HK.out, hit_snoc, ← E2.out]; rw [Q2.out]; rfl, HM3.out⟩
                case measure => simp [intOf]; omega
            | false =>
              cases b2 with
              | true =>
                go_wp2_with fail
                refine (hfy _).mono ?_
                rintro e w20 ⟨rfl, hbw20⟩
                replace hM := hM.later hbw20
                clear hbw20
                have HM3 := hide hM
                clear hM
                go_wp2
                go_roundw
                case rel => exact ⟨j + 1, q1, true, by omega, by go_num, rfl, rfl, by show _ = hit _ _ _; rw [HK.out, hit_snoc, ← E1.out]; rw [Q1.out]; rfl, by show _ = hit _ _ _; rw [HK.out, hit_snoc, ← E2.out]; rfl, HM3.out⟩
                case measure => simp [intOf]; omega
              | false =>
                go_wp2_with fail
                refine (hfy _).mono ?_
                rintro e w20 ⟨rfl, hbw20⟩
                replace hM := hM.later hbw20
                clear hbw20
                obtain ⟨g2, off2, hgo2, c1⟩ := hBs.at hM.below HY.out
                obtain ⟨rfl, rfl⟩ : g = g2 ∧ off = off2 := by simpa using hgo2
                clear hgo2
                go_wp2_with fail
                refine (hfy _).mono ?_
                rintro e w21 ⟨rfl, hbw21⟩
                replace hM := hM.later hbw21
                clear hbw21
                have HM3 := hide hM
                clear hM
                go_wp2
                go_roundw
                case rel => exact ⟨j + 1, q1, q2, by omega, by go_num, rfl, rfl, by show _ = hit _ _ _; rw [HK.out, hit_snoc, ← E1.out]; rw [Q1.out]; rfl, by show _ = hit _ _ _; rw [HK.out, hit_snoc, ← E2.out]; rw [Q2.out]; rfl, HM3.out⟩
                case measure => simp [intOf]; omega
          · obtain rfl : j = k := by omega
            clear hlt
            have hb1 : b1 = true := by rw [E1.out, HL.out, List.take_length]; exact M11.out
            have hb2 : b2 = true := by rw [E2.out, HL.out, List.take_length]; exact M12.out
            subst hb1 hb2
            obtain ⟨X, hD, hX, hgo⟩ := hM.go
            have hpe := pending_any hD
            rw [M5.out] at hpe
            have hbb := hide hM.below
            clear hM hgo hX hD X
            go_wp2_with fail
            refine hpe.mono ?_
            rintro e w' ⟨rfl, rfl⟩
            clear hpe
            go_wp2_with fail
            refine (awake_any _).mono ?_
            rintro e w14 ⟨rfl, hb14⟩
            go_wp2
            go_ret
            exact ⟨rfl, hbb.out.trans (hb14.mono hbb.out.size)⟩
  · by_cases h10 : 10 < n
    · go_enter Try.func5, Try.ntmps5
      go_wp2_with fail
      refine hnw.mono ?_
      rintro e w1 ⟨rfl, hN1⟩
      have hb1 := hide (hN1.my (Below.refl _ _)).below
      clear hN1 hnw
      go_wp2_with fail
      refine (awake_any _).mono ?_
      rintro e w14 ⟨rfl, hb14⟩
      go_wp2
      go_ret
      exact ⟨rfl, hb1.out.trans (hb14.mono hb1.out.size)⟩
    · have h20 : 20 < kn := by omega
      have h10' : n ≤ 10 := by omega
      clear hfew h10
      go_enter Try.func5, Try.ntmps5
      go_wp2_with fail
      refine hnw.mono ?_
      rintro e w1 ⟨rfl, hN1⟩
      have hb1 := hide (hN1.my (Below.refl _ _)).below
      clear hN1 hnw
      go_wp2_with fail
      refine (awake_any _).mono ?_
      rintro e w14 ⟨rfl, hb14⟩
      go_wp2
      go_ret
      exact ⟨rfl, hb1.out.trans (hb14.mono hb1.out.size)⟩

end Wi
end Go.Proofs.Ytdcnjaomocehmaa
