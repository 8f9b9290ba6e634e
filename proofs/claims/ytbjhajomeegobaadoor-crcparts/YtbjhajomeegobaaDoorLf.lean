/- A part of the proofs about package crc: what its functions answer, call by call. -/
import Derived.Test.YtbjhajomeegobaaDoorLe
import Derived.Test.YtbjhajomeegobaaDoorRh
namespace Go.Proofs.YtbjhajomeegobaaDoor
open Go.RowKit
namespace Cr

theorem bs_take (s : ByteArray) (n : Nat) (h : n ≤ s.size) : bs (s.extract 0 n) = (bs s).take n := by
  have hc := cut_data s n h
  have hl : (bs (s.extract 0 n)).length = n := by rw [bs_length]; simp; omega
  rw [hc, List.take_append_of_le_length (by omega), List.take_of_length_le (by omega)]
/-- Byte i of a string. -/
def by' (s : ByteArray) (i : Nat) : Nat := (bs s).getD i 0
theorem by_get (s : ByteArray) {i : Nat} (h : i < s.size) : (s[i]'h).toNat = by' s i := by
  unfold by'
  rw [List.getD_eq_getElem?_getD, bs_get s i h]
  rfl
theorem by_lt (s : ByteArray) (i : Nat) : by' s i < 256 := by
  unfold by'
  rw [List.getD_eq_getElem?_getD]
  cases h : (bs s)[i]? with
  | none => simp
  | some b => exact bs_lt s b (List.mem_of_getElem? h)
theorem take_map (s : ByteArray) {n : Nat} (h : n ≤ s.size) : (bs s).take n = (List.range n).map (by' s) := by
  apply List.ext_getElem?
  intro i
  by_cases hi : i < n
  · have : i < s.size := by omega
    rw [List.getElem?_take, if_pos hi, List.getElem?_map, List.getElem?_range hi, bs_get s i this, by_get]
    rfl
  · rw [List.getElem?_take, if_neg hi, List.getElem?_eq_none (by simp; omega)]
/-- Three texts, xor-ed byte by byte. -/
def x3 (a b c : ByteArray) (k : Nat) : Nat → Nat := fun i => if i < k then by' a i ^^^ by' b i ^^^ by' c i else 0
theorem x3_zero (a b c : ByteArray) : x3 a b c 0 = fun _ => 0 := by funext i; simp [x3]
theorem x3_step (a b c : ByteArray) (k : Nat) : (fun i => if i = k then by' a k ^^^ by' b k ^^^ by' c k else x3 a b c k i) = x3 a b c (k + 1) := by
  funext i
  unfold x3
  by_cases h : i = k
  · subst h; simp
  · by_cases h2 : i < k
    · simp [h, h2, show i < k + 1 by omega]
    · simp [h, h2, show ¬ i < k + 1 by omega]
theorem x3_sum (a b c : ByteArray) {n : Nat} (ha : n ≤ a.size) (hb : n ≤ b.size) (hc : n ≤ c.size) :
    more 0 (bs (str ((List.range n).map (x3 a b c n)))) = more 0 (bs (a.extract 0 n)) ^^^ more 0 (bs (b.extract 0 n)) ^^^ more 0 (bs (c.extract 0 n)) := by
  rw [bs_take a n ha, bs_take b n hb, bs_take c n hc, take_map a ha, take_map b hb, take_map c hc]
  rw [bs_str (by
    intro x hx
    simp only [List.mem_map, List.mem_range] at hx
    obtain ⟨i, hi, rfl⟩ := hx
    unfold x3
    rw [if_pos hi]
    exact Nat.xor_lt_two_pow (n := 8) (Nat.xor_lt_two_pow (n := 8) (by_lt a i) (by_lt b i)) (by_lt c i))]
  have hl : ∀ s : ByteArray, ∀ x ∈ (List.range n).map (by' s), x < 256 := by
    intro s x hx
    simp only [List.mem_map] at hx
    obtain ⟨i, _, rfl⟩ := hx
    exact by_lt s i
  rw [← more_three (hl a) (hl b) (hl c) (by simp) (by simp)]
  congr 1
  rw [List.zipWith_map_left, List.zipWith_map_right]
  apply List.ext_getElem?
  intro i
  by_cases hi : i < n
  · simp [x3, hi]
  · rw [List.getElem?_eq_none (by simp; omega), List.getElem?_eq_none (by simp; omega)]
theorem Rowc.zs (w : World) (n : Nat) : Rowc (w.alloc (.cells (zs n) 5)) w.heap.size n (fun _ => 0) :=
  ⟨by simp, fun i hi => by simp [zs_get hi], fun i _ => by simp⟩
theorem min3 {x y z : Int} {m : Nat} (h : (m : Int) = min (min x y) z) : min (min x y) z = (m : Int) := h.symm
theorem below_rowc {w w' : World} (h : Below w.heap.size w w') : Below w.heap.size w w' := h
set_option maxHeartbeats 2000000 in
theorem crcXors_walk (a b c : ByteArray) (W : World) (T : Tab W) (_ha : a.size ≤ 9223372036854775807) (_hb : b.size ≤ 9223372036854775807) (_hc : c.size ≤ 9223372036854775807) :
    Calls Tryd.prog 9 #[.string a, .string b, .string c] W fun e w' => e = .returned (.bool true) ∧ Below W.heap.size W w' := by
  obtain ⟨n, hn⟩ : ∃ n : Nat, n = min (min a.size b.size) c.size := ⟨_, rfl⟩
  have hmin : ∀ w, (Builtin.min_ #[3, 3, 3] 3 #[.int .i64 (a.size : Int), .int .i64 (b.size : Int), .int .i64 (c.size : Int)]).run Tryd.prog w = .ok (.int .i64 (n : Int)) w := by
    intro w
    rw [run_min_int3]
    congr 2
    repeat' split
    all_goals omega
  have na : n ≤ a.size := by omega
  have nb : n ≤ b.size := by omega
  have nc : n ≤ c.size := by omega
  clear hn
  by_cases hbig : 500 < n
  · go_enter Tryd.func9, Tryd.ntmps9
    go_wp2_with fail
    refine (awake_any _ T).mono ?_
    rintro e wv1 ⟨rfl, hv1⟩
    replace T := T.later hv1
    have BB := hv1
    clear hv1
    go_wp2
    go_ret
    exact ⟨rfl, BB⟩
  · have hmk := make_bytes (N := n) (by omega)
    have R0 := Rowc.zs W n
    have B0 := below_alloc W (.cells (zs n) 5)
    have T0 := T.later B0
    have HX := hide (x3_sum a b c na nb nc)
    generalize zs n = Z at *
    go_enter Tryd.func9, Tryd.ntmps9
    go_wp2
    clear hmin hmk
    go_loopw [9] (fun i wr => ∃ k : Nat, k ≤ n ∧ i = .int .i64 k ∧ Rowc wr W.heap.size n (x3 a b c k) ∧ Below W.heap.size W wr ∧ Tab wr) (fun i _ => n - (intOf i).toNat)
    case atStart => exact ⟨0, Nat.zero_le _, rfl, by rw [x3_zero]; exact R0, B0, T0⟩
    case round =>
      clear R0 B0 T0
      have hW0 := T.lt
      clear T
      obtain ⟨k, hk, rfl, r1, hbr, T⟩ := hrel
      by_cases hlt : k < n
      · have l1 := by_lt a k
        have l2 := by_lt b k
        have l3 := by_lt c k
        have g1 := by_get a (i := k) (by omega)
        have g2 := by_get b (i := k) (by omega)
        have g3 := by_get c (i := k) (by omega)
        have e1 := u8_xor l1 l2
        have e2 := u8_xor (a := by' a k ^^^ by' b k) (Nat.xor_lt_two_pow (n := 8) l1 l2) l3
        have HS := hide (x3_step a b c k)
        have ka : k < a.size := by omega
        have kb : k < b.size := by omega
        have kc : k < c.size := by omega
        have hne := later_ne wr
        have R1 : Hid (∀ q : Later wr, q.val.cell? ⟨W.heap.size, k, none⟩ = some (.int .u8 (x3 a b c k k : Nat)) ∧ q.val.frozen? ⟨W.heap.size, k, none⟩ = false ∧ (∀ v : Nat, Rowc (q.val.setCell ⟨W.heap.size, k, none⟩ (.int .u8 (v : Nat))) W.heap.size n (fun i => if i = k then v else x3 a b c k i)) ∧ (∀ v, Below W.heap.size W (q.val.setCell ⟨W.heap.size, k, none⟩ v)) ∧ ∀ v, Tab (q.val.setCell ⟨W.heap.size, k, none⟩ v)) := fun q =>
          ⟨(r1.later q.below).cell _ hlt, (r1.later q.below).frozen _ hlt, fun v => (r1.later q.below).set hlt v, fun v => below_set (hbr.trans (q.below.mono hbr.size)) (Nat.le_refl _) _ v, fun v => tab_set (T.later q.below) hW0 _ v⟩
        clear r1 hbr T l1 l2 l3
        generalize by' a k = ba at *
        generalize by' b k = bb at *
        generalize by' c k = bc at *
        generalize ba ^^^ bb = bab at *
        generalize bab ^^^ bc = v0 at *
        go_wp2
        refine wp_region_later_tail 14 (by kernel_rfl) (by kernel_rfl) ?_
        simp only [List.take, List.drop]
        (repeat (first | go_big_quiet_skip | (go_big_quiet_want; go_big_quiet_op; go_big_quiet_on)))
        refine wpQuiet_nil ?_
        rintro _ ⟨q, rfl⟩
        obtain ⟨f1, f2, f3, f6, f7⟩ := R1.out q
        have R3 := hide (f3 v0)
        rw [HS.out] at R3
        have R6 := hide (f6 (.int .u8 (v0 : Nat)))
        have R7 := hide (f7 (.int .u8 (v0 : Nat)))
        clear f3 f6 f7 R1
        generalize x3 a b c k k = old at *
        go_wp2
        go_roundw
        case rel => exact ⟨k + 1, by omega, by go_num, R3.out, R6.out, R7.out⟩
        case measure => simp [intOf]; omega
      · obtain rfl : k = n := by omega
        have hcv : ∀ w, Below wr.heap.size wr w → _ := fun w hb => (r1.later hb).conv k
        have zX : (str ((List.range k).map (x3 a b c k))).size ≤ 9223372036854775807 := by rw [str_size]; simp; omega
        have zA : (a.extract 0 k).size ≤ 9223372036854775807 := by simp; omega
        have zB : (b.extract 0 k).size ≤ 9223372036854775807 := by simp; omega
        have zC : (c.extract 0 k).size ≤ 9223372036854775807 := by simp; omega
        have lA := more_lt 0 (bs (a.extract 0 k))
        have lB := more_lt 0 (bs (b.extract 0 k))
        have lC := more_lt 0 (bs (c.extract 0 k))
        have xab := xor_u32 lA lB
        have xabc := xor_u32 (Nat.xor_lt_two_pow (n := 32) lA lB) lC
        have HS1 : Hid (∀ (s : ByteArray) (w : World) (aa : Option Addr) (nn cc : Nat), Tab w → Ss w aa nn [s] → Calls Tryd.prog 14 #[.slice aa nn cc] w fun e w' => e = .returned (.int .u32 (more 0 (bs s) : Nat)) ∧ Below w.heap.size w w') := fun s w aa nn cc T h => by
          have := sum_any aa nn cc [s] w T h
          rw [show jn [s] = bs s by simp [jn]] at this
          exact same_b this
        have hMX := HX.out
        generalize str ((List.range k).map (x3 a b c k)) = X at *
        go_wp2
        rename_i KK hKK
        refine wp_region_specs [.val (.slice (some ⟨W.heap.size, 0, none⟩) k k), .val (.string X), .strs [X], .val (.int .u32 (more 0 (bs (X)) : Nat)), .val (.string a), .val (.int .i64 (k : Nat)), .val (.string (a.extract 0 k)), .strs [a.extract 0 k], .val (.int .u32 (more 0 (bs (a.extract 0 k)) : Nat)), .val (.string b), .val (.int .i64 (k : Nat)), .val (.string (b.extract 0 k)), .strs [b.extract 0 k], .val (.int .u32 (more 0 (bs (b.extract 0 k)) : Nat)), .val (.int .u32 ((more 0 (bs (a.extract 0 k)) ^^^ more 0 (bs (b.extract 0 k)) : Nat) : Int)), .val (.string c), .val (.int .i64 (k : Nat)), .val (.string (c.extract 0 k)), .strs [c.extract 0 k], .val (.int .u32 (more 0 (bs (c.extract 0 k)) : Nat)), .val (.int .u32 ((more 0 (bs (a.extract 0 k)) ^^^ more 0 (bs (b.extract 0 k)) ^^^ more 0 (bs (c.extract 0 k)) : Nat) : Int)), .val (.bool true), .val (.bool true), .val (.bool true), .val (.bool true), .val (.bool true)] (by kernel_rfl) (by kernel_rfl) ?_ ?_
        · clear HX
          refine ⟨?_, ?_⟩
          · intro A w1 hb ho hd
            have e8 : A.tmps[8]?.getD undef = .slice (some ⟨W.heap.size, 0, none⟩) k k := olds_get ho 8 (by kernel_rfl)
            refine ⟨rfl, goes_value (v := .slice (some ⟨W.heap.size, 0, none⟩) k k) ?_ rfl⟩
            simp [go_sem, e8]
          refine ⟨?_, ?_⟩
          · intro A w1 hb ho hd
            have e41 : A.tmps[41]?.getD undef = .slice (some ⟨W.heap.size, 0, none⟩) k k := getq (hd _ (Array.mem_of_getElem? (i := 0) rfl) rfl _ _ rfl rfl)
            refine ⟨rfl, goes_value (v := .string X) ?_ rfl⟩
            simp [go_sem, e41, hcv w1 hb]
          refine ⟨?_, ?_⟩
          · intro A w1 hb ho hd
            have e42 : A.tmps[42]?.getD undef = .string X := getq (hd _ (Array.mem_of_getElem? (i := 0) rfl) rfl _ _ rfl rfl)
            refine ⟨rfl, goes_alloc (v := .slice (some ⟨w1.heap.size, 0, none⟩) 1 1) (o := .cells #[.string (X)] 9) ?_ ⟨_, _, _, rfl, Ss.one w1 _ (by assumption) 9⟩⟩
            simp [go_sem, e42]
          refine ⟨?_, ?_⟩
          · intro A w1 hb ho hd
            obtain ⟨aa, nn, cc, ev, hS⟩ := hd _ (Array.mem_of_getElem? (i := 0) rfl) rfl _ _ rfl rfl
            have e43 := getq ev
            refine ⟨rfl, goes_call (f := 14) (args := #[.slice aa nn cc]) ?_ (HS1.out _ _ aa nn cc (T.later hb) hS)⟩
            simp [go_sem, e43]
          refine ⟨?_, ?_⟩
          · intro A w1 hb ho hd
            have e0 : A.tmps[0]?.getD undef = .string a := olds_get ho 0 (by kernel_rfl)
            refine ⟨rfl, goes_value (v := .string a) ?_ rfl⟩
            simp [go_sem, e0]
          refine ⟨?_, ?_⟩
          · intro A w1 hb ho hd
            have e7 : A.tmps[7]?.getD undef = .int .i64 (k : Nat) := olds_get ho 7 (by kernel_rfl)
            refine ⟨rfl, goes_value (v := .int .i64 (k : Nat)) ?_ rfl⟩
            simp [go_sem, e7]
          refine ⟨?_, ?_⟩
          · intro A w1 hb ho hd
            have e45 : A.tmps[45]?.getD undef = .string a := getq (hd _ (Array.mem_of_getElem? (i := 0) rfl) rfl _ _ rfl rfl)
            have e46 : A.tmps[46]?.getD undef = .int .i64 (k : Nat) := getq (hd _ (Array.mem_of_getElem? (i := 1) rfl) rfl _ _ rfl rfl)
            refine ⟨rfl, goes_value (v := .string (a.extract 0 k)) ?_ rfl⟩
            simp [go_sem, e45, e46, na]
          refine ⟨?_, ?_⟩
          · intro A w1 hb ho hd
            have e47 : A.tmps[47]?.getD undef = .string (a.extract 0 k) := getq (hd _ (Array.mem_of_getElem? (i := 0) rfl) rfl _ _ rfl rfl)
            refine ⟨rfl, goes_alloc (v := .slice (some ⟨w1.heap.size, 0, none⟩) 1 1) (o := .cells #[.string (a.extract 0 k)] 9) ?_ ⟨_, _, _, rfl, Ss.one w1 _ (by assumption) 9⟩⟩
            simp [go_sem, e47]
          refine ⟨?_, ?_⟩
          · intro A w1 hb ho hd
            obtain ⟨aa, nn, cc, ev, hS⟩ := hd _ (Array.mem_of_getElem? (i := 0) rfl) rfl _ _ rfl rfl
            have e48 := getq ev
            refine ⟨rfl, goes_call (f := 14) (args := #[.slice aa nn cc]) ?_ (HS1.out _ _ aa nn cc (T.later hb) hS)⟩
            simp [go_sem, e48]
          refine ⟨?_, ?_⟩
          · intro A w1 hb ho hd
            have e1 : A.tmps[1]?.getD undef = .string b := olds_get ho 1 (by kernel_rfl)
            refine ⟨rfl, goes_value (v := .string b) ?_ rfl⟩
            simp [go_sem, e1]
          refine ⟨?_, ?_⟩
          · intro A w1 hb ho hd
            have e7 : A.tmps[7]?.getD undef = .int .i64 (k : Nat) := olds_get ho 7 (by kernel_rfl)
            refine ⟨rfl, goes_value (v := .int .i64 (k : Nat)) ?_ rfl⟩
            simp [go_sem, e7]
          refine ⟨?_, ?_⟩
          · intro A w1 hb ho hd
            have e50 : A.tmps[50]?.getD undef = .string b := getq (hd _ (Array.mem_of_getElem? (i := 0) rfl) rfl _ _ rfl rfl)
            have e51 : A.tmps[51]?.getD undef = .int .i64 (k : Nat) := getq (hd _ (Array.mem_of_getElem? (i := 1) rfl) rfl _ _ rfl rfl)
            refine ⟨rfl, goes_value (v := .string (b.extract 0 k)) ?_ rfl⟩
            simp [go_sem, e50, e51, nb]
          refine ⟨?_, ?_⟩
          · intro A w1 hb ho hd
            have e52 : A.tmps[52]?.getD undef = .string (b.extract 0 k) := getq (hd _ (Array.mem_of_getElem? (i := 0) rfl) rfl _ _ rfl rfl)
            refine ⟨rfl, goes_alloc (v := .slice (some ⟨w1.heap.size, 0, none⟩) 1 1) (o := .cells #[.string (b.extract 0 k)] 9) ?_ ⟨_, _, _, rfl, Ss.one w1 _ (by assumption) 9⟩⟩
            simp [go_sem, e52]
          refine ⟨?_, ?_⟩
          · intro A w1 hb ho hd
            obtain ⟨aa, nn, cc, ev, hS⟩ := hd _ (Array.mem_of_getElem? (i := 0) rfl) rfl _ _ rfl rfl
            have e53 := getq ev
            refine ⟨rfl, goes_call (f := 14) (args := #[.slice aa nn cc]) ?_ (HS1.out _ _ aa nn cc (T.later hb) hS)⟩
            simp [go_sem, e53]
          refine ⟨?_, ?_⟩
          · intro A w1 hb ho hd
            have e49 : A.tmps[49]?.getD undef = .int .u32 (more 0 (bs (a.extract 0 k)) : Nat) := getq (hd _ (Array.mem_of_getElem? (i := 0) rfl) rfl _ _ rfl rfl)
            have e54 : A.tmps[54]?.getD undef = .int .u32 (more 0 (bs (b.extract 0 k)) : Nat) := getq (hd _ (Array.mem_of_getElem? (i := 1) rfl) rfl _ _ rfl rfl)
            refine ⟨rfl, goes_value (v := .int .u32 ((more 0 (bs (a.extract 0 k)) ^^^ more 0 (bs (b.extract 0 k)) : Nat) : Int)) ?_ rfl⟩
            simp [go_sem, e49, e54, xab]
          refine ⟨?_, ?_⟩
          · intro A w1 hb ho hd
            have e2 : A.tmps[2]?.getD undef = .string c := olds_get ho 2 (by kernel_rfl)
            refine ⟨rfl, goes_value (v := .string c) ?_ rfl⟩
            simp [go_sem, e2]
          refine ⟨?_, ?_⟩
          · intro A w1 hb ho hd
            have e7 : A.tmps[7]?.getD undef = .int .i64 (k : Nat) := olds_get ho 7 (by kernel_rfl)
            refine ⟨rfl, goes_value (v := .int .i64 (k : Nat)) ?_ rfl⟩
            simp [go_sem, e7]
          refine ⟨?_, ?_⟩
          · intro A w1 hb ho hd
            have e56 : A.tmps[56]?.getD undef = .string c := getq (hd _ (Array.mem_of_getElem? (i := 0) rfl) rfl _ _ rfl rfl)
            have e57 : A.tmps[57]?.getD undef = .int .i64 (k : Nat) := getq (hd _ (Array.mem_of_getElem? (i := 1) rfl) rfl _ _ rfl rfl)
            refine ⟨rfl, goes_value (v := .string (c.extract 0 k)) ?_ rfl⟩
            simp [go_sem, e56, e57, nc]
          refine ⟨?_, ?_⟩
          · intro A w1 hb ho hd
            have e58 : A.tmps[58]?.getD undef = .string (c.extract 0 k) := getq (hd _ (Array.mem_of_getElem? (i := 0) rfl) rfl _ _ rfl rfl)
            refine ⟨rfl, goes_alloc (v := .slice (some ⟨w1.heap.size, 0, none⟩) 1 1) (o := .cells #[.string (c.extract 0 k)] 9) ?_ ⟨_, _, _, rfl, Ss.one w1 _ (by assumption) 9⟩⟩
            simp [go_sem, e58]
          refine ⟨?_, ?_⟩
          · intro A w1 hb ho hd
            obtain ⟨aa, nn, cc, ev, hS⟩ := hd _ (Array.mem_of_getElem? (i := 0) rfl) rfl _ _ rfl rfl
            have e59 := getq ev
            refine ⟨rfl, goes_call (f := 14) (args := #[.slice aa nn cc]) ?_ (HS1.out _ _ aa nn cc (T.later hb) hS)⟩
            simp [go_sem, e59]
          refine ⟨?_, ?_⟩
          · intro A w1 hb ho hd
            have e55 : A.tmps[55]?.getD undef = .int .u32 ((more 0 (bs (a.extract 0 k)) ^^^ more 0 (bs (b.extract 0 k)) : Nat) : Int) := getq (hd _ (Array.mem_of_getElem? (i := 0) rfl) rfl _ _ rfl rfl)
            have e60 : A.tmps[60]?.getD undef = .int .u32 (more 0 (bs (c.extract 0 k)) : Nat) := getq (hd _ (Array.mem_of_getElem? (i := 1) rfl) rfl _ _ rfl rfl)
            refine ⟨rfl, goes_value (v := .int .u32 ((more 0 (bs (a.extract 0 k)) ^^^ more 0 (bs (b.extract 0 k)) ^^^ more 0 (bs (c.extract 0 k)) : Nat) : Int)) ?_ rfl⟩
            simp [go_sem, e55, e60, xabc]
          refine ⟨?_, ?_⟩
          · intro A w1 hb ho hd
            have e44 : A.tmps[44]?.getD undef = .int .u32 (more 0 (bs (X)) : Nat) := getq (hd _ (Array.mem_of_getElem? (i := 0) rfl) rfl _ _ rfl rfl)
            have e61 : A.tmps[61]?.getD undef = .int .u32 ((more 0 (bs (a.extract 0 k)) ^^^ more 0 (bs (b.extract 0 k)) ^^^ more 0 (bs (c.extract 0 k)) : Nat) : Int) := getq (hd _ (Array.mem_of_getElem? (i := 1) rfl) rfl _ _ rfl rfl)
            refine ⟨rfl, goes_value (v := .bool true) ?_ rfl⟩
            simp [go_sem, e44, e61, hMX]
          refine ⟨?_, ?_⟩
          · intro A w1 hb ho hd
            have e62 : A.tmps[62]?.getD undef = .bool true := getq (hd _ (Array.mem_of_getElem? (i := 0) rfl) rfl _ _ rfl rfl)
            refine ⟨rfl, goes_value (v := .bool true) ?_ rfl⟩
            simp [go_sem, e62]
          refine ⟨?_, ?_⟩
          · intro A w1 hb ho hd
            refine ⟨want_true rfl rfl rfl (hd _ (Array.mem_of_getElem? (i := 0) rfl) rfl _ _ rfl rfl), goes_call (f := 12) (args := #[]) ?_ (awake_any _ (T.later hb))⟩
            simp [go_sem, ]
          refine ⟨?_, ?_⟩
          · intro A w1 hb ho hd
            have e63 : A.tmps[63]?.getD undef = .bool true := getq (hd _ (Array.mem_of_getElem? (i := 0) rfl) rfl _ _ rfl rfl)
            have e64 : A.tmps[64]?.getD undef = .bool true := getq (hd _ (Array.mem_of_getElem? (i := 1) rfl) rfl _ _ rfl rfl)
            refine ⟨rfl, goes_value (v := .bool true) ?_ rfl⟩
            simp [go_sem, e63, e64]
          refine ⟨?_, ?_⟩
          · intro A w1 hb ho hd
            have e65 : A.tmps[65]?.getD undef = .bool true := getq (hd _ (Array.mem_of_getElem? (i := 0) rfl) rfl _ _ rfl rfl)
            refine ⟨rfl, goes_value (v := .bool true) ?_ rfl⟩
            simp [go_sem, e65]
          trivial
        · intro A w1 hb hdf hsz ho hf
          have h6 : A.tmps.getD 6 undef = .bool true := hf 25 _ 6 rfl rfl
          refine hKK A w1 (wp_ret ?_)
          refine bodyPost_ret (v := .bool true) (by rw [results_tmp (t := 6) rfl, h6]) hdf ⟨rfl, hbr.trans (hb.mono hbr.size)⟩

end Cr
end Go.Proofs.YtbjhajomeegobaaDoor
