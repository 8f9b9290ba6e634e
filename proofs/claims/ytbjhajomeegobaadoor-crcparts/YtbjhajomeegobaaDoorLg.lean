/- A part of the proofs about package crc: what its functions answer, call by call. -/
import Derived.Test.YtbjhajomeegobaaDoorLf
namespace Go.Proofs.YtbjhajomeegobaaDoor
open Go.RowKit
namespace Cr

/-- A box holds two numbers. -/
structure Bx (w : World) (g : Nat) (x y : Int) : Prop where
  lt : g < w.heap.size
  c0 : w.cell? ⟨g, 0, none⟩ = some (.int .i64 x)
  c1 : w.cell? ⟨g, 1, none⟩ = some (.int .i64 y)
theorem Bx.later {w w' : World} {g : Nat} {x y : Int} (h : Bx w g x y) (hb : Below w.heap.size w w') : Bx w' g x y :=
  ⟨Nat.lt_of_lt_of_le h.lt hb.size, (hb.cell h.lt).trans h.c0, (hb.cell h.lt).trans h.c1⟩
theorem Bx.new (w : World) (x y : Int) (t : TypeId) : Bx (w.alloc (.cells #[.int .i64 x, .int .i64 y] t)) w.heap.size x y := ⟨by simp, by simp, by simp⟩
theorem more1 (c : Nat) (hc : c < 4294967296) (s : ByteArray) (h : s.size ≤ 9223372036854775807) (w : World) (T : Tab w) : Calls Tryd.prog 16 #[.int .u32 (c : Nat), .slice (some ⟨w.heap.size, 0, none⟩) 1 1] (w.alloc (.cells #[.string s] 9)) fun e w' => e = .returned (.int .u32 (more c (bs s) : Nat)) ∧ Below (w.alloc (.cells #[.string s] 9)).heap.size (w.alloc (.cells #[.string s] 9)) w' := by
  have hs := more_any c hc (some ⟨w.heap.size, 0, none⟩) 1 1 [s] (w.alloc (.cells #[.string s] 9)) (T.later (below_alloc _ _)) (Ss.one w s h 9)
  rw [show jn [s] = bs s by simp [jn]] at hs
  exact same_b hs
set_option maxRecDepth 100000 in
set_option maxHeartbeats 2000000 in
theorem crcParts_walk (a : Option Addr) (n cap : Nat) (xs : List ByteArray) (c : Nat) (x y : Int) (W : World) (T : Tab W) (h : Ss W a n xs) (hc : c < 4294967296) (hx : -9223372036854775808 ≤ x ∧ x ≤ 9223372036854775807) (hy : -9223372036854775808 ≤ y ∧ y ≤ 9223372036854775807) :
    Calls Tryd.prog 6 #[.slice a n cap, .int .u32 (c : Nat), .agg #[.int .i64 x, .int .i64 y]] W fun e w' => e = .returned (.bool true) ∧ Below W.heap.size W w' := by
  have bx := Bx.new W x y 43
  have Bb := below_alloc W (.cells #[.int .i64 x, .int .i64 y] 43)
  replace T := T.later Bb
  replace h := h.later Bb
  have hn := h.most
  have hf : ∀ w, Ss w a n xs → _ := fun w h => same_b (few_any a n cap xs w h)
  cases hfx : fewB xs with
  | false =>
    rw [hfx] at hf
    go_enter Tryd.func6, Tryd.ntmps6
    have BB := Bb
    go_wp2_with fail
    refine (hf _ h).mono ?_
    rintro e wv1 ⟨rfl, hv1⟩
    replace T := T.later hv1
    replace h := h.later hv1
    replace bx := bx.later hv1
    replace BB := BB.trans (hv1.mono BB.size)
    clear hv1
    go_wp2_with fail
    refine (awake_any _ T).mono ?_
    rintro e wv2 ⟨rfl, hv2⟩
    replace T := T.later hv2
    replace BB := BB.trans (hv2.mono BB.size)
    clear hv2
    go_wp2
    go_ret
    exact ⟨rfl, BB⟩
  | true =>
    rw [hfx] at hf
    by_cases h1 : x < 0
    · go_enter Tryd.func6, Tryd.ntmps6
      have BB := Bb
      go_wp2_with fail
      refine (hf _ h).mono ?_
      rintro e wv1 ⟨rfl, hv1⟩
      replace T := T.later hv1
      replace h := h.later hv1
      replace bx := bx.later hv1
      replace BB := BB.trans (hv1.mono BB.size)
      clear hv1
      have b0 := bx.c0
      have b1 := bx.c1
      go_wp2_with fail
      refine (awake_any _ T).mono ?_
      rintro e wv2 ⟨rfl, hv2⟩
      replace T := T.later hv2
      replace BB := BB.trans (hv2.mono BB.size)
      clear hv2
      go_wp2
      go_ret
      exact ⟨rfl, BB⟩
    · by_cases h2 : 1000000 < x
      · go_enter Tryd.func6, Tryd.ntmps6
        have BB := Bb
        go_wp2_with fail
        refine (hf _ h).mono ?_
        rintro e wv1 ⟨rfl, hv1⟩
        replace T := T.later hv1
        replace h := h.later hv1
        replace bx := bx.later hv1
        replace BB := BB.trans (hv1.mono BB.size)
        clear hv1
        have b0 := bx.c0
        have b1 := bx.c1
        go_wp2_with fail
        refine (awake_any _ T).mono ?_
        rintro e wv2 ⟨rfl, hv2⟩
        replace T := T.later hv2
        replace BB := BB.trans (hv2.mono BB.size)
        clear hv2
        go_wp2
        go_ret
        exact ⟨rfl, BB⟩
      · by_cases h3 : y < 0
        · go_enter Tryd.func6, Tryd.ntmps6
          have BB := Bb
          go_wp2_with fail
          refine (hf _ h).mono ?_
          rintro e wv1 ⟨rfl, hv1⟩
          replace T := T.later hv1
          replace h := h.later hv1
          replace bx := bx.later hv1
          replace BB := BB.trans (hv1.mono BB.size)
          clear hv1
          have b0 := bx.c0
          have b1 := bx.c1
          go_wp2_with fail
          refine (awake_any _ T).mono ?_
          rintro e wv2 ⟨rfl, hv2⟩
          replace T := T.later hv2
          replace BB := BB.trans (hv2.mono BB.size)
          clear hv2
          go_wp2
          go_ret
          exact ⟨rfl, BB⟩
        · by_cases h4 : 1000000 < y
          · go_enter Tryd.func6, Tryd.ntmps6
            have BB := Bb
            go_wp2_with fail
            refine (hf _ h).mono ?_
            rintro e wv1 ⟨rfl, hv1⟩
            replace T := T.later hv1
            replace h := h.later hv1
            replace bx := bx.later hv1
            replace BB := BB.trans (hv1.mono BB.size)
            clear hv1
            have b0 := bx.c0
            have b1 := bx.c1
            go_wp2_with fail
            refine (awake_any _ T).mono ?_
            rintro e wv2 ⟨rfl, hv2⟩
            replace T := T.later hv2
            replace BB := BB.trans (hv2.mono BB.size)
            clear hv2
            go_wp2
            go_ret
            exact ⟨rfl, BB⟩
          · have q1 : decide (x < 0) = false := decide_eq_false h1
            have q2 : decide (1000000 < x) = false := decide_eq_false h2
            have q3 : decide (y < 0) = false := decide_eq_false h3
            have q4 : decide (1000000 < y) = false := decide_eq_false h4
            have HF := hide hfx
            clear hfx
            go_enter Tryd.func6, Tryd.ntmps6
            have BB := Bb
            go_wp2_with fail
            refine (hf _ h).mono ?_
            rintro e wv1 ⟨rfl, hv1⟩
            replace T := T.later hv1
            replace h := h.later hv1
            replace bx := bx.later hv1
            replace BB := BB.trans (hv1.mono BB.size)
            clear hv1
            have b0 := bx.c0
            have b1 := bx.c1
            go_wp2
            have T1 := hide T
            have h1' := hide h
            have bx1 := hide bx
            clear T h bx hf b0 b1 q1 q2 q3 q4
            obtain ⟨X, rfl⟩ := Int.eq_ofNat_of_zero_le (show 0 ≤ x by omega)
            obtain ⟨Y, rfl⟩ := Int.eq_ofNat_of_zero_le (show 0 ≤ y by omega)
            have hXY : -9223372036854775808 ≤ (X : Int) + (Y : Int) ∧ (X : Int) + (Y : Int) ≤ 9223372036854775807 := by omega
            have HW : Hid (IntKind.i64.wrap ((X : Int) + (Y : Int)) = (X : Int) + (Y : Int)) := by show _ = _; rw [IntKind.wrap_i64]; omega
            clear h1 h2 h3 h4
            go_loopw [7, 8] (fun v i wr => ∃ k : Nat, k ≤ n ∧ i = .int .i64 k ∧ v = .int .u32 (more 0 (jn (xs.take k)) : Nat) ∧ Below W.heap.size W wr ∧ Tab wr ∧ Ss wr a n xs ∧ Bx wr W.heap.size X Y) (fun _ i _ => n - (intOf i).toNat)
            case atStart => exact ⟨0, Nat.zero_le _, rfl, by rw [show more 0 (jn (xs.take 0)) = 0 from more_nil (by omega)]; rfl, BB, T1.out, h1'.out, bx1.out⟩
            case round =>
              clear T1 h1' bx1 BB
              obtain ⟨k, hk, rfl, rfl, hbr, T, h, bx⟩ := hrel
              have hlen := h.len
              by_cases hlt : k < n
              · obtain ⟨s, hs⟩ : ∃ s, xs[k]? = some s := ⟨_, List.getElem?_eq_getElem (by omega)⟩
                obtain ⟨b, off, rfl, hbl, c0⟩ := h.cells k s hs
                have hsz := h.fit s (List.mem_of_getElem? hs)
                have HE : Hid (more (more 0 (jn (xs.take k))) (bs s) = more 0 (jn (xs.take (k + 1)))) := by
                  show _ = _
                  rw [jn_take_succ hs, more_append _ _ (jn_lt _)]
                have hml := more_lt 0 (jn (xs.take k))
                have c1 := more1 (more 0 (jn (xs.take k))) hml s hsz wr T
                clear hs hlen
                generalize more 0 (jn (xs.take k)) = M at *
                go_wp2_with fail
                refine c1.mono ?_
                rintro e w2 ⟨rfl, hb2⟩
                replace hb2 := below_new1 hb2
                have R1 := hide (hbr.trans (hb2.mono hbr.size))
                have R2 := hide (T.later hb2)
                have R3 := hide (h.later hb2)
                have R4 := hide (bx.later hb2)
                clear c1 hb2 hbr T h bx
                go_wp2
                go_roundw
                case rel => exact ⟨k + 1, by omega, by go_num, by rw [HE.out], R1.out, R2.out, R3.out, R4.out⟩
                case measure => simp [intOf]; omega
              · have HM : Hid (more 0 (jn (xs.take k)) = more 0 (jn xs)) := by
                  show _ = _
                  rw [List.take_of_length_le (by omega)]
                clear hlen
                have zJ : (str (jn xs)).size ≤ 9223372036854775807 := by
                  rw [str_size]
                  have := fewB_jn HF.out xs.length
                  rw [List.take_length] at this
                  omega
                have hbJ := bs_str (jn_lt xs)
                have C1 : ∀ w, Below wr.heap.size wr w → _ := fun w hb => same_b (sum_any a n cap xs w (T.later hb) (h.later hb))
                have C2 : ∀ w, Below wr.heap.size wr w → _ := fun w hb => same_b (joined_any a n cap xs w (h.later hb) HF)
                have HS1 : Hid (∀ (w : World) (aa : Option Addr) (nn cc : Nat), Tab w → Ss w aa nn [str (jn xs)] → Calls Tryd.prog 14 #[.slice aa nn cc] w fun e w' => e = .returned (.int .u32 (more 0 (jn xs) : Nat)) ∧ Below w.heap.size w w') := fun w aa nn cc T h => by
                  have := sum_any aa nn cc [str (jn xs)] w T h
                  rw [show jn [str (jn xs)] = jn xs by simp [jn, hbJ]] at this
                  exact same_b this
                have C3 : ∀ w, _ := fun w => zeros_any c hc (X : Int) hx w
                have C4 : ∀ w, _ := fun w => zeros_any (zer c X) (zer_lt _ _) (Y : Int) hy w
                have C5 : ∀ w, _ := fun w => zeros_any c hc ((X : Int) + (Y : Int)) hXY w
                rw [show ((X : Int) + (Y : Int)).toNat = X + Y by omega] at C5
                rw [Int.toNat_natCast] at C3 C4
                rw [zer_add] at C4
                rw [HM.out]
                have D0 : ∀ w, Below wr.heap.size wr w → w.cell? ⟨W.heap.size, 0, none⟩ = some (.int .i64 (X : Nat)) := fun w hb => (bx.later hb).c0
                have D1 : ∀ w, Below wr.heap.size wr w → w.cell? ⟨W.heap.size, 1, none⟩ = some (.int .i64 (Y : Nat)) := fun w hb => (bx.later hb).c1
                clear HM
                generalize str (jn xs) = J at *
                generalize more 0 (jn xs) = M at *
                go_wp2
                rename_i KK hKK
                refine wp_region_specs [.val (.int .u32 (M : Nat)), .val (.slice a n cap), .val (.int .u32 (M : Nat)), .val (.bool true), .val (.bool true), .val (.int .u32 (M : Nat)), .val (.slice a n cap), .val (.string J), .strs [J], .val (.int .u32 (M : Nat)), .val (.bool true), .val (.bool true), .val (.bool true), .val (.int .u32 (c : Nat)), .val (.pointer (some ⟨W.heap.size, 0, none⟩)), .val (.int .i64 (X : Nat)), .val (.int .u32 (zer c X : Nat)), .val (.pointer (some ⟨W.heap.size, 1, none⟩)), .val (.int .i64 (Y : Nat)), .val (.int .u32 (zer c (X + Y) : Nat)), .val (.int .u32 (c : Nat)), .val (.pointer (some ⟨W.heap.size, 0, none⟩)), .val (.int .i64 (X : Nat)), .val (.pointer (some ⟨W.heap.size, 1, none⟩)), .val (.int .i64 (Y : Nat)), .val (.int .i64 ((X : Int) + (Y : Int))), .val (.int .u32 (zer c (X + Y) : Nat)), .val (.bool true), .val (.bool true), .val (.bool true), .val (.bool true), .val (.bool true), .val (.bool true)] (by kernel_rfl) (by kernel_rfl) ?_ ?_
                · skip
                  refine ⟨?_, ?_⟩
                  · intro A w1 hb ho hd
                    have e7 : A.tmps[7]?.getD undef = .int .u32 (M : Nat) := olds_get ho 7 (by kernel_rfl)
                    refine ⟨rfl, goes_value (v := .int .u32 (M : Nat)) ?_ rfl⟩
                    simp [go_sem, e7]
                  refine ⟨?_, ?_⟩
                  · intro A w1 hb ho hd
                    have e0 : A.tmps[0]?.getD undef = .slice a n cap := olds_get ho 0 (by kernel_rfl)
                    refine ⟨rfl, goes_value (v := .slice a n cap) ?_ rfl⟩
                    simp [go_sem, e0]
                  refine ⟨?_, ?_⟩
                  · intro A w1 hb ho hd
                    have e47 : A.tmps[47]?.getD undef = .slice a n cap := getq (hd _ (Array.mem_of_getElem? (i := 0) rfl) rfl _ _ rfl rfl)
                    refine ⟨rfl, goes_call (f := 14) (args := #[.slice a n cap]) ?_ (C1 _ hb)⟩
                    simp [go_sem, e47]
                  refine ⟨?_, ?_⟩
                  · intro A w1 hb ho hd
                    have e46 : A.tmps[46]?.getD undef = .int .u32 (M : Nat) := getq (hd _ (Array.mem_of_getElem? (i := 0) rfl) rfl _ _ rfl rfl)
                    have e48 : A.tmps[48]?.getD undef = .int .u32 (M : Nat) := getq (hd _ (Array.mem_of_getElem? (i := 1) rfl) rfl _ _ rfl rfl)
                    refine ⟨rfl, goes_value (v := .bool true) ?_ rfl⟩
                    simp [go_sem, e46, e48]
                  refine ⟨?_, ?_⟩
                  · intro A w1 hb ho hd
                    have e49 : A.tmps[49]?.getD undef = .bool true := getq (hd _ (Array.mem_of_getElem? (i := 0) rfl) rfl _ _ rfl rfl)
                    refine ⟨rfl, goes_value (v := .bool true) ?_ rfl⟩
                    simp [go_sem, e49]
                  refine ⟨?_, ?_⟩
                  · intro A w1 hb ho hd
                    have e7 : A.tmps[7]?.getD undef = .int .u32 (M : Nat) := olds_get ho 7 (by kernel_rfl)
                    refine ⟨want_true rfl rfl rfl (hd _ (Array.mem_of_getElem? (i := 0) rfl) rfl _ _ rfl rfl), goes_value (v := .int .u32 (M : Nat)) ?_ rfl⟩
                    simp [go_sem, e7]
                  refine ⟨?_, ?_⟩
                  · intro A w1 hb ho hd
                    have e0 : A.tmps[0]?.getD undef = .slice a n cap := olds_get ho 0 (by kernel_rfl)
                    refine ⟨want_true rfl rfl rfl (hd _ (Array.mem_of_getElem? (i := 0) rfl) rfl _ _ rfl rfl), goes_value (v := .slice a n cap) ?_ rfl⟩
                    simp [go_sem, e0]
                  refine ⟨?_, ?_⟩
                  · intro A w1 hb ho hd
                    have e52 : A.tmps[52]?.getD undef = .slice a n cap := getq (hd _ (Array.mem_of_getElem? (i := 0) rfl) rfl _ _ rfl rfl)
                    refine ⟨want_true rfl rfl rfl (hd _ (Array.mem_of_getElem? (i := 1) rfl) rfl _ _ rfl rfl), goes_call (f := 13) (args := #[.slice a n cap]) ?_ (C2 _ hb)⟩
                    simp [go_sem, e52]
                  refine ⟨?_, ?_⟩
                  · intro A w1 hb ho hd
                    have e53 : A.tmps[53]?.getD undef = .string J := getq (hd _ (Array.mem_of_getElem? (i := 0) rfl) rfl _ _ rfl rfl)
                    refine ⟨want_true rfl rfl rfl (hd _ (Array.mem_of_getElem? (i := 1) rfl) rfl _ _ rfl rfl), goes_alloc (v := .slice (some ⟨w1.heap.size, 0, none⟩) 1 1) (o := .cells #[.string (J)] 9) ?_ ⟨_, _, _, rfl, Ss.one w1 _ (by assumption) 9⟩⟩
                    simp [go_sem, e53]
                  refine ⟨?_, ?_⟩
                  · intro A w1 hb ho hd
                    obtain ⟨aa, nn, cc, ev, hS⟩ := hd _ (Array.mem_of_getElem? (i := 0) rfl) rfl _ _ rfl rfl
                    have e54 := getq ev
                    refine ⟨want_true rfl rfl rfl (hd _ (Array.mem_of_getElem? (i := 2) rfl) rfl _ _ rfl rfl), goes_call (f := 14) (args := #[.slice aa nn cc]) ?_ (HS1.out _ aa nn cc (T.later hb) hS)⟩
                    simp [go_sem, e54]
                  refine ⟨?_, ?_⟩
                  · intro A w1 hb ho hd
                    have e51 : A.tmps[51]?.getD undef = .int .u32 (M : Nat) := getq (hd _ (Array.mem_of_getElem? (i := 0) rfl) rfl _ _ rfl rfl)
                    have e55 : A.tmps[55]?.getD undef = .int .u32 (M : Nat) := getq (hd _ (Array.mem_of_getElem? (i := 1) rfl) rfl _ _ rfl rfl)
                    refine ⟨want_true rfl rfl rfl (hd _ (Array.mem_of_getElem? (i := 2) rfl) rfl _ _ rfl rfl), goes_value (v := .bool true) ?_ rfl⟩
                    simp [go_sem, e51, e55]
                  refine ⟨?_, ?_⟩
                  · intro A w1 hb ho hd
                    have e50 : A.tmps[50]?.getD undef = .bool true := getq (hd _ (Array.mem_of_getElem? (i := 0) rfl) rfl _ _ rfl rfl)
                    have e56 : A.tmps[56]?.getD undef = .bool true := getq (hd _ (Array.mem_of_getElem? (i := 1) rfl) rfl _ _ rfl rfl)
                    refine ⟨rfl, goes_value (v := .bool true) ?_ rfl⟩
                    simp [go_sem, e50, e56]
                  refine ⟨?_, ?_⟩
                  · intro A w1 hb ho hd
                    have e57 : A.tmps[57]?.getD undef = .bool true := getq (hd _ (Array.mem_of_getElem? (i := 0) rfl) rfl _ _ rfl rfl)
                    refine ⟨rfl, goes_value (v := .bool true) ?_ rfl⟩
                    simp [go_sem, e57]
                  refine ⟨?_, ?_⟩
                  · intro A w1 hb ho hd
                    have e1 : A.tmps[1]?.getD undef = .int .u32 (c : Nat) := olds_get ho 1 (by kernel_rfl)
                    refine ⟨want_true rfl rfl rfl (hd _ (Array.mem_of_getElem? (i := 0) rfl) rfl _ _ rfl rfl), goes_value (v := .int .u32 (c : Nat)) ?_ rfl⟩
                    simp [go_sem, e1]
                  refine ⟨?_, ?_⟩
                  · intro A w1 hb ho hd
                    have e5 : A.tmps[5]?.getD undef = .pointer (some ⟨W.heap.size, 0, none⟩) := olds_get ho 5 (by kernel_rfl)
                    refine ⟨want_true rfl rfl rfl (hd _ (Array.mem_of_getElem? (i := 0) rfl) rfl _ _ rfl rfl), goes_value (v := .pointer (some ⟨W.heap.size, 0, none⟩)) ?_ rfl⟩
                    simp [go_sem, e5]
                  refine ⟨?_, ?_⟩
                  · intro A w1 hb ho hd
                    have e60 : A.tmps[60]?.getD undef = .pointer (some ⟨W.heap.size, 0, none⟩) := getq (hd _ (Array.mem_of_getElem? (i := 0) rfl) rfl _ _ rfl rfl)
                    refine ⟨want_true rfl rfl rfl (hd _ (Array.mem_of_getElem? (i := 1) rfl) rfl _ _ rfl rfl), goes_value (v := .int .i64 (X : Nat)) ?_ rfl⟩
                    simp [go_sem, e60, D0 w1 hb]
                  refine ⟨?_, ?_⟩
                  · intro A w1 hb ho hd
                    have e59 : A.tmps[59]?.getD undef = .int .u32 (c : Nat) := getq (hd _ (Array.mem_of_getElem? (i := 0) rfl) rfl _ _ rfl rfl)
                    have e61 : A.tmps[61]?.getD undef = .int .i64 (X : Nat) := getq (hd _ (Array.mem_of_getElem? (i := 1) rfl) rfl _ _ rfl rfl)
                    refine ⟨want_true rfl rfl rfl (hd _ (Array.mem_of_getElem? (i := 2) rfl) rfl _ _ rfl rfl), goes_call (f := 19) (args := #[.int .u32 (c : Nat), .int .i64 (X : Nat)]) ?_ (C3 _)⟩
                    simp [go_sem, e59, e61]
                  refine ⟨?_, ?_⟩
                  · intro A w1 hb ho hd
                    have e5 : A.tmps[5]?.getD undef = .pointer (some ⟨W.heap.size, 0, none⟩) := olds_get ho 5 (by kernel_rfl)
                    refine ⟨want_true rfl rfl rfl (hd _ (Array.mem_of_getElem? (i := 0) rfl) rfl _ _ rfl rfl), goes_value (v := .pointer (some ⟨W.heap.size, 1, none⟩)) ?_ rfl⟩
                    simp [go_sem, e5]
                  refine ⟨?_, ?_⟩
                  · intro A w1 hb ho hd
                    have e63 : A.tmps[63]?.getD undef = .pointer (some ⟨W.heap.size, 1, none⟩) := getq (hd _ (Array.mem_of_getElem? (i := 0) rfl) rfl _ _ rfl rfl)
                    refine ⟨want_true rfl rfl rfl (hd _ (Array.mem_of_getElem? (i := 1) rfl) rfl _ _ rfl rfl), goes_value (v := .int .i64 (Y : Nat)) ?_ rfl⟩
                    simp [go_sem, e63, D1 w1 hb]
                  refine ⟨?_, ?_⟩
                  · intro A w1 hb ho hd
                    have e62 : A.tmps[62]?.getD undef = .int .u32 (zer c X : Nat) := getq (hd _ (Array.mem_of_getElem? (i := 0) rfl) rfl _ _ rfl rfl)
                    have e64 : A.tmps[64]?.getD undef = .int .i64 (Y : Nat) := getq (hd _ (Array.mem_of_getElem? (i := 1) rfl) rfl _ _ rfl rfl)
                    refine ⟨want_true rfl rfl rfl (hd _ (Array.mem_of_getElem? (i := 3) rfl) rfl _ _ rfl rfl), goes_call (f := 19) (args := #[.int .u32 (zer c X : Nat), .int .i64 (Y : Nat)]) ?_ (C4 _)⟩
                    simp [go_sem, e62, e64]
                  refine ⟨?_, ?_⟩
                  · intro A w1 hb ho hd
                    have e1 : A.tmps[1]?.getD undef = .int .u32 (c : Nat) := olds_get ho 1 (by kernel_rfl)
                    refine ⟨want_true rfl rfl rfl (hd _ (Array.mem_of_getElem? (i := 0) rfl) rfl _ _ rfl rfl), goes_value (v := .int .u32 (c : Nat)) ?_ rfl⟩
                    simp [go_sem, e1]
                  refine ⟨?_, ?_⟩
                  · intro A w1 hb ho hd
                    have e5 : A.tmps[5]?.getD undef = .pointer (some ⟨W.heap.size, 0, none⟩) := olds_get ho 5 (by kernel_rfl)
                    refine ⟨want_true rfl rfl rfl (hd _ (Array.mem_of_getElem? (i := 0) rfl) rfl _ _ rfl rfl), goes_value (v := .pointer (some ⟨W.heap.size, 0, none⟩)) ?_ rfl⟩
                    simp [go_sem, e5]
                  refine ⟨?_, ?_⟩
                  · intro A w1 hb ho hd
                    have e67 : A.tmps[67]?.getD undef = .pointer (some ⟨W.heap.size, 0, none⟩) := getq (hd _ (Array.mem_of_getElem? (i := 0) rfl) rfl _ _ rfl rfl)
                    refine ⟨want_true rfl rfl rfl (hd _ (Array.mem_of_getElem? (i := 1) rfl) rfl _ _ rfl rfl), goes_value (v := .int .i64 (X : Nat)) ?_ rfl⟩
                    simp [go_sem, e67, D0 w1 hb]
                  refine ⟨?_, ?_⟩
                  · intro A w1 hb ho hd
                    have e5 : A.tmps[5]?.getD undef = .pointer (some ⟨W.heap.size, 0, none⟩) := olds_get ho 5 (by kernel_rfl)
                    refine ⟨want_true rfl rfl rfl (hd _ (Array.mem_of_getElem? (i := 0) rfl) rfl _ _ rfl rfl), goes_value (v := .pointer (some ⟨W.heap.size, 1, none⟩)) ?_ rfl⟩
                    simp [go_sem, e5]
                  refine ⟨?_, ?_⟩
                  · intro A w1 hb ho hd
                    have e69 : A.tmps[69]?.getD undef = .pointer (some ⟨W.heap.size, 1, none⟩) := getq (hd _ (Array.mem_of_getElem? (i := 0) rfl) rfl _ _ rfl rfl)
                    refine ⟨want_true rfl rfl rfl (hd _ (Array.mem_of_getElem? (i := 1) rfl) rfl _ _ rfl rfl), goes_value (v := .int .i64 (Y : Nat)) ?_ rfl⟩
                    simp [go_sem, e69, D1 w1 hb]
                  refine ⟨?_, ?_⟩
                  · intro A w1 hb ho hd
                    have e68 : A.tmps[68]?.getD undef = .int .i64 (X : Nat) := getq (hd _ (Array.mem_of_getElem? (i := 0) rfl) rfl _ _ rfl rfl)
                    have e70 : A.tmps[70]?.getD undef = .int .i64 (Y : Nat) := getq (hd _ (Array.mem_of_getElem? (i := 1) rfl) rfl _ _ rfl rfl)
                    have hw := HW.out
                    refine ⟨want_true rfl rfl rfl (hd _ (Array.mem_of_getElem? (i := 2) rfl) rfl _ _ rfl rfl), goes_value (v := .int .i64 ((X : Int) + (Y : Int))) ?_ rfl⟩
                    simp [go_sem, e68, e70, hw]
                  refine ⟨?_, ?_⟩
                  · intro A w1 hb ho hd
                    have e66 : A.tmps[66]?.getD undef = .int .u32 (c : Nat) := getq (hd _ (Array.mem_of_getElem? (i := 0) rfl) rfl _ _ rfl rfl)
                    have e71 : A.tmps[71]?.getD undef = .int .i64 ((X : Int) + (Y : Int)) := getq (hd _ (Array.mem_of_getElem? (i := 1) rfl) rfl _ _ rfl rfl)
                    refine ⟨want_true rfl rfl rfl (hd _ (Array.mem_of_getElem? (i := 3) rfl) rfl _ _ rfl rfl), goes_call (f := 19) (args := #[.int .u32 (c : Nat), .int .i64 ((X : Int) + (Y : Int))]) ?_ (C5 _)⟩
                    simp [go_sem, e66, e71]
                  refine ⟨?_, ?_⟩
                  · intro A w1 hb ho hd
                    have e65 : A.tmps[65]?.getD undef = .int .u32 (zer c (X + Y) : Nat) := getq (hd _ (Array.mem_of_getElem? (i := 0) rfl) rfl _ _ rfl rfl)
                    have e72 : A.tmps[72]?.getD undef = .int .u32 (zer c (X + Y) : Nat) := getq (hd _ (Array.mem_of_getElem? (i := 1) rfl) rfl _ _ rfl rfl)
                    refine ⟨want_true rfl rfl rfl (hd _ (Array.mem_of_getElem? (i := 2) rfl) rfl _ _ rfl rfl), goes_value (v := .bool true) ?_ rfl⟩
                    simp [go_sem, e65, e72]
                  refine ⟨?_, ?_⟩
                  · intro A w1 hb ho hd
                    have e58 : A.tmps[58]?.getD undef = .bool true := getq (hd _ (Array.mem_of_getElem? (i := 0) rfl) rfl _ _ rfl rfl)
                    have e73 : A.tmps[73]?.getD undef = .bool true := getq (hd _ (Array.mem_of_getElem? (i := 1) rfl) rfl _ _ rfl rfl)
                    refine ⟨rfl, goes_value (v := .bool true) ?_ rfl⟩
                    simp [go_sem, e58, e73]
                  refine ⟨?_, ?_⟩
                  · intro A w1 hb ho hd
                    have e74 : A.tmps[74]?.getD undef = .bool true := getq (hd _ (Array.mem_of_getElem? (i := 0) rfl) rfl _ _ rfl rfl)
                    refine ⟨rfl, goes_value (v := .bool true) ?_ rfl⟩
                    simp [go_sem, e74]
                  refine ⟨?_, ?_⟩
                  · intro A w1 hb ho hd
                    refine ⟨want_true rfl rfl rfl (hd _ (Array.mem_of_getElem? (i := 0) rfl) rfl _ _ rfl rfl), goes_call (f := 12) (args := #[]) ?_ (awake_any _ (T.later hb))⟩
                    simp [go_sem, ]
                  refine ⟨?_, ?_⟩
                  · intro A w1 hb ho hd
                    have e75 : A.tmps[75]?.getD undef = .bool true := getq (hd _ (Array.mem_of_getElem? (i := 0) rfl) rfl _ _ rfl rfl)
                    have e76 : A.tmps[76]?.getD undef = .bool true := getq (hd _ (Array.mem_of_getElem? (i := 1) rfl) rfl _ _ rfl rfl)
                    refine ⟨rfl, goes_value (v := .bool true) ?_ rfl⟩
                    simp [go_sem, e75, e76]
                  refine ⟨?_, ?_⟩
                  · intro A w1 hb ho hd
                    have e77 : A.tmps[77]?.getD undef = .bool true := getq (hd _ (Array.mem_of_getElem? (i := 0) rfl) rfl _ _ rfl rfl)
                    refine ⟨rfl, goes_value (v := .bool true) ?_ rfl⟩
                    simp [go_sem, e77]
                  trivial
                · intro A w1 hb hdf hsz ho hf
                  have h6 : A.tmps.getD 6 undef = .bool true := hf 32 _ 6 rfl rfl
                  refine hKK A w1 (wp_ret ?_)
                  refine bodyPost_ret (v := .bool true) (by rw [results_tmp (t := 6) rfl, h6]) hdf ⟨rfl, hbr.trans (hb.mono hbr.size)⟩

end Cr
end Go.Proofs.YtbjhajomeegobaaDoor
