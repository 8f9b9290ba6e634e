/- A part of the proofs about package crc: what its functions answer, call by call. -/
import Derived.Test.YtbjhajomeegobaaDoorLg
import Derived.Test.YtbjhajomeegobaaDoorRj
namespace Go.Proofs.YtbjhajomeegobaaDoor
open Go.RowKit
namespace Cr

theorem cut2 (s : ByteArray) {n : Nat} (h : s.size ≤ 100) : (s.extract 0 n).size ≤ 9223372036854775807 ∧ (s.extract n s.size).size ≤ 9223372036854775807 := by
  constructor <;> simp <;> omega
theorem key2 (p q : ByteArray) (hp : p.size ≤ 9223372036854775807) (hq : q.size ≤ 9223372036854775807) (w : World) : Calls Tryd.prog 17 #[.slice (some ⟨w.heap.size, 0, none⟩) 2 2] (w.alloc (.cells #[.string p, .string q] 9)) fun e w' => e = .returned (.int .u64 (keyL 14695981039346656037 [p, q] : Nat)) ∧ Below (w.alloc (.cells #[.string p, .string q] 9)).heap.size (w.alloc (.cells #[.string p, .string q] 9)) w' :=
  same_b (key_any _ 2 2 [p, q] _ (Ss.two w p q hp hq 9))
set_option maxRecDepth 100000 in
set_option maxHeartbeats 2000000 in
theorem crcKeys_walk (s : ByteArray) (x y : Int) (W : World) (T : Tab W) (hs : s.size ≤ 9223372036854775807) (hx : -9223372036854775808 ≤ x ∧ x ≤ 9223372036854775807) (hy : -9223372036854775808 ≤ y ∧ y ≤ 9223372036854775807) :
    Calls Tryd.prog 8 #[.string s, .agg #[.int .i64 x, .int .i64 y]] W fun e w' => e = .returned (.bool true) ∧ Below W.heap.size W w' := by
  have bx := Bx.new W x y 43
  have Bb := below_alloc W (.cells #[.int .i64 x, .int .i64 y] 43)
  replace T := T.later Bb
  have b0 := bx.c0
  have b1 := bx.c1
  by_cases h0 : 100 < s.size
  · go_enter Tryd.func8, Tryd.ntmps8
    have BB := Bb
    go_wp2_with fail
    refine (awake_any _ T).mono ?_
    rintro e wv1 ⟨rfl, hv1⟩
    replace T := T.later hv1
    replace BB := BB.trans (hv1.mono BB.size)
    clear hv1
    go_wp2
    go_ret
    exact ⟨rfl, BB⟩
  · by_cases h1 : x < 0
    · go_enter Tryd.func8, Tryd.ntmps8
      have BB := Bb
      go_wp2_with fail
      refine (awake_any _ T).mono ?_
      rintro e wv1 ⟨rfl, hv1⟩
      replace T := T.later hv1
      replace BB := BB.trans (hv1.mono BB.size)
      clear hv1
      go_wp2
      go_ret
      exact ⟨rfl, BB⟩
    · by_cases h2 : y < 0
      · go_enter Tryd.func8, Tryd.ntmps8
        have BB := Bb
        go_wp2_with fail
        refine (awake_any _ T).mono ?_
        rintro e wv1 ⟨rfl, hv1⟩
        replace T := T.later hv1
        replace BB := BB.trans (hv1.mono BB.size)
        clear hv1
        go_wp2
        go_ret
        exact ⟨rfl, BB⟩
      · by_cases h3 : (s.size : Int) < x
        · go_enter Tryd.func8, Tryd.ntmps8
          have BB := Bb
          go_wp2_with fail
          refine (awake_any _ T).mono ?_
          rintro e wv1 ⟨rfl, hv1⟩
          replace T := T.later hv1
          replace BB := BB.trans (hv1.mono BB.size)
          clear hv1
          go_wp2
          go_ret
          exact ⟨rfl, BB⟩
        · by_cases h4 : (s.size : Int) < y
          · go_enter Tryd.func8, Tryd.ntmps8
            have BB := Bb
            go_wp2_with fail
            refine (awake_any _ T).mono ?_
            rintro e wv1 ⟨rfl, hv1⟩
            replace T := T.later hv1
            replace BB := BB.trans (hv1.mono BB.size)
            clear hv1
            go_wp2
            go_ret
            exact ⟨rfl, BB⟩
          · obtain ⟨X, rfl⟩ := Int.eq_ofNat_of_zero_le (show 0 ≤ x by omega)
            obtain ⟨Y, rfl⟩ := Int.eq_ofNat_of_zero_le (show 0 ≤ y by omega)
            have hX : X ≤ s.size := by omega
            have hY : Y ≤ s.size := by omega
            have d0 : decide (100 < (s.size : Int)) = false := decide_eq_false (by omega)
            have d1 : decide ((X : Int) < 0) = false := decide_eq_false h1
            have d2 : decide ((Y : Int) < 0) = false := decide_eq_false h2
            have d3 : decide ((s.size : Int) < (X : Int)) = false := decide_eq_false h3
            have d4 : decide ((s.size : Int) < (Y : Int)) = false := decide_eq_false h4
            obtain ⟨zX1, zX2⟩ := cut2 s (n := X) (by omega)
            obtain ⟨zY1, zY2⟩ := cut2 s (n := Y) (by omega)
            have kX : ∀ w, _ := fun w => key2 _ _ zX1 zX2 w
            have kY : ∀ w, _ := fun w => key2 _ _ zY1 zY2 w
            have HR1 : Hid (∀ (w : World) (aa : Option Addr) (nn cc : Nat), Ss w aa nn [s.extract 0 X, s.extract X s.size] → Calls Tryd.prog 18 #[.slice aa nn cc] w fun e w' => e = .returned (.int .u64 (keyL 14695981039346656037 [s.extract 0 X, s.extract X s.size] : Nat)) ∧ Below w.heap.size w w') := fun w aa nn cc h => same_b (rkey_any aa nn cc _ w h)
            have HR2 : Hid (∀ (w : World) (aa : Option Addr) (nn cc : Nat), Ss w aa nn [s.extract 0 Y, s.extract Y s.size] → Calls Tryd.prog 18 #[.slice aa nn cc] w fun e w' => e = .returned (.int .u64 (keyL 14695981039346656037 [s.extract 0 Y, s.extract Y s.size] : Nat)) ∧ Below w.heap.size w w') := fun w aa nn cc h => same_b (rkey_any aa nn cc _ w h)
            have HXY : Hid (X = Y → keyL 14695981039346656037 [s.extract 0 X, s.extract X s.size] = keyL 14695981039346656037 [s.extract 0 Y, s.extract Y s.size]) := fun e => by rw [e]
            have hne := later_ne (W.alloc (.cells #[.int .i64 (X : Nat), .int .i64 (Y : Nat)] 43))
            generalize keyL 14695981039346656037 [s.extract 0 X, s.extract X s.size] = K1 at *
            generalize keyL 14695981039346656037 [s.extract 0 Y, s.extract Y s.size] = K2 at *
            clear bx
            go_enter Tryd.func8, Tryd.ntmps8
            go_wp2
            refine wp_region_later_tail 6 (by kernel_rfl) (by kernel_rfl) ?_
            simp only [List.take, List.drop]
            (repeat (first | go_big_quiet_skip | (go_big_quiet_want; go_big_quiet_op; go_big_quiet_on)))
            refine wpQuiet_nil ?_
            rintro _ ⟨q1, rfl⟩
            clear hne b0 b1 d0 d1 d2 d3 d4
            go_wp2_with fail
            refine (kX _).mono ?_
            rintro e w2 ⟨rfl, hb2⟩
            replace hb2 := q1.below.trans ((below_new1 hb2).mono q1.below.size)
            have BB := Bb.trans (hb2.mono Bb.size)
            replace T := T.later hb2
            clear hb2 kX
            have hne := later_ne w2
            go_wp2
            refine wp_region_later_tail 6 (by kernel_rfl) (by kernel_rfl) ?_
            simp only [List.take, List.drop]
            (repeat (first | go_big_quiet_skip | (go_big_quiet_want; go_big_quiet_op; go_big_quiet_on)))
            refine wpQuiet_nil ?_
            rintro _ ⟨q2, rfl⟩
            clear hne
            go_wp2_with fail
            refine (kY _).mono ?_
            rintro e w3 ⟨rfl, hb3⟩
            replace hb3 := q2.below.trans ((below_new1 hb3).mono q2.below.size)
            replace BB := BB.trans (hb3.mono BB.size)
            replace T := T.later hb3
            clear hb3 kY
            go_wp2
            rename_i KK hKK
            refine wp_region_specs [.val (.string s), .val (.int .i64 (X : Nat)), .val (.string (s.extract 0 X)), .val (.string s), .val (.int .i64 (X : Nat)), .val (.string (s.extract X s.size)), .strs [s.extract 0 X, s.extract X s.size], .val (.int .u64 (K1 : Nat)), .val (.string s), .val (.int .i64 (Y : Nat)), .val (.string (s.extract 0 Y)), .val (.string s), .val (.int .i64 (Y : Nat)), .val (.string (s.extract Y s.size)), .strs [s.extract 0 Y, s.extract Y s.size], .val (.int .u64 (K2 : Nat)), .val (.bool ((K1 : Int) == (K2 : Int))), .val (.bool ((K1 : Int) == (K2 : Int)))] (by kernel_rfl) (by kernel_rfl) ?_ ?_
            · skip
              refine ⟨?_, ?_⟩
              · intro A w1 hb ho hd
                have e0 : A.tmps[0]?.getD undef = .string s := olds_get ho 0 (by kernel_rfl)
                refine ⟨rfl, goes_value (v := .string s) ?_ rfl⟩
                simp [go_sem, e0]
              refine ⟨?_, ?_⟩
              · intro A w1 hb ho hd
                have e5 : A.tmps[5]?.getD undef = .int .i64 (X : Nat) := olds_get ho 5 (by kernel_rfl)
                refine ⟨rfl, goes_value (v := .int .i64 (X : Nat)) ?_ rfl⟩
                simp [go_sem, e5]
              refine ⟨?_, ?_⟩
              · intro A w1 hb ho hd
                have e54 : A.tmps[54]?.getD undef = .string s := getq (hd _ (Array.mem_of_getElem? (i := 0) rfl) rfl _ _ rfl rfl)
                have e55 : A.tmps[55]?.getD undef = .int .i64 (X : Nat) := getq (hd _ (Array.mem_of_getElem? (i := 1) rfl) rfl _ _ rfl rfl)
                refine ⟨rfl, goes_value (v := .string (s.extract 0 X)) ?_ rfl⟩
                simp [go_sem, e54, e55, hX]
              refine ⟨?_, ?_⟩
              · intro A w1 hb ho hd
                have e0 : A.tmps[0]?.getD undef = .string s := olds_get ho 0 (by kernel_rfl)
                refine ⟨rfl, goes_value (v := .string s) ?_ rfl⟩
                simp [go_sem, e0]
              refine ⟨?_, ?_⟩
              · intro A w1 hb ho hd
                have e5 : A.tmps[5]?.getD undef = .int .i64 (X : Nat) := olds_get ho 5 (by kernel_rfl)
                refine ⟨rfl, goes_value (v := .int .i64 (X : Nat)) ?_ rfl⟩
                simp [go_sem, e5]
              refine ⟨?_, ?_⟩
              · intro A w1 hb ho hd
                have e57 : A.tmps[57]?.getD undef = .string s := getq (hd _ (Array.mem_of_getElem? (i := 0) rfl) rfl _ _ rfl rfl)
                have e58 : A.tmps[58]?.getD undef = .int .i64 (X : Nat) := getq (hd _ (Array.mem_of_getElem? (i := 1) rfl) rfl _ _ rfl rfl)
                refine ⟨rfl, goes_value (v := .string (s.extract X s.size)) ?_ rfl⟩
                simp [go_sem, e57, e58, hX]
              refine ⟨?_, ?_⟩
              · intro A w1 hb ho hd
                have e56 : A.tmps[56]?.getD undef = .string (s.extract 0 X) := getq (hd _ (Array.mem_of_getElem? (i := 0) rfl) rfl _ _ rfl rfl)
                have e59 : A.tmps[59]?.getD undef = .string (s.extract X s.size) := getq (hd _ (Array.mem_of_getElem? (i := 1) rfl) rfl _ _ rfl rfl)
                refine ⟨rfl, goes_alloc (v := .slice (some ⟨w1.heap.size, 0, none⟩) 2 2) (o := .cells #[.string (s.extract 0 X), .string (s.extract X s.size)] 9) ?_ ⟨_, _, _, rfl, Ss.two w1 _ _ (by assumption) (by assumption) 9⟩⟩
                simp [go_sem, e56, e59]
              refine ⟨?_, ?_⟩
              · intro A w1 hb ho hd
                obtain ⟨aa, nn, cc, ev, hS⟩ := hd _ (Array.mem_of_getElem? (i := 0) rfl) rfl _ _ rfl rfl
                have e60 := getq ev
                refine ⟨rfl, goes_call (f := 18) (args := #[.slice aa nn cc]) ?_ (HR1.out _ aa nn cc hS)⟩
                simp [go_sem, e60]
              refine ⟨?_, ?_⟩
              · intro A w1 hb ho hd
                have e0 : A.tmps[0]?.getD undef = .string s := olds_get ho 0 (by kernel_rfl)
                refine ⟨rfl, goes_value (v := .string s) ?_ rfl⟩
                simp [go_sem, e0]
              refine ⟨?_, ?_⟩
              · intro A w1 hb ho hd
                have e6 : A.tmps[6]?.getD undef = .int .i64 (Y : Nat) := olds_get ho 6 (by kernel_rfl)
                refine ⟨rfl, goes_value (v := .int .i64 (Y : Nat)) ?_ rfl⟩
                simp [go_sem, e6]
              refine ⟨?_, ?_⟩
              · intro A w1 hb ho hd
                have e62 : A.tmps[62]?.getD undef = .string s := getq (hd _ (Array.mem_of_getElem? (i := 0) rfl) rfl _ _ rfl rfl)
                have e63 : A.tmps[63]?.getD undef = .int .i64 (Y : Nat) := getq (hd _ (Array.mem_of_getElem? (i := 1) rfl) rfl _ _ rfl rfl)
                refine ⟨rfl, goes_value (v := .string (s.extract 0 Y)) ?_ rfl⟩
                simp [go_sem, e62, e63, hY]
              refine ⟨?_, ?_⟩
              · intro A w1 hb ho hd
                have e0 : A.tmps[0]?.getD undef = .string s := olds_get ho 0 (by kernel_rfl)
                refine ⟨rfl, goes_value (v := .string s) ?_ rfl⟩
                simp [go_sem, e0]
              refine ⟨?_, ?_⟩
              · intro A w1 hb ho hd
                have e6 : A.tmps[6]?.getD undef = .int .i64 (Y : Nat) := olds_get ho 6 (by kernel_rfl)
                refine ⟨rfl, goes_value (v := .int .i64 (Y : Nat)) ?_ rfl⟩
                simp [go_sem, e6]
              refine ⟨?_, ?_⟩
              · intro A w1 hb ho hd
                have e65 : A.tmps[65]?.getD undef = .string s := getq (hd _ (Array.mem_of_getElem? (i := 0) rfl) rfl _ _ rfl rfl)
                have e66 : A.tmps[66]?.getD undef = .int .i64 (Y : Nat) := getq (hd _ (Array.mem_of_getElem? (i := 1) rfl) rfl _ _ rfl rfl)
                refine ⟨rfl, goes_value (v := .string (s.extract Y s.size)) ?_ rfl⟩
                simp [go_sem, e65, e66, hY]
              refine ⟨?_, ?_⟩
              · intro A w1 hb ho hd
                have e64 : A.tmps[64]?.getD undef = .string (s.extract 0 Y) := getq (hd _ (Array.mem_of_getElem? (i := 0) rfl) rfl _ _ rfl rfl)
                have e67 : A.tmps[67]?.getD undef = .string (s.extract Y s.size) := getq (hd _ (Array.mem_of_getElem? (i := 1) rfl) rfl _ _ rfl rfl)
                refine ⟨rfl, goes_alloc (v := .slice (some ⟨w1.heap.size, 0, none⟩) 2 2) (o := .cells #[.string (s.extract 0 Y), .string (s.extract Y s.size)] 9) ?_ ⟨_, _, _, rfl, Ss.two w1 _ _ (by assumption) (by assumption) 9⟩⟩
                simp [go_sem, e64, e67]
              refine ⟨?_, ?_⟩
              · intro A w1 hb ho hd
                obtain ⟨aa, nn, cc, ev, hS⟩ := hd _ (Array.mem_of_getElem? (i := 0) rfl) rfl _ _ rfl rfl
                have e68 := getq ev
                refine ⟨rfl, goes_call (f := 18) (args := #[.slice aa nn cc]) ?_ (HR2.out _ aa nn cc hS)⟩
                simp [go_sem, e68]
              refine ⟨?_, ?_⟩
              · intro A w1 hb ho hd
                have e61 : A.tmps[61]?.getD undef = .int .u64 (K1 : Nat) := getq (hd _ (Array.mem_of_getElem? (i := 0) rfl) rfl _ _ rfl rfl)
                have e69 : A.tmps[69]?.getD undef = .int .u64 (K2 : Nat) := getq (hd _ (Array.mem_of_getElem? (i := 1) rfl) rfl _ _ rfl rfl)
                refine ⟨rfl, goes_value (v := .bool ((K1 : Int) == (K2 : Int))) ?_ rfl⟩
                simp [go_sem, e61, e69]
              refine ⟨?_, ?_⟩
              · intro A w1 hb ho hd
                have e70 : A.tmps[70]?.getD undef = .bool ((K1 : Int) == (K2 : Int)) := getq (hd _ (Array.mem_of_getElem? (i := 0) rfl) rfl _ _ rfl rfl)
                refine ⟨rfl, goes_value (v := .bool ((K1 : Int) == (K2 : Int))) ?_ rfl⟩
                simp [go_sem, e70]
              trivial
            · intro A w4 hb hdf hsz ho hf
              have f0 : A.tmps.getD 54 undef = .string s := hf 0 _ 54 rfl rfl
              have f1 : A.tmps.getD 55 undef = .int .i64 (X : Nat) := hf 1 _ 55 rfl rfl
              have f2 : A.tmps.getD 56 undef = .string (s.extract 0 X) := hf 2 _ 56 rfl rfl
              have f3 : A.tmps.getD 57 undef = .string s := hf 3 _ 57 rfl rfl
              have f4 : A.tmps.getD 58 undef = .int .i64 (X : Nat) := hf 4 _ 58 rfl rfl
              have f5 : A.tmps.getD 59 undef = .string (s.extract X s.size) := hf 5 _ 59 rfl rfl
              have f7 : A.tmps.getD 61 undef = .int .u64 (K1 : Nat) := hf 7 _ 61 rfl rfl
              have f8 : A.tmps.getD 62 undef = .string s := hf 8 _ 62 rfl rfl
              have f9 : A.tmps.getD 63 undef = .int .i64 (Y : Nat) := hf 9 _ 63 rfl rfl
              have f10 : A.tmps.getD 64 undef = .string (s.extract 0 Y) := hf 10 _ 64 rfl rfl
              have f11 : A.tmps.getD 65 undef = .string s := hf 11 _ 65 rfl rfl
              have f12 : A.tmps.getD 66 undef = .int .i64 (Y : Nat) := hf 12 _ 66 rfl rfl
              have f13 : A.tmps.getD 67 undef = .string (s.extract Y s.size) := hf 13 _ 67 rfl rfl
              have f15 : A.tmps.getD 69 undef = .int .u64 (K2 : Nat) := hf 15 _ 69 rfl rfl
              have f16 : A.tmps.getD 70 undef = .bool ((K1 : Int) == (K2 : Int)) := hf 16 _ 70 rfl rfl
              have f17 : A.tmps.getD 9 undef = .bool ((K1 : Int) == (K2 : Int)) := hf 17 _ 9 rfl rfl
              have B4 := BB.trans (hb.mono BB.size)
              replace T := T.later hb
              refine hKK A w4 ?_
              rw [frame_puts hdf hsz ho]
              simp only [List.foldl_cons, List.foldl_nil, Act.put, Option.getD_some, f0, f1, f2, f3, f4, f5, f7, f8, f9, f10, f11, f12, f13, f15, f16, f17, List.setIfInBounds_toArray, List.set_cons_succ, List.set_cons_zero]
              clear f0 f1 f2 f3 f4 f5 f7 f8 f9 f10 f11 f12 f13 f15 f16 f17 hf ho hsz hdf hKK
              generalize A.tmps.getD 60 undef = u60
              generalize A.tmps.getD 68 undef = u68
              by_cases hxy : X = Y
              · have hk := HXY.out hxy
                subst hxy hk
                go_wp2_with fail
                refine (awake_any _ T).mono ?_
                rintro e w5 ⟨rfl, hb5⟩
                go_wp2
                go_ret
                exact ⟨rfl, B4.trans (hb5.mono B4.size)⟩
              · have hn : ((X : Int) != (Y : Int)) = true := by simp; omega
                by_cases hk : K1 = K2
                · subst hk
                  go_wp2_with fail
                  refine (awake_any _ T).mono ?_
                  rintro e w5 ⟨rfl, hb5⟩
                  go_wp2
                  go_ret
                  exact ⟨rfl, B4.trans (hb5.mono B4.size)⟩
                · have hkf : ((K1 : Int) == (K2 : Int)) = false := by simp; omega
                  go_wp2_with fail
                  refine (awake_any _ T).mono ?_
                  rintro e w5 ⟨rfl, hb5⟩
                  go_wp2
                  go_ret
                  exact ⟨rfl, B4.trans (hb5.mono B4.size)⟩

end Cr
end Go.Proofs.YtbjhajomeegobaaDoor
