/- The law SuperBack, walked. -/
import Derived.Test.YtjopjffecnflkaaDoorSn
import Derived.Test.YtjopjffecnflkaaDoorSp
import Derived.Lib.ConvBytes
namespace Go.Proofs.YtjopjffecnflkaaDoor
open Go.RowKit
namespace Su
open Cr
theorem to_bytes (s : ByteArray) (w : World) : ∃ cap wb, (convert 9 47 (.string s)).run Tryd.prog w = .ok (.slice (some ⟨w.heap.size, 0, none⟩) s.size cap) wb ∧ Rowc wb w.heap.size s.size (fun i => (bs s).getD i 0) ∧ Below w.heap.size w wb := by
  refine ⟨_, _, Lib.run_convert_string_bytes (P := Tryd.prog) w 9 47 5 s Tryd.underlying9 Tryd.underlying47 Tryd.underlying5, ⟨?_, ?_, ?_⟩, ?_⟩
  · rw [Lib.bytesWorld_size]; omega
  · intro i hi
    rw [Lib.bytesWorld_cell w 5 s i hi]
    have h' : i < s.data.size := hi
    simp [bs, List.getD, Array.getElem?_eq_getElem h']
  · intro i hi
    have hb : i < (Lib.bytesCells w 5 s).size := by
      simp only [Lib.bytesCells, Array.size_append, Array.size_map]
      have : s.data.size = s.size := rfl
      omega
    simp only [World.frozen?, Lib.bytesWorld_at_new]
    simp
    omega
  · exact ⟨rfl, rfl, rfl, by rw [Lib.bytesWorld_size]; omega, fun k hk => Lib.bytesWorld_at_old w 5 s k hk⟩
set_option maxHeartbeats 8000000 in
theorem superBack_walk (s : Sb) (hs : s.Fit) (at' : Int) (x : Nat) (_ha : I64 at') (hx : x < 256) (W : World) (T : Tab W) : Calls Tryd.prog 6 #[s.val, .int .i64 at', .int .u8 (x : Nat)] W fun e w' => e = .returned (.bool true) ∧ Below W.heap.size W w' := by
  have hPl := fun w => plain_any s w
  have hRc := fun w => rchk_any s hs w
  by_cases h : chk s = 0
  · have hEn := fun w T => encode_any s hs w T
    have hDe := fun w T => decode_any s.sec (by rw [sec_size]; omega) w T
    have he : s.enc = s.sec := if_pos h
    have hz := sec_size s
    rw [he, h] at hEn
    rw [h] at hRc
    rw [dec_sec hs h] at hDe
    have hTu := fun (p : Nat) (hp : p < 64) (h0 : x ≠ 0) => dec_turned (s := s) hp hx h0
    clear he h hs
    generalize s.sec = C at *
    obtain ⟨key, ep, ser, siz, tail, num⟩ := s
    simp only [Sb.val] at hPl hRc hEn hDe ⊢
    by_cases a1 : at' < 0
    · clear hTu
      have X := boxC W (key) (ep) (ser) (siz) (tail) (num) 24
      have BB := below_alloc W (.cells #[.int .u64 ((key : Nat) : Int), .int .i64 (ep), .int .i64 (ser), .int .i64 (siz), .int .i64 (tail), .int .i64 (num)] 24)
      go_enter Tryd.func6, Tryd.ntmps6
      go_wp2_with fail
      refine (hPl _).mono ?_
      rintro e w1 ⟨rfl, b1⟩
      replace X := X.later (b1.mono X.lt)
      replace BB := BB.trans (b1.mono BB.size)
      clear b1 
      have Xc0_1 := X.c0
      have Xc1_1 := X.c1
      have Xc2_1 := X.c2
      have Xc3_1 := X.c3
      have Xc4_1 := X.c4
      have Xc5_1 := X.c5
      go_wp2_with fail
      refine (hRc _).mono ?_
      rintro e w2 ⟨rfl, b2⟩
      clear Xc0_1 Xc1_1 Xc2_1 Xc3_1 Xc4_1 Xc5_1
      replace X := X.later (b2.mono X.lt)
      replace BB := BB.trans (b2.mono BB.size)
      clear b2 
      have Xc0_2 := X.c0
      have Xc1_2 := X.c1
      have Xc2_2 := X.c2
      have Xc3_2 := X.c3
      have Xc4_2 := X.c4
      have Xc5_2 := X.c5
      go_wp2_with fail
      refine (hEn _ (T.later BB)).mono ?_
      rintro e w3 ⟨rfl, b3⟩
      clear Xc0_2 Xc1_2 Xc2_2 Xc3_2 Xc4_2 Xc5_2
      replace X := X.later (b3.mono X.lt)
      replace BB := BB.trans (b3.mono BB.size)
      clear b3 
      have Xc0_3 := X.c0
      have Xc1_3 := X.c1
      have Xc2_3 := X.c2
      have Xc3_3 := X.c3
      have Xc4_3 := X.c4
      have Xc5_3 := X.c5
      go_wp2_with fail
      refine (hDe _ (T.later BB)).mono ?_
      rintro e w4 ⟨rfl, b4⟩
      clear Xc0_3 Xc1_3 Xc2_3 Xc3_3 Xc4_3 Xc5_3
      replace X := X.later (b4.mono X.lt)
      replace BB := BB.trans (b4.mono BB.size)
      clear b4 
      have Xc0_4 := X.c0
      have Xc1_4 := X.c1
      have Xc2_4 := X.c2
      have Xc3_4 := X.c3
      have Xc4_4 := X.c4
      have Xc5_4 := X.c5
      have b5 := below_alloc w4 (.cells #[.int .u64 ((key : Nat) : Int), .int .i64 (ep), .int .i64 (ser), .int .i64 (siz), .int .i64 (tail), .int .i64 (num)] 24)
      have Z : BoxC (w4.alloc (.cells #[.int .u64 ((key : Nat) : Int), .int .i64 (ep), .int .i64 (ser), .int .i64 (siz), .int .i64 (tail), .int .i64 (num)] 24)) w4.heap.size (key) (ep) (ser) (siz) (tail) (num) := boxC w4 (key) (ep) (ser) (siz) (tail) (num) 24
      replace X := X.later (b5.mono X.lt)
      replace BB := BB.trans (b5.mono BB.size)
      clear b5
      have Xc0_5 := X.c0
      have Xc1_5 := X.c1
      have Xc2_5 := X.c2
      have Xc3_5 := X.c3
      have Xc4_5 := X.c4
      have Xc5_5 := X.c5
      have Zc0_6 := Z.c0
      have Zc1_6 := Z.c1
      have Zc2_6 := Z.c2
      have Zc3_6 := Z.c3
      have Zc4_6 := Z.c4
      have Zc5_6 := Z.c5
      go_wp2_with fail
      refine (awake_any _ (T.later BB)).mono ?_
      rintro e w6 ⟨rfl, b6⟩
      clear Xc0_5 Xc1_5 Xc2_5 Xc3_5 Xc4_5 Xc5_5
      clear Zc0_6 Zc1_6 Zc2_6 Zc3_6 Zc4_6 Zc5_6
      clear Xc0_4 Xc1_4 Xc2_4 Xc3_4 Xc4_4 Xc5_4
      replace X := X.later (b6.mono X.lt)
      replace Z := Z.later (b6.mono Z.lt)
      replace BB := BB.trans (b6.mono BB.size)
      clear b6 
      have Xc0_7 := X.c0
      have Xc1_7 := X.c1
      have Xc2_7 := X.c2
      have Xc3_7 := X.c3
      have Xc4_7 := X.c4
      have Xc5_7 := X.c5
      have Zc0_8 := Z.c0
      have Zc1_8 := Z.c1
      have Zc2_8 := Z.c2
      have Zc3_8 := Z.c3
      have Zc4_8 := Z.c4
      have Zc5_8 := Z.c5
      go_wp2
      go_ret
      exact ⟨rfl, BB⟩

    · by_cases a2 : 64 ≤ at'
      · clear hTu
        have X := boxC W (key) (ep) (ser) (siz) (tail) (num) 24
        have BB := below_alloc W (.cells #[.int .u64 ((key : Nat) : Int), .int .i64 (ep), .int .i64 (ser), .int .i64 (siz), .int .i64 (tail), .int .i64 (num)] 24)
        go_enter Tryd.func6, Tryd.ntmps6
        go_wp2_with fail
        refine (hPl _).mono ?_
        rintro e w1 ⟨rfl, b1⟩
        replace X := X.later (b1.mono X.lt)
        replace BB := BB.trans (b1.mono BB.size)
        clear b1 
        have Xc0_1 := X.c0
        have Xc1_1 := X.c1
        have Xc2_1 := X.c2
        have Xc3_1 := X.c3
        have Xc4_1 := X.c4
        have Xc5_1 := X.c5
        go_wp2_with fail
        refine (hRc _).mono ?_
        rintro e w2 ⟨rfl, b2⟩
        clear Xc0_1 Xc1_1 Xc2_1 Xc3_1 Xc4_1 Xc5_1
        replace X := X.later (b2.mono X.lt)
        replace BB := BB.trans (b2.mono BB.size)
        clear b2 
        have Xc0_2 := X.c0
        have Xc1_2 := X.c1
        have Xc2_2 := X.c2
        have Xc3_2 := X.c3
        have Xc4_2 := X.c4
        have Xc5_2 := X.c5
        go_wp2_with fail
        refine (hEn _ (T.later BB)).mono ?_
        rintro e w3 ⟨rfl, b3⟩
        clear Xc0_2 Xc1_2 Xc2_2 Xc3_2 Xc4_2 Xc5_2
        replace X := X.later (b3.mono X.lt)
        replace BB := BB.trans (b3.mono BB.size)
        clear b3 
        have Xc0_3 := X.c0
        have Xc1_3 := X.c1
        have Xc2_3 := X.c2
        have Xc3_3 := X.c3
        have Xc4_3 := X.c4
        have Xc5_3 := X.c5
        go_wp2_with fail
        refine (hDe _ (T.later BB)).mono ?_
        rintro e w4 ⟨rfl, b4⟩
        clear Xc0_3 Xc1_3 Xc2_3 Xc3_3 Xc4_3 Xc5_3
        replace X := X.later (b4.mono X.lt)
        replace BB := BB.trans (b4.mono BB.size)
        clear b4 
        have Xc0_4 := X.c0
        have Xc1_4 := X.c1
        have Xc2_4 := X.c2
        have Xc3_4 := X.c3
        have Xc4_4 := X.c4
        have Xc5_4 := X.c5
        have b5 := below_alloc w4 (.cells #[.int .u64 ((key : Nat) : Int), .int .i64 (ep), .int .i64 (ser), .int .i64 (siz), .int .i64 (tail), .int .i64 (num)] 24)
        have Z : BoxC (w4.alloc (.cells #[.int .u64 ((key : Nat) : Int), .int .i64 (ep), .int .i64 (ser), .int .i64 (siz), .int .i64 (tail), .int .i64 (num)] 24)) w4.heap.size (key) (ep) (ser) (siz) (tail) (num) := boxC w4 (key) (ep) (ser) (siz) (tail) (num) 24
        replace X := X.later (b5.mono X.lt)
        replace BB := BB.trans (b5.mono BB.size)
        clear b5
        have Xc0_5 := X.c0
        have Xc1_5 := X.c1
        have Xc2_5 := X.c2
        have Xc3_5 := X.c3
        have Xc4_5 := X.c4
        have Xc5_5 := X.c5
        have Zc0_6 := Z.c0
        have Zc1_6 := Z.c1
        have Zc2_6 := Z.c2
        have Zc3_6 := Z.c3
        have Zc4_6 := Z.c4
        have Zc5_6 := Z.c5
        go_wp2_with fail
        refine (awake_any _ (T.later BB)).mono ?_
        rintro e w6 ⟨rfl, b6⟩
        clear Xc0_5 Xc1_5 Xc2_5 Xc3_5 Xc4_5 Xc5_5
        clear Zc0_6 Zc1_6 Zc2_6 Zc3_6 Zc4_6 Zc5_6
        clear Xc0_4 Xc1_4 Xc2_4 Xc3_4 Xc4_4 Xc5_4
        replace X := X.later (b6.mono X.lt)
        replace Z := Z.later (b6.mono Z.lt)
        replace BB := BB.trans (b6.mono BB.size)
        clear b6 
        have Xc0_7 := X.c0
        have Xc1_7 := X.c1
        have Xc2_7 := X.c2
        have Xc3_7 := X.c3
        have Xc4_7 := X.c4
        have Xc5_7 := X.c5
        have Zc0_8 := Z.c0
        have Zc1_8 := Z.c1
        have Zc2_8 := Z.c2
        have Zc3_8 := Z.c3
        have Zc4_8 := Z.c4
        have Zc5_8 := Z.c5
        go_wp2
        go_ret
        exact ⟨rfl, BB⟩

      · by_cases a3 : x = 0
        · subst a3
          clear hTu
          have X := boxC W (key) (ep) (ser) (siz) (tail) (num) 24
          have BB := below_alloc W (.cells #[.int .u64 ((key : Nat) : Int), .int .i64 (ep), .int .i64 (ser), .int .i64 (siz), .int .i64 (tail), .int .i64 (num)] 24)
          go_enter Tryd.func6, Tryd.ntmps6
          go_wp2_with fail
          refine (hPl _).mono ?_
          rintro e w1 ⟨rfl, b1⟩
          replace X := X.later (b1.mono X.lt)
          replace BB := BB.trans (b1.mono BB.size)
          clear b1 
          have Xc0_1 := X.c0
          have Xc1_1 := X.c1
          have Xc2_1 := X.c2
          have Xc3_1 := X.c3
          have Xc4_1 := X.c4
          have Xc5_1 := X.c5
          go_wp2_with fail
          refine (hRc _).mono ?_
          rintro e w2 ⟨rfl, b2⟩
          clear Xc0_1 Xc1_1 Xc2_1 Xc3_1 Xc4_1 Xc5_1
          replace X := X.later (b2.mono X.lt)
          replace BB := BB.trans (b2.mono BB.size)
          clear b2 
          have Xc0_2 := X.c0
          have Xc1_2 := X.c1
          have Xc2_2 := X.c2
          have Xc3_2 := X.c3
          have Xc4_2 := X.c4
          have Xc5_2 := X.c5
          go_wp2_with fail
          refine (hEn _ (T.later BB)).mono ?_
          rintro e w3 ⟨rfl, b3⟩
          clear Xc0_2 Xc1_2 Xc2_2 Xc3_2 Xc4_2 Xc5_2
          replace X := X.later (b3.mono X.lt)
          replace BB := BB.trans (b3.mono BB.size)
          clear b3 
          have Xc0_3 := X.c0
          have Xc1_3 := X.c1
          have Xc2_3 := X.c2
          have Xc3_3 := X.c3
          have Xc4_3 := X.c4
          have Xc5_3 := X.c5
          go_wp2_with fail
          refine (hDe _ (T.later BB)).mono ?_
          rintro e w4 ⟨rfl, b4⟩
          clear Xc0_3 Xc1_3 Xc2_3 Xc3_3 Xc4_3 Xc5_3
          replace X := X.later (b4.mono X.lt)
          replace BB := BB.trans (b4.mono BB.size)
          clear b4 
          have Xc0_4 := X.c0
          have Xc1_4 := X.c1
          have Xc2_4 := X.c2
          have Xc3_4 := X.c3
          have Xc4_4 := X.c4
          have Xc5_4 := X.c5
          have b5 := below_alloc w4 (.cells #[.int .u64 ((key : Nat) : Int), .int .i64 (ep), .int .i64 (ser), .int .i64 (siz), .int .i64 (tail), .int .i64 (num)] 24)
          have Z : BoxC (w4.alloc (.cells #[.int .u64 ((key : Nat) : Int), .int .i64 (ep), .int .i64 (ser), .int .i64 (siz), .int .i64 (tail), .int .i64 (num)] 24)) w4.heap.size (key) (ep) (ser) (siz) (tail) (num) := boxC w4 (key) (ep) (ser) (siz) (tail) (num) 24
          replace X := X.later (b5.mono X.lt)
          replace BB := BB.trans (b5.mono BB.size)
          clear b5
          have Xc0_5 := X.c0
          have Xc1_5 := X.c1
          have Xc2_5 := X.c2
          have Xc3_5 := X.c3
          have Xc4_5 := X.c4
          have Xc5_5 := X.c5
          have Zc0_6 := Z.c0
          have Zc1_6 := Z.c1
          have Zc2_6 := Z.c2
          have Zc3_6 := Z.c3
          have Zc4_6 := Z.c4
          have Zc5_6 := Z.c5
          go_wp2_with fail
          refine (awake_any _ (T.later BB)).mono ?_
          rintro e w6 ⟨rfl, b6⟩
          clear Xc0_5 Xc1_5 Xc2_5 Xc3_5 Xc4_5 Xc5_5
          clear Zc0_6 Zc1_6 Zc2_6 Zc3_6 Zc4_6 Zc5_6
          clear Xc0_4 Xc1_4 Xc2_4 Xc3_4 Xc4_4 Xc5_4
          replace X := X.later (b6.mono X.lt)
          replace Z := Z.later (b6.mono Z.lt)
          replace BB := BB.trans (b6.mono BB.size)
          clear b6 
          have Xc0_7 := X.c0
          have Xc1_7 := X.c1
          have Xc2_7 := X.c2
          have Xc3_7 := X.c3
          have Xc4_7 := X.c4
          have Xc5_7 := X.c5
          have Zc0_8 := Z.c0
          have Zc1_8 := Z.c1
          have Zc2_8 := Z.c2
          have Zc3_8 := Z.c3
          have Zc4_8 := Z.c4
          have Zc5_8 := Z.c5
          go_wp2
          go_ret
          exact ⟨rfl, BB⟩

        · obtain ⟨p, rfl⟩ := Int.eq_ofNat_of_zero_le (show 0 ≤ at' by omega)
          have hp : p < 64 := by omega
          replace hTu := hTu p hp a3
          have a3' : ¬ ((x : Nat) : Int) = 0 := by omega
          have a3'' : (((x : Nat) : Int) == 0) = false := by simpa using a3
          have hlb : (bs C).getD p 0 < 256 := by
            have : p < (bs C).length := by rw [bs_length]; omega
            rw [List.getD_eq_getElem?_getD, List.getElem?_eq_getElem this]
            exact bs_lt C _ (List.getElem_mem this)
          have hts : (fun i => if i = p then (bs C).getD p 0 ^^^ x else (bs C).getD i 0) = turnd (bs C) (fun _ => x) p 1 := by
            have := turnd_step (bs C) (fun _ => x) p 0
            rw [turnd_zero] at this
            exact this
          have X := boxC W (key) (ep) (ser) (siz) (tail) (num) 24
          have BB := below_alloc W (.cells #[.int .u64 ((key : Nat) : Int), .int .i64 (ep), .int .i64 (ser), .int .i64 (siz), .int .i64 (tail), .int .i64 (num)] 24)
          go_enter Tryd.func6, Tryd.ntmps6
          go_wp2_with fail
          refine (hPl _).mono ?_
          rintro e w1 ⟨rfl, b1⟩
          replace X := X.later (b1.mono X.lt)
          replace BB := BB.trans (b1.mono BB.size)
          clear b1 
          have Xc0_1 := X.c0
          have Xc1_1 := X.c1
          have Xc2_1 := X.c2
          have Xc3_1 := X.c3
          have Xc4_1 := X.c4
          have Xc5_1 := X.c5
          go_wp2_with fail
          refine (hRc _).mono ?_
          rintro e w2 ⟨rfl, b2⟩
          clear Xc0_1 Xc1_1 Xc2_1 Xc3_1 Xc4_1 Xc5_1
          replace X := X.later (b2.mono X.lt)
          replace BB := BB.trans (b2.mono BB.size)
          clear b2 
          have Xc0_2 := X.c0
          have Xc1_2 := X.c1
          have Xc2_2 := X.c2
          have Xc3_2 := X.c3
          have Xc4_2 := X.c4
          have Xc5_2 := X.c5
          go_wp2_with fail
          refine (hEn _ (T.later BB)).mono ?_
          rintro e w3 ⟨rfl, b3⟩
          clear Xc0_2 Xc1_2 Xc2_2 Xc3_2 Xc4_2 Xc5_2
          replace X := X.later (b3.mono X.lt)
          replace BB := BB.trans (b3.mono BB.size)
          clear b3 
          have Xc0_3 := X.c0
          have Xc1_3 := X.c1
          have Xc2_3 := X.c2
          have Xc3_3 := X.c3
          have Xc4_3 := X.c4
          have Xc5_3 := X.c5
          go_wp2_with fail
          refine (hDe _ (T.later BB)).mono ?_
          rintro e w4 ⟨rfl, b4⟩
          clear Xc0_3 Xc1_3 Xc2_3 Xc3_3 Xc4_3 Xc5_3
          replace X := X.later (b4.mono X.lt)
          replace BB := BB.trans (b4.mono BB.size)
          clear b4 
          have Xc0_4 := X.c0
          have Xc1_4 := X.c1
          have Xc2_4 := X.c2
          have Xc3_4 := X.c3
          have Xc4_4 := X.c4
          have Xc5_4 := X.c5
          have b5 := below_alloc w4 (.cells #[.int .u64 ((key : Nat) : Int), .int .i64 (ep), .int .i64 (ser), .int .i64 (siz), .int .i64 (tail), .int .i64 (num)] 24)
          have Z : BoxC (w4.alloc (.cells #[.int .u64 ((key : Nat) : Int), .int .i64 (ep), .int .i64 (ser), .int .i64 (siz), .int .i64 (tail), .int .i64 (num)] 24)) w4.heap.size (key) (ep) (ser) (siz) (tail) (num) := boxC w4 (key) (ep) (ser) (siz) (tail) (num) 24
          replace X := X.later (b5.mono X.lt)
          replace BB := BB.trans (b5.mono BB.size)
          clear b5
          have Xc0_5 := X.c0
          have Xc1_5 := X.c1
          have Xc2_5 := X.c2
          have Xc3_5 := X.c3
          have Xc4_5 := X.c4
          have Xc5_5 := X.c5
          have Zc0_6 := Z.c0
          have Zc1_6 := Z.c1
          have Zc2_6 := Z.c2
          have Zc3_6 := Z.c3
          have Zc4_6 := Z.c4
          have Zc5_6 := Z.c5
          obtain ⟨cap, wb, hcv, R, BC⟩ := to_bytes C (w4.alloc (.cells #[.int .u64 ((key : Nat) : Int), .int .i64 (ep), .int .i64 (ser), .int .i64 (siz), .int .i64 (tail), .int .i64 (num)] 24))
          have BB2 := BB.trans (BC.mono BB.size)
          have hge : W.heap.size ≤ w4.heap.size + 1 := by have := BB.size; rw [World.size_alloc] at this; exact this
          rw [hz] at hcv R
          rw [World.size_alloc] at hcv R
          have c1 := R.cell p hp
          have f1 := R.frozen p hp
          have hxr := u8_xor_nat ((bs C).getD p 0) x hlb hx
          have R3 := R.set hp ((bs C).getD p 0 ^^^ x)
          rw [hts] at R3
          have B3 := below_set BB2 hge p (.int .u8 (((bs C).getD p 0 ^^^ x : Nat) : Int))
          have hc3 := R3.conv cap
          generalize hS2 : str ((List.range 64).map (turnd (bs C) (fun _ => x) p 1)) = C2 at *
          have hz2 : C2.size ≤ 1000 := by rw [← hS2, str_size]; simp
          have hD2 := fun w T => decode_any C2 hz2 w T
          rw [hTu] at hD2
          simp only [Sb.val, Sb.zero] at hD2
          have TT := T.later B3
          clear hTu hts hS2 R R3 BC BB2 hDe hEn hPl hRc
          generalize (bs C).getD p 0 = old at *
          generalize old ^^^ x = nw at *
          go_wp2_with fail
          refine (hD2 _ TT).mono ?_
          rintro e w8 ⟨rfl, b8⟩
          replace B3 := B3.trans (b8.mono B3.size)
          clear hD2 b8
          clear Xc0_5 Xc1_5 Xc2_5 Xc3_5 Xc4_5 Xc5_5 Zc0_6 Zc1_6 Zc2_6 Zc3_6 Zc4_6 Zc5_6 Xc0_4 Xc1_4 Xc2_4 Xc3_4 Xc4_4 Xc5_4
          clear X Z
          have b21 := below_alloc w8 (.cells #[.int .u64 0, .int .i64 (0), .int .i64 (0), .int .i64 (0), .int .i64 (0), .int .i64 (0)] 24)
          have Y : BoxC (w8.alloc (.cells #[.int .u64 0, .int .i64 (0), .int .i64 (0), .int .i64 (0), .int .i64 (0), .int .i64 (0)] 24)) w8.heap.size (0) (0) (0) (0) (0) (0) := boxC w8 (0) (0) (0) (0) (0) (0) 24
          replace B3 := B3.trans (b21.mono B3.size)
          clear b21
          have Yc0_1 := Y.c0
          have Yc1_1 := Y.c1
          have Yc2_1 := Y.c2
          have Yc3_1 := Y.c3
          have Yc4_1 := Y.c4
          have Yc5_1 := Y.c5
          go_wp2_with fail
          refine (awake_any _ (T.later B3)).mono ?_
          rintro e w22 ⟨rfl, b22⟩
          clear Yc0_1 Yc1_1 Yc2_1 Yc3_1 Yc4_1 Yc5_1
          replace Y := Y.later (b22.mono Y.lt)
          replace B3 := B3.trans (b22.mono B3.size)
          clear b22 
          have Yc0_2 := Y.c0
          have Yc1_2 := Y.c1
          have Yc2_2 := Y.c2
          have Yc3_2 := Y.c3
          have Yc4_2 := Y.c4
          have Yc5_2 := Y.c5
          go_wp2
          go_ret
          exact ⟨rfl, B3⟩

  · generalize chk s = c at *
    clear hs
    obtain ⟨key, ep, ser, siz, tail, num⟩ := s
    simp only [Sb.val] at hPl hRc ⊢
    have X := boxC W (key) (ep) (ser) (siz) (tail) (num) 24
    have BB := below_alloc W (.cells #[.int .u64 ((key : Nat) : Int), .int .i64 (ep), .int .i64 (ser), .int .i64 (siz), .int .i64 (tail), .int .i64 (num)] 24)
    go_enter Tryd.func6, Tryd.ntmps6
    go_wp2_with fail
    refine (hPl _).mono ?_
    rintro e w1 ⟨rfl, b1⟩
    replace X := X.later (b1.mono X.lt)
    replace BB := BB.trans (b1.mono BB.size)
    clear b1 
    have Xc0_1 := X.c0
    have Xc1_1 := X.c1
    have Xc2_1 := X.c2
    have Xc3_1 := X.c3
    have Xc4_1 := X.c4
    have Xc5_1 := X.c5
    go_wp2_with fail
    refine (hRc _).mono ?_
    rintro e w2 ⟨rfl, b2⟩
    clear Xc0_1 Xc1_1 Xc2_1 Xc3_1 Xc4_1 Xc5_1
    replace X := X.later (b2.mono X.lt)
    replace BB := BB.trans (b2.mono BB.size)
    clear b2 
    have Xc0_2 := X.c0
    have Xc1_2 := X.c1
    have Xc2_2 := X.c2
    have Xc3_2 := X.c3
    have Xc4_2 := X.c4
    have Xc5_2 := X.c5
    go_wp2_with fail
    refine (awake_any _ (T.later BB)).mono ?_
    rintro e w3 ⟨rfl, b3⟩
    clear Xc0_2 Xc1_2 Xc2_2 Xc3_2 Xc4_2 Xc5_2
    replace X := X.later (b3.mono X.lt)
    replace BB := BB.trans (b3.mono BB.size)
    clear b3 
    have Xc0_3 := X.c0
    have Xc1_3 := X.c1
    have Xc2_3 := X.c2
    have Xc3_3 := X.c3
    have Xc4_3 := X.c4
    have Xc5_3 := X.c5
    go_wp2
    go_ret
    exact ⟨rfl, BB⟩
end Su
end Go.Proofs.YtjopjffecnflkaaDoor
