/- The law SuperRow, walked. -/
import Derived.Test.YtjopjffecnflkaaDoorLf
namespace Go.Proofs.YtjopjffecnflkaaDoor
open Go.RowKit
namespace Su
open Cr
/-- A slice of pairs of ints that is handed in. -/
structure Ps (w : World) (a : Option Addr) (n : Nat) (xs : List (Int × Int)) : Prop where
  len : xs.length = n
  fit : ∀ x ∈ xs, I64 x.1 ∧ I64 x.2
  cell : ∀ (k : Nat) (x : Int × Int), xs[k]? = some x → ∃ g off, a = some ⟨g, off, none⟩ ∧ g < w.heap.size ∧ w.cell? ⟨g, off + k * 2, none⟩ = some (.int .i64 x.1) ∧ w.cell? ⟨g, off + k * 2 + 1, none⟩ = some (.int .i64 x.2)
/-- A row of two strings that may be written. -/
structure Rs (w : World) (g : Nat) (f : Nat → ByteArray) : Prop where
  lt : g < w.heap.size
  cell : ∀ i, i < 2 → w.cell? ⟨g, i, none⟩ = some (.string (f i))
  frozen : ∀ i, i < 2 → w.frozen? ⟨g, i, none⟩ = false
theorem Rs.later {w w' : World} {g : Nat} {f : Nat → ByteArray} (h : Rs w g f) (hb : Below (g + 1) w w') : Rs w' g f :=
  ⟨Nat.lt_of_lt_of_le h.lt hb.size, fun i hi => (hb.cell (by simp)).trans (h.cell i hi), fun i hi => (hb.frozen (by simp)).trans (h.frozen i hi)⟩
theorem Rs.set {w : World} {g : Nat} {f : Nat → ByteArray} (h : Rs w g f) {k : Nat} (hk : k < 2) (v : ByteArray) : Rs (w.setCell ⟨g, k, none⟩ (.string v)) g (fun i => if i = k then v else f i) :=
  ⟨by simpa using h.lt, fun i hi => by
    by_cases e : i = k
    · subst e
      rw [if_pos rfl]
      exact World.cell?_setCell_same _ _ _ (h.cell i hi)
    · rw [if_neg e, World.cell?_setCell_other _ _ _ _ (fun e2 => e (by cases e2; rfl))]
      exact h.cell i hi, fun i hi => by rw [World.frozen?_setCell]; exact h.frozen i hi⟩
theorem Rs.far {w : World} {g b i : Nat} {f : Nat → ByteArray} (h : Rs w g f) (hne : b ≠ g) (v : Value) : Rs (w.setCell ⟨b, i, none⟩ v) g f :=
  ⟨by simpa using h.lt, fun j hj => (cell_far hne).trans (h.cell j hj), fun j hj => by rw [World.frozen?_setCell]; exact h.frozen j hj⟩
theorem Rs.putFar {w : World} {g b : Nat} {f : Nat → ByteArray} (h : Rs w g f) (hne : b ≠ g) (v0 v1 v2 v3 v4 v5 : Value) : Rs ((((((w.setCell ⟨b, 0, none⟩ v0).setCell ⟨b, 1, none⟩ v1).setCell ⟨b, 2, none⟩ v2).setCell ⟨b, 3, none⟩ v3).setCell ⟨b, 4, none⟩ v4).setCell ⟨b, 5, none⟩ v5) g f :=
  (((((h.far hne _).far hne _).far hne _).far hne _).far hne _).far hne _
/-- The state ahead of a round. -/
structure RowR (W : World) (B : Nat) (g : Nat) (wr : World) (cur : Sb) (f : Nat → ByteArray) : Prop where
  fit : cur.Fit
  ok : chk cur = 0
  box : BoxC wr B cur.key cur.ep cur.ser cur.siz cur.tail cur.num
  row : Rs wr g f
  is : f (cur.ser % 2).toNat = cur.sec
  sz : ∀ i, i < 2 → (f i).size ≤ 1000
  bb : Below B W wr
theorem slot_nat {x : Int} (h : 0 ≤ x) : ∃ j : Nat, j < 2 ∧ x % 2 = (j : Int) ∧ Int.tmod x 2 = (j : Int) ∧ (x % 2).toNat = j := ⟨(x % 2).toNat, by omega, by omega, by rw [Int.tmod_eq_emod_of_nonneg h]; omega, rfl⟩

structure A2 (w : World) (g o : Nat) (u v : Value) : Prop where
  lt : g < w.heap.size
  c0 : w.cell? ⟨g, o, none⟩ = some u
  c1 : w.cell? ⟨g, o + 1, none⟩ = some v
theorem A2.later {w w' : World} {g o : Nat} {u v : Value} (h : A2 w g o u v) (hb : Below (g + 1) w w') : A2 w' g o u v :=
  ⟨Nat.lt_of_lt_of_le h.lt hb.size, (hb.cell (by simp)).trans h.c0, (hb.cell (by simp)).trans h.c1⟩
theorem next_bad {s : Sb} (hc : chk s = 0) {a b : Int} (h1 : ¬ (a < s.tail ∨ b < s.num)) (h0 : 0 ≤ a ∧ 0 ≤ b) (h : ¬ (nextS s a b).2 = 0) : 1099511627775 ≤ s.ser ∨ 1099511627776 ≤ a ∨ 1099511627776 ≤ b := by
  have hk := chk_ok hc
  refine Classical.byContradiction fun hn => ?_
  have h2 : chk (s.follow a b) = 0 := by
    refine chk_is ?_
    unfold Sb.follow
    simp only
    omega
  apply h
  unfold nextS
  rw [if_neg (by omega), if_neg h1, if_neg (by omega)]
theorem row_is {f : Nat → ByteArray} {n : Sb} {j2 : Nat} (h : n.ser % 2 = ((j2 : Nat) : Int)) : (fun i => if i = j2 then n.sec else f i) (n.ser % 2).toNat = n.sec := by
  have e : (n.ser % 2).toNat = j2 := by omega
  rw [e]
  exact if_pos rfl
theorem row_sz {f : Nat → ByteArray} {n : Sb} {j : Nat} (h : ∀ i, i < 2 → (f i).size ≤ 1000) : ∀ i, i < 2 → ((fun i => if i = j then n.sec else f i) i).size ≤ 1000 := by
  intro i hi
  show (if i = j then n.sec else f i).size ≤ 1000
  split
  · rw [sec_size]; omega
  · exact h i hi
/-- What is picked of the two strings behind a round. -/
theorem row_pick {s n : Sb} {f : Nat → ByteArray} (hs : s.Fit) (hc : chk s = 0) (hn : n.Fit) (hcn : chk n = 0) (h : n.ser = s.ser + 1) (hf : f (s.ser % 2).toNat = s.sec) :
    ∃ j j2 : Nat, j < 2 ∧ j2 < 2 ∧ s.ser % 2 = (j : Int) ∧ n.ser % 2 = (j2 : Int) ∧ j2 ≠ j ∧ pickS ((fun i => if i = j2 then n.sec else f i) 0) ((fun i => if i = j2 then n.sec else f i) 1) = (n, (j2 : Int), 0) := by
  have hg := pick_goes hs hc hn hcn h
  have h0 := (chk_ok hc).2.2.1
  rcases (by omega : s.ser % 2 = 0 ∨ s.ser % 2 = 1) with hp | hp
  · refine ⟨0, 1, by omega, by omega, hp, by rw [h]; omega, by omega, ?_⟩
    have e : f 0 = s.sec := by rw [hp] at hf; exact hf
    show pickS (if 0 = 1 then n.sec else f 0) (if 1 = 1 then n.sec else f 1) = _
    rw [if_neg (by omega), if_pos rfl, e]
    exact hg.1 hp
  · refine ⟨1, 0, by omega, by omega, hp, by rw [h]; omega, by omega, ?_⟩
    have e : f 1 = s.sec := by rw [hp] at hf; exact hf
    show pickS (if 0 = 0 then n.sec else f 0) (if 1 = 0 then n.sec else f 1) = _
    rw [if_pos rfl, if_neg (by omega), e]
    exact hg.2 hp
theorem rs_new (w : World) : Rs (w.alloc (.cells #[.string { data := #[] }, .string { data := #[] }] 9)) w.heap.size (fun _ => ByteArray.empty) :=
  ⟨by simp, fun i hi => by
    rcases (by omega : i = 0 ∨ i = 1) with rfl | rfl
    · simp; rfl
    · simp; rfl, fun i _ => by simp⟩
theorem rs_set (w : World) (C : ByteArray) {j : Nat} (hj : j < 2) : Rs (w.alloc (.cells ([Value.string { data := #[] }, .string { data := #[] }].set j (.string C)).toArray 9)) w.heap.size (fun i => if i = j then C else ByteArray.empty) :=
  ⟨by simp, fun i hi => by
    rcases (by omega : i = 0 ∨ i = 1) with rfl | rfl <;> rcases (by omega : j = 0 ∨ j = 1) with rfl | rfl <;> simp <;> rfl, fun i hi => by
    rcases (by omega : j = 0 ∨ j = 1) with rfl | rfl <;> simp⟩
set_option maxRecDepth 100000 in
set_option maxHeartbeats 16000000 in
theorem superRow_walk (s : Sb) (hs : s.Fit) (a : Option Addr) (n cap : Nat) (xs : List (Int × Int)) (W : World) (hI : Ps W a n xs) (hn : n ≤ 9223372036854775807) (T : Tab W) : Calls Tryd.prog 8 #[s.val, .slice a n cap] W fun e w' => e = .returned (.bool true) ∧ Below W.heap.size W w' := by
  have hPl := fun w => plain_any s w
  have hRc := fun w => rchk_any s hs w
  by_cases h : chk s = 0
  · rw [h] at hRc
    by_cases h20 : 20 < n
    · have h20' : (20 : Int) < (n : Int) := by omega
      clear hs hI h
      obtain ⟨key, ep, ser, siz, tail, num⟩ := s
      simp only [Sb.val] at hPl hRc ⊢
      have BB := Below.refl W.heap.size W
      have b1 := below_alloc W (.cells #[.int .u64 ((key : Nat) : Int), .int .i64 (ep), .int .i64 (ser), .int .i64 (siz), .int .i64 (tail), .int .i64 (num)] 24)
      have X : BoxC (W.alloc (.cells #[.int .u64 ((key : Nat) : Int), .int .i64 (ep), .int .i64 (ser), .int .i64 (siz), .int .i64 (tail), .int .i64 (num)] 24)) W.heap.size (key) (ep) (ser) (siz) (tail) (num) := boxC W (key) (ep) (ser) (siz) (tail) (num) 24
      replace BB := BB.trans (b1.mono BB.size)
      clear b1
      have Xc0_1 := X.c0
      have Xc1_1 := X.c1
      have Xc2_1 := X.c2
      have Xc3_1 := X.c3
      have Xc4_1 := X.c4
      have Xc5_1 := X.c5
      go_enter Tryd.func8, Tryd.ntmps8
      go_wp2_with fail
      refine (hPl _).mono ?_
      rintro e w2 ⟨rfl, b2⟩
      clear Xc0_1 Xc1_1 Xc2_1 Xc3_1 Xc4_1 Xc5_1
      replace X := X.later (b2.mono X.lt)
      replace BB := BB.trans (b2.mono BB.size)
      clear b2 
      have Xc0_2 := X.c0
      have Xc1_2 := X.c1
      have Xc2_2 := X.c2
      have Xc3_2 := X.c3
      have Xc4_2 := X.c4
      have Xc5_2 := X.c5
      go_wp2_with fail
      refine (hRc _).mono ?_
      rintro e w3 ⟨rfl, b3⟩
      clear Xc0_2 Xc1_2 Xc2_2 Xc3_2 Xc4_2 Xc5_2
      replace X := X.later (b3.mono X.lt)
      replace BB := BB.trans (b3.mono BB.size)
      clear b3 
      have Xc0_3 := X.c0
      have Xc1_3 := X.c1
      have Xc2_3 := X.c2
      have Xc3_3 := X.c3
      have Xc4_3 := X.c4
      have Xc5_3 := X.c5
      go_wp2_with fail
      refine (awake_any _ (T.later BB)).mono ?_
      rintro e w4 ⟨rfl, b4⟩
      clear Xc0_3 Xc1_3 Xc2_3 Xc3_3 Xc4_3 Xc5_3
      replace X := X.later (b4.mono X.lt)
      replace BB := BB.trans (b4.mono BB.size)
      clear b4 
      have Xc0_4 := X.c0
      have Xc1_4 := X.c1
      have Xc2_4 := X.c2
      have Xc3_4 := X.c3
      have Xc4_4 := X.c4
      have Xc5_4 := X.c5
      go_wp2
      go_ret
      exact ⟨rfl, BB⟩

    · have h20' : (n : Int) ≤ 20 := by omega
      have hE := fun w T => encode_any s hs w T
      have e1 : s.enc = s.sec := if_pos h
      have z1 := sec_size s
      have hk := chk_ok h
      rw [e1, h] at hE
      have hsec : s.sec = s.sec := rfl
      generalize hC : s.sec = C at *
      obtain ⟨key, ep, ser, siz, tail, num⟩ := s
      simp only [Sb.val] at hPl hRc hE hk ⊢
      obtain ⟨j, hj, hj1, hj2, hj3⟩ := slot_nat hk.2.2.1
      have hji : (j : Int) < 2 := by omega
      clear hsec e1
      have BB := Below.refl W.heap.size W
      have b1 := below_alloc W (.cells #[.int .u64 ((key : Nat) : Int), .int .i64 (ep), .int .i64 (ser), .int .i64 (siz), .int .i64 (tail), .int .i64 (num)] 24)
      have X : BoxC (W.alloc (.cells #[.int .u64 ((key : Nat) : Int), .int .i64 (ep), .int .i64 (ser), .int .i64 (siz), .int .i64 (tail), .int .i64 (num)] 24)) W.heap.size (key) (ep) (ser) (siz) (tail) (num) := boxC W (key) (ep) (ser) (siz) (tail) (num) 24
      replace BB := BB.trans (b1.mono BB.size)
      clear b1
      have Xc0_1 := X.c0
      have Xc1_1 := X.c1
      have Xc2_1 := X.c2
      have Xc3_1 := X.c3
      have Xc4_1 := X.c4
      have Xc5_1 := X.c5
      go_enter Tryd.func8, Tryd.ntmps8
      go_wp2_with fail
      refine (hPl _).mono ?_
      rintro e w2 ⟨rfl, b2⟩
      clear Xc0_1 Xc1_1 Xc2_1 Xc3_1 Xc4_1 Xc5_1
      replace X := X.later (b2.mono X.lt)
      replace BB := BB.trans (b2.mono BB.size)
      clear b2 
      have Xc0_2 := X.c0
      have Xc1_2 := X.c1
      have Xc2_2 := X.c2
      have Xc3_2 := X.c3
      have Xc4_2 := X.c4
      have Xc5_2 := X.c5
      go_wp2_with fail
      refine (hRc _).mono ?_
      rintro e w3 ⟨rfl, b3⟩
      clear Xc0_2 Xc1_2 Xc2_2 Xc3_2 Xc4_2 Xc5_2
      replace X := X.later (b3.mono X.lt)
      replace BB := BB.trans (b3.mono BB.size)
      clear b3 
      have Xc0_3 := X.c0
      have Xc1_3 := X.c1
      have Xc2_3 := X.c2
      have Xc3_3 := X.c3
      have Xc4_3 := X.c4
      have Xc5_3 := X.c5
      go_wp2_with fail
      refine (hE _ (T.later BB)).mono ?_
      rintro e w4 ⟨rfl, b4⟩
      clear Xc0_3 Xc1_3 Xc2_3 Xc3_3 Xc4_3 Xc5_3
      replace X := X.later (b4.mono X.lt)
      replace BB := BB.trans (b4.mono BB.size)
      clear b4 
      have Xc0_4 := X.c0
      have Xc1_4 := X.c1
      have Xc2_4 := X.c2
      have Xc3_4 := X.c3
      have Xc4_4 := X.c4
      have Xc5_4 := X.c5
      have bR := below_alloc w4 (.cells ([.string { data := #[] }, .string { data := #[] }].set j (.string C)).toArray 9)
      have R1 := hide (rs_set w4 C hj)
      have R0 : Rs (w4.alloc (.cells #[.string { data := #[] }, .string { data := #[] }] 9)) w4.heap.size (fun _ => ByteArray.empty) := rs_new _
      have r0c := R0.cell j hj
      have r0f := R0.frozen j hj
      have X2 := hide (X.later (bR.mono X.lt))
      have B2 := hide (BB.trans (bR.mono BB.size))
      have hgB : W.heap.size < w4.heap.size := X.lt
      have XX := X.later ((below_alloc w4 (.cells #[.string { data := #[] }, .string { data := #[] }] 9)).mono X.lt)
      have xx0 := XX.c0
      have xx1 := XX.c1
      have xx2 := XX.c2
      have xx3 := XX.c3
      have xx4 := XX.c4
      have xx5 := XX.c5
      go_wp2
      go_loopw [8] (fun i wr => ∃ (k : Nat) (cur : Sb) (f : Nat → ByteArray), k ≤ n ∧ i = .int .i64 k ∧ RowR W W.heap.size w4.heap.size wr cur f) (fun i _ => n - (intOf i).toNat)
      case atStart =>
        refine ⟨0, ⟨key, ep, ser, siz, tail, num⟩, _, Nat.zero_le _, rfl, ⟨hs, h, X2.out, R1.out, ?_, ?_, B2.out⟩⟩
        · show (if (ser % 2).toNat = j then C else ByteArray.empty) = _
          rw [if_pos hj3]
          exact hC.symm
        · intro i hi
          show (if i = j then C else ByteArray.empty).size ≤ 1000
          split
          · omega
          · simp
      case round =>
        obtain ⟨k, cur, f, hk, rfl, hR⟩ := hrel
        obtain ⟨hfit, hck, X, R, hcur, hfz, BB⟩ := hR
        clear hPl hRc hE hC z1 hs h hj hj1 hj2 hj3 hji
        by_cases hlt : k < n
        · obtain ⟨⟨x, y⟩, hget⟩ : ∃ p, xs[k]? = some p := ⟨xs[k]'(by rw [hI.len]; exact hlt), List.getElem?_eq_getElem _⟩
          obtain ⟨ga, off, rfl, hga, d0, d1⟩ := hI.cell k (x, y) hget
          obtain ⟨ix, iy⟩ := hI.fit (x, y) (List.mem_of_getElem? hget)
          simp only at d0 d1 ix iy
          have Aa : A2 wr ga (off + k * 2) (.int .i64 x) (.int .i64 y) := ⟨Nat.lt_of_lt_of_le hga BB.size, (BB.cell hga).trans d0, (BB.cell hga).trans d1⟩
          clear d0 d1 hget hI
          have TT := T.later BB
          have hlt' : (k : Int) < (n : Int) := by omega
          by_cases r1 : x < 0
          · obtain ⟨ck, ce, cr, cz, ct, cn⟩ := cur
            clear hfit hck hcur
            have Xc0_1 := X.c0
            have Xc1_1 := X.c1
            have Xc2_1 := X.c2
            have Xc3_1 := X.c3
            have Xc4_1 := X.c4
            have Xc5_1 := X.c5
            have Aac0_2 := Aa.c0
            have Aac1_2 := Aa.c1
            go_wp2_with fail
            refine (awake_any _ (T.later BB)).mono ?_
            rintro e w31 ⟨rfl, b31⟩
            clear Xc0_1 Xc1_1 Xc2_1 Xc3_1 Xc4_1 Xc5_1
            clear Aac0_2 Aac1_2
            replace X := X.later (b31.mono X.lt)
            replace R := R.later (b31.mono R.lt)
            replace Aa := Aa.later (b31.mono Aa.lt)
            replace BB := BB.trans (b31.mono BB.size)
            clear b31 
            have Xc0_3 := X.c0
            have Xc1_3 := X.c1
            have Xc2_3 := X.c2
            have Xc3_3 := X.c3
            have Xc4_3 := X.c4
            have Xc5_3 := X.c5
            have Aac0_4 := Aa.c0
            have Aac1_4 := Aa.c1
            go_wp2
            go_ret
            exact ⟨rfl, BB⟩
  
          · by_cases r2 : 1000 < x
            · obtain ⟨ck, ce, cr, cz, ct, cn⟩ := cur
              clear hfit hck hcur
              have Xc0_1 := X.c0
              have Xc1_1 := X.c1
              have Xc2_1 := X.c2
              have Xc3_1 := X.c3
              have Xc4_1 := X.c4
              have Xc5_1 := X.c5
              have Aac0_2 := Aa.c0
              have Aac1_2 := Aa.c1
              go_wp2_with fail
              refine (awake_any _ (T.later BB)).mono ?_
              rintro e w31 ⟨rfl, b31⟩
              clear Xc0_1 Xc1_1 Xc2_1 Xc3_1 Xc4_1 Xc5_1
              clear Aac0_2 Aac1_2
              replace X := X.later (b31.mono X.lt)
              replace R := R.later (b31.mono R.lt)
              replace Aa := Aa.later (b31.mono Aa.lt)
              replace BB := BB.trans (b31.mono BB.size)
              clear b31 
              have Xc0_3 := X.c0
              have Xc1_3 := X.c1
              have Xc2_3 := X.c2
              have Xc3_3 := X.c3
              have Xc4_3 := X.c4
              have Xc5_3 := X.c5
              have Aac0_4 := Aa.c0
              have Aac1_4 := Aa.c1
              go_wp2
              go_ret
              exact ⟨rfl, BB⟩
  
            · by_cases r3 : y < 0
              · obtain ⟨ck, ce, cr, cz, ct, cn⟩ := cur
                clear hfit hck hcur
                have Xc0_1 := X.c0
                have Xc1_1 := X.c1
                have Xc2_1 := X.c2
                have Xc3_1 := X.c3
                have Xc4_1 := X.c4
                have Xc5_1 := X.c5
                have Aac0_2 := Aa.c0
                have Aac1_2 := Aa.c1
                go_wp2_with fail
                refine (awake_any _ (T.later BB)).mono ?_
                rintro e w31 ⟨rfl, b31⟩
                clear Xc0_1 Xc1_1 Xc2_1 Xc3_1 Xc4_1 Xc5_1
                clear Aac0_2 Aac1_2
                replace X := X.later (b31.mono X.lt)
                replace R := R.later (b31.mono R.lt)
                replace Aa := Aa.later (b31.mono Aa.lt)
                replace BB := BB.trans (b31.mono BB.size)
                clear b31 
                have Xc0_3 := X.c0
                have Xc1_3 := X.c1
                have Xc2_3 := X.c2
                have Xc3_3 := X.c3
                have Xc4_3 := X.c4
                have Xc5_3 := X.c5
                have Aac0_4 := Aa.c0
                have Aac1_4 := Aa.c1
                go_wp2
                go_ret
                exact ⟨rfl, BB⟩
  
              · by_cases r4 : 1000 < y
                · obtain ⟨ck, ce, cr, cz, ct, cn⟩ := cur
                  clear hfit hck hcur
                  have Xc0_1 := X.c0
                  have Xc1_1 := X.c1
                  have Xc2_1 := X.c2
                  have Xc3_1 := X.c3
                  have Xc4_1 := X.c4
                  have Xc5_1 := X.c5
                  have Aac0_2 := Aa.c0
                  have Aac1_2 := Aa.c1
                  go_wp2_with fail
                  refine (awake_any _ (T.later BB)).mono ?_
                  rintro e w31 ⟨rfl, b31⟩
                  clear Xc0_1 Xc1_1 Xc2_1 Xc3_1 Xc4_1 Xc5_1
                  clear Aac0_2 Aac1_2
                  replace X := X.later (b31.mono X.lt)
                  replace R := R.later (b31.mono R.lt)
                  replace Aa := Aa.later (b31.mono Aa.lt)
                  replace BB := BB.trans (b31.mono BB.size)
                  clear b31 
                  have Xc0_3 := X.c0
                  have Xc1_3 := X.c1
                  have Xc2_3 := X.c2
                  have Xc3_3 := X.c3
                  have Xc4_3 := X.c4
                  have Xc5_3 := X.c5
                  have Aac0_4 := Aa.c0
                  have Aac1_4 := Aa.c1
                  go_wp2
                  go_ret
                  exact ⟨rfl, BB⟩
  
                · have hkk := chk_ok hck
                  have i1 : I64 (cur.tail + x) := by unfold I64; omega
                  have i2 : I64 (cur.num + y) := by unfold I64; omega
                  have hN := fun w => next_any cur hfit _ _ i1 i2 w
                  have hw1 : IntKind.i64.wrap (cur.tail + x) = cur.tail + x := by rw [IntKind.wrap_i64]; omega
                  have hw2 : IntKind.i64.wrap (cur.num + y) = cur.num + y := by rw [IntKind.wrap_i64]; omega
                  by_cases h2 : (nextS cur (cur.tail + x) (cur.num + y)).2 = 0
                  · obtain ⟨-, hc2, hnx, -⟩ := next_ok h2
                    have hf2 := follow_fit hfit hck i1 i2
                    obtain ⟨j, j2, hj, hj2, hp1, hp2, hjj, hpk⟩ := row_pick hfit hck hf2 hc2 rfl hcur
                    have his := row_is (f := f) (n := cur.follow (cur.tail + x) (cur.num + y)) hp2
                    have hfz2 := row_sz (n := cur.follow (cur.tail + x) (cur.num + y)) (j := j2) hfz
                    have hP := fun w T => pick_any _ _ (hfz2 0 (by omega)) (hfz2 1 (by omega)) w T
                    rw [hpk] at hP
                    rw [hnx] at hN
                    have hE2 := fun w T => encode_any (cur.follow (cur.tail + x) (cur.num + y)) hf2 w T
                    have e2 : (cur.follow (cur.tail + x) (cur.num + y)).enc = (cur.follow (cur.tail + x) (cur.num + y)).sec := if_pos hc2
                    rw [e2, hc2] at hE2
                    have hS1 := fun w => slot_any cur w
                    have hS2 := fun w => slot_any (cur.follow (cur.tail + x) (cur.num + y)) w
                    rw [hp1] at hS1
                    rw [hp2] at hS2
                    have hnew := hide (show (cur.follow (cur.tail + x) (cur.num + y)).Fit ∧ chk (cur.follow (cur.tail + x) (cur.num + y)) = 0 from ⟨hf2, hc2⟩)
                    clear hnx h2 e2 hpk hp1 hp2 hf2 hc2 hcur hck hfit i1 i2 ix iy
                    generalize hC2 : (cur.follow (cur.tail + x) (cur.num + y)).sec = C2 at *
                    replace hC2 := hide hC2
                    have R2s := fun w' (h' : Rs w' w4.heap.size f) => h'.set hj2 C2
                    generalize (fun i => if i = j2 then C2 else f i) = f2 at *
                    obtain ⟨ck, ce, cr, cz, ct, cn⟩ := cur
                    simp only [Sb.follow, Sb.val] at hN hE2 hS1 hS2 hP hw1 hw2 hkk his
                    have l1 : cr < 1099511627776 := by omega
                    have l0 : 0 ≤ cr := by omega
                    have lt0 : 0 ≤ ct := by omega
                    have lt1 : ct < 1099511627776 := by omega
                    have ln0 : 0 ≤ cn := by omega
                    have ln1 : cn < 1099511627776 := by omega
                    have hjb : (((j2 : Nat) : Int) == ((j : Nat) : Int)) = false := beq_false_of_ne (by omega)
                    have hji : ((j2 : Nat) : Int) < 2 := by omega
                    have hj1' : ¬ (1 : Int) < ((j2 : Nat) : Int) := by omega
                    clear hkk
                    have R0lt := R.lt
                    have Aac0_1 := Aa.c0
                    have Aac1_1 := Aa.c1
                    go_wp2
                    clear Aac0_1 Aac1_1
                    refine wp_region_specs_mid (n := 22) [.val (.agg #[.int .u64 ((ck : Nat) : Int), .int .i64 (ce), .int .i64 (cr), .int .i64 (cz), .int .i64 (ct), .int .i64 (cn)]), .val (.pointer (some ⟨W.heap.size, 4, none⟩)), .val (.int .i64 ct), .val (.slice (some ⟨ga, off, none⟩) n cap), .val (.int .i64 (k : Nat)), .val (.pointer (some ⟨ga, off + k * 2, none⟩)), .val (.pointer (some ⟨ga, off + k * 2, none⟩)), .val (.int .i64 x), .val (.int .i64 (ct + x)), .val (.pointer (some ⟨W.heap.size, 5, none⟩)), .val (.int .i64 cn), .val (.slice (some ⟨ga, off, none⟩) n cap), .val (.int .i64 (k : Nat)), .val (.pointer (some ⟨ga, off + k * 2, none⟩)), .val (.pointer (some ⟨ga, off + k * 2 + 1, none⟩)), .val (.int .i64 y), .val (.int .i64 (cn + y)), .val (.tuple #[.agg #[.int .u64 ((ck : Nat) : Int), .int .i64 (ce), .int .i64 (cr + 1), .int .i64 (cz), .int .i64 (ct + x), .int .i64 (cn + y)], .int .i64 0]), .val (.tuple #[.agg #[.int .u64 ((ck : Nat) : Int), .int .i64 (ce), .int .i64 (cr + 1), .int .i64 (cz), .int .i64 (ct + x), .int .i64 (cn + y)], .int .i64 0]), .val (.agg #[.int .u64 ((ck : Nat) : Int), .int .i64 (ce), .int .i64 (cr + 1), .int .i64 (cz), .int .i64 (ct + x), .int .i64 (cn + y)]), .val (.int .i64 (0)), .nbox wr.heap.size, .val (undef), .val (.int .i64 (0))] [.val (.agg #[.int .u64 ((ck : Nat) : Int), .int .i64 (ce), .int .i64 (cr), .int .i64 (cz), .int .i64 (ct), .int .i64 (cn)]), .val (.pointer (some ⟨W.heap.size, 4, none⟩)), .val (.int .i64 ct), .val (.slice (some ⟨ga, off, none⟩) n cap), .val (.int .i64 (k : Nat)), .val (.pointer (some ⟨ga, off + k * 2, none⟩)), .val (.pointer (some ⟨ga, off + k * 2, none⟩)), .val (.int .i64 x), .val (.int .i64 (ct + x)), .val (.pointer (some ⟨W.heap.size, 5, none⟩)), .val (.int .i64 cn), .val (.slice (some ⟨ga, off, none⟩) n cap), .val (.int .i64 (k : Nat)), .val (.pointer (some ⟨ga, off + k * 2, none⟩)), .val (.pointer (some ⟨ga, off + k * 2 + 1, none⟩)), .val (.int .i64 y), .val (.int .i64 (cn + y)), .val (.tuple #[.agg #[.int .u64 ((ck : Nat) : Int), .int .i64 (ce), .int .i64 (cr + 1), .int .i64 (cz), .int .i64 (ct + x), .int .i64 (cn + y)], .int .i64 0]), .val (.tuple #[.agg #[.int .u64 ((ck : Nat) : Int), .int .i64 (ce), .int .i64 (cr + 1), .int .i64 (cz), .int .i64 (ct + x), .int .i64 (cn + y)], .int .i64 0]), .val (.agg #[.int .u64 ((ck : Nat) : Int), .int .i64 (ce), .int .i64 (cr + 1), .int .i64 (cz), .int .i64 (ct + x), .int .i64 (cn + y)]), .val (.int .i64 (0)), .sbox wr.heap.size (ck) (ce) (cr + 1) (cz) (ct + x) (cn + y), .val (undef), .val (.int .i64 (0))] (by kernel_rfl) (by kernel_rfl) rfl rfl rfl ?_ ?_ ?_ ?_
                    · refine ⟨?_, ?_⟩
                      · intro hp A w1 hb ho hd
                        clear hp
                        have e2 : A.tmps[2]?.getD undef = .pointer (some ⟨W.heap.size, 0, none⟩) := olds_get ho 2 (by kernel_rfl)
                        have x0 := (X.later (hb.mono X.lt)).c0
                        have x1 := (X.later (hb.mono X.lt)).c1
                        have x2 := (X.later (hb.mono X.lt)).c2
                        have x3 := (X.later (hb.mono X.lt)).c3
                        have x4 := (X.later (hb.mono X.lt)).c4
                        have x5 := (X.later (hb.mono X.lt)).c5
                        refine ⟨rfl, goes_value (v := .agg #[.int .u64 ((ck : Nat) : Int), .int .i64 (ce), .int .i64 (cr), .int .i64 (cz), .int .i64 (ct), .int .i64 (cn)]) ?_ rfl⟩
                        simp [go_sem, e2, x0, x1, x2, x3, x4, x5]
                      refine ⟨?_, ?_⟩
                      · intro hp A w1 hb ho hd
                        clear hp
                        have e2 : A.tmps[2]?.getD undef = .pointer (some ⟨W.heap.size, 0, none⟩) := olds_get ho 2 (by kernel_rfl)
                        refine ⟨rfl, goes_value (v := .pointer (some ⟨W.heap.size, 4, none⟩)) ?_ rfl⟩
                        simp [go_sem, e2]
                      refine ⟨?_, ?_⟩
                      · intro hp A w1 hb ho hd
                        clear hp
                        have e80 : A.tmps[80]?.getD undef = .pointer (some ⟨W.heap.size, 4, none⟩) := getq (hd _ (Array.mem_of_getElem? (i := 0) rfl) rfl _ _ rfl rfl)
                        have x4 := (X.later (hb.mono X.lt)).c4
                        refine ⟨rfl, goes_value (v := .int .i64 ct) ?_ rfl⟩
                        simp [go_sem, e80, x4]
                      refine ⟨?_, ?_⟩
                      · intro hp A w1 hb ho hd
                        clear hp
                        have e1 : A.tmps[1]?.getD undef = .slice (some ⟨ga, off, none⟩) n cap := olds_get ho 1 (by kernel_rfl)
                        refine ⟨rfl, goes_value (v := .slice (some ⟨ga, off, none⟩) n cap) ?_ rfl⟩
                        simp [go_sem, e1]
                      refine ⟨?_, ?_⟩
                      · intro hp A w1 hb ho hd
                        clear hp
                        have e8 : A.tmps[8]?.getD undef = .int .i64 (k : Nat) := olds_get ho 8 (by kernel_rfl)
                        refine ⟨rfl, goes_value (v := .int .i64 (k : Nat)) ?_ rfl⟩
                        simp [go_sem, e8]
                      refine ⟨?_, ?_⟩
                      · intro hp A w1 hb ho hd
                        clear hp
                        have e82 : A.tmps[82]?.getD undef = .slice (some ⟨ga, off, none⟩) n cap := getq (hd _ (Array.mem_of_getElem? (i := 0) rfl) rfl _ _ rfl rfl)
                        have e83 : A.tmps[83]?.getD undef = .int .i64 (k : Nat) := getq (hd _ (Array.mem_of_getElem? (i := 1) rfl) rfl _ _ rfl rfl)
                        refine ⟨rfl, goes_value (v := .pointer (some ⟨ga, off + k * 2, none⟩)) ?_ rfl⟩
                        simp [go_sem, e82, e83, hlt']
                      refine ⟨?_, ?_⟩
                      · intro hp A w1 hb ho hd
                        clear hp
                        have e84 : A.tmps[84]?.getD undef = .pointer (some ⟨ga, off + k * 2, none⟩) := getq (hd _ (Array.mem_of_getElem? (i := 0) rfl) rfl _ _ rfl rfl)
                        refine ⟨rfl, goes_value (v := .pointer (some ⟨ga, off + k * 2, none⟩)) ?_ rfl⟩
                        simp [go_sem, e84]
                      refine ⟨?_, ?_⟩
                      · intro hp A w1 hb ho hd
                        clear hp
                        have e85 : A.tmps[85]?.getD undef = .pointer (some ⟨ga, off + k * 2, none⟩) := getq (hd _ (Array.mem_of_getElem? (i := 0) rfl) rfl _ _ rfl rfl)
                        have a0 := (Aa.later (hb.mono Aa.lt)).c0
                        refine ⟨rfl, goes_value (v := .int .i64 x) ?_ rfl⟩
                        simp [go_sem, e85, a0]
                      refine ⟨?_, ?_⟩
                      · intro hp A w1 hb ho hd
                        clear hp
                        have e81 : A.tmps[81]?.getD undef = .int .i64 ct := getq (hd _ (Array.mem_of_getElem? (i := 0) rfl) rfl _ _ rfl rfl)
                        have e86 : A.tmps[86]?.getD undef = .int .i64 x := getq (hd _ (Array.mem_of_getElem? (i := 1) rfl) rfl _ _ rfl rfl)
                        refine ⟨rfl, goes_value (v := .int .i64 (ct + x)) ?_ rfl⟩
                        simp [go_sem, e81, e86, hw1]
                      refine ⟨?_, ?_⟩
                      · intro hp A w1 hb ho hd
                        clear hp
                        have e2 : A.tmps[2]?.getD undef = .pointer (some ⟨W.heap.size, 0, none⟩) := olds_get ho 2 (by kernel_rfl)
                        refine ⟨rfl, goes_value (v := .pointer (some ⟨W.heap.size, 5, none⟩)) ?_ rfl⟩
                        simp [go_sem, e2]
                      refine ⟨?_, ?_⟩
                      · intro hp A w1 hb ho hd
                        clear hp
                        have e88 : A.tmps[88]?.getD undef = .pointer (some ⟨W.heap.size, 5, none⟩) := getq (hd _ (Array.mem_of_getElem? (i := 0) rfl) rfl _ _ rfl rfl)
                        have x5 := (X.later (hb.mono X.lt)).c5
                        refine ⟨rfl, goes_value (v := .int .i64 cn) ?_ rfl⟩
                        simp [go_sem, e88, x5]
                      refine ⟨?_, ?_⟩
                      · intro hp A w1 hb ho hd
                        clear hp
                        have e1 : A.tmps[1]?.getD undef = .slice (some ⟨ga, off, none⟩) n cap := olds_get ho 1 (by kernel_rfl)
                        refine ⟨rfl, goes_value (v := .slice (some ⟨ga, off, none⟩) n cap) ?_ rfl⟩
                        simp [go_sem, e1]
                      refine ⟨?_, ?_⟩
                      · intro hp A w1 hb ho hd
                        clear hp
                        have e8 : A.tmps[8]?.getD undef = .int .i64 (k : Nat) := olds_get ho 8 (by kernel_rfl)
                        refine ⟨rfl, goes_value (v := .int .i64 (k : Nat)) ?_ rfl⟩
                        simp [go_sem, e8]
                      refine ⟨?_, ?_⟩
                      · intro hp A w1 hb ho hd
                        clear hp
                        have e90 : A.tmps[90]?.getD undef = .slice (some ⟨ga, off, none⟩) n cap := getq (hd _ (Array.mem_of_getElem? (i := 0) rfl) rfl _ _ rfl rfl)
                        have e91 : A.tmps[91]?.getD undef = .int .i64 (k : Nat) := getq (hd _ (Array.mem_of_getElem? (i := 1) rfl) rfl _ _ rfl rfl)
                        refine ⟨rfl, goes_value (v := .pointer (some ⟨ga, off + k * 2, none⟩)) ?_ rfl⟩
                        simp [go_sem, e90, e91, hlt']
                      refine ⟨?_, ?_⟩
                      · intro hp A w1 hb ho hd
                        clear hp
                        have e92 : A.tmps[92]?.getD undef = .pointer (some ⟨ga, off + k * 2, none⟩) := getq (hd _ (Array.mem_of_getElem? (i := 0) rfl) rfl _ _ rfl rfl)
                        refine ⟨rfl, goes_value (v := .pointer (some ⟨ga, off + k * 2 + 1, none⟩)) ?_ rfl⟩
                        simp [go_sem, e92]
                      refine ⟨?_, ?_⟩
                      · intro hp A w1 hb ho hd
                        clear hp
                        have e93 : A.tmps[93]?.getD undef = .pointer (some ⟨ga, off + k * 2 + 1, none⟩) := getq (hd _ (Array.mem_of_getElem? (i := 0) rfl) rfl _ _ rfl rfl)
                        have a1 := (Aa.later (hb.mono Aa.lt)).c1
                        refine ⟨rfl, goes_value (v := .int .i64 y) ?_ rfl⟩
                        simp [go_sem, e93, a1]
                      refine ⟨?_, ?_⟩
                      · intro hp A w1 hb ho hd
                        clear hp
                        have e89 : A.tmps[89]?.getD undef = .int .i64 cn := getq (hd _ (Array.mem_of_getElem? (i := 0) rfl) rfl _ _ rfl rfl)
                        have e94 : A.tmps[94]?.getD undef = .int .i64 y := getq (hd _ (Array.mem_of_getElem? (i := 1) rfl) rfl _ _ rfl rfl)
                        refine ⟨rfl, goes_value (v := .int .i64 (cn + y)) ?_ rfl⟩
                        simp [go_sem, e89, e94, hw2]
                      refine ⟨?_, ?_⟩
                      · intro hp A w1 hb ho hd
                        clear hp
                        have e79 : A.tmps[79]?.getD undef = .agg #[.int .u64 ((ck : Nat) : Int), .int .i64 (ce), .int .i64 (cr), .int .i64 (cz), .int .i64 (ct), .int .i64 (cn)] := getq (hd _ (Array.mem_of_getElem? (i := 0) rfl) rfl _ _ rfl rfl)
                        have e87 : A.tmps[87]?.getD undef = .int .i64 (ct + x) := getq (hd _ (Array.mem_of_getElem? (i := 1) rfl) rfl _ _ rfl rfl)
                        have e95 : A.tmps[95]?.getD undef = .int .i64 (cn + y) := getq (hd _ (Array.mem_of_getElem? (i := 2) rfl) rfl _ _ rfl rfl)
                        refine ⟨rfl, goes_call (f := 20) (args := #[.agg #[.int .u64 ((ck : Nat) : Int), .int .i64 (ce), .int .i64 (cr), .int .i64 (cz), .int .i64 (ct), .int .i64 (cn)], .int .i64 (ct + x), .int .i64 (cn + y)]) ?_ (hN w1)⟩
                        simp [go_sem, e79, e87, e95]
                      refine ⟨?_, ?_⟩
                      · intro hp A w1 hb ho hd
                        clear hp
                        have e96 : A.tmps[96]?.getD undef = .tuple #[.agg #[.int .u64 ((ck : Nat) : Int), .int .i64 (ce), .int .i64 (cr + 1), .int .i64 (cz), .int .i64 (ct + x), .int .i64 (cn + y)], .int .i64 0] := getq (hd _ (Array.mem_of_getElem? (i := 0) rfl) rfl _ _ rfl rfl)
                        refine ⟨rfl, goes_value (v := .tuple #[.agg #[.int .u64 ((ck : Nat) : Int), .int .i64 (ce), .int .i64 (cr + 1), .int .i64 (cz), .int .i64 (ct + x), .int .i64 (cn + y)], .int .i64 0]) ?_ rfl⟩
                        simp [go_sem, e96]
                      refine ⟨?_, ?_⟩
                      · intro hp A w1 hb ho hd
                        clear hp
                        have e78 : A.tmps[78]?.getD undef = .tuple #[.agg #[.int .u64 ((ck : Nat) : Int), .int .i64 (ce), .int .i64 (cr + 1), .int .i64 (cz), .int .i64 (ct + x), .int .i64 (cn + y)], .int .i64 0] := getq (hd _ (Array.mem_of_getElem? (i := 0) rfl) rfl _ _ rfl rfl)
                        refine ⟨rfl, goes_value (v := .agg #[.int .u64 ((ck : Nat) : Int), .int .i64 (ce), .int .i64 (cr + 1), .int .i64 (cz), .int .i64 (ct + x), .int .i64 (cn + y)]) ?_ rfl⟩
                        simp [go_sem, e78]
                      refine ⟨?_, ?_⟩
                      · intro hp A w1 hb ho hd
                        clear hp
                        have e78 : A.tmps[78]?.getD undef = .tuple #[.agg #[.int .u64 ((ck : Nat) : Int), .int .i64 (ce), .int .i64 (cr + 1), .int .i64 (cz), .int .i64 (ct + x), .int .i64 (cn + y)], .int .i64 0] := getq (hd _ (Array.mem_of_getElem? (i := 0) rfl) rfl _ _ rfl rfl)
                        refine ⟨rfl, goes_value (v := .int .i64 (0)) ?_ rfl⟩
                        simp [go_sem, e78]
                      refine ⟨?_, ?_⟩
                      · intro hp A w1 hb ho hd
                        clear hp
                        refine ⟨rfl, goes_alloc (v := .pointer (some ⟨w1.heap.size, 0, none⟩)) (o := .cells #[.int .u64 ((0 : Nat) : Int), .int .i64 0, .int .i64 0, .int .i64 0, .int .i64 0, .int .i64 0] 24) ?_ ⟨_, rfl, hb.size, boxC _ 0 0 0 0 0 0 24⟩⟩
                        simp [go_sem]
                      refine ⟨?_, ?_⟩
                      · exact fun hp => absurd hp (by decide)
                      refine ⟨?_, ?_⟩
                      · intro hp A w1 hb ho hd
                        clear hp
                        have e98 : A.tmps[98]?.getD undef = .int .i64 (0) := getq (hd _ (Array.mem_of_getElem? (i := 0) rfl) rfl _ _ rfl rfl)
                        refine ⟨rfl, goes_value (v := .int .i64 (0)) ?_ rfl⟩
                        simp [go_sem, e98]
                      trivial
                    · refine ⟨?_, ?_⟩
                      · exact not_needed (by kernel_rfl)
                      refine ⟨?_, ?_⟩
                      · exact not_needed (by kernel_rfl)
                      refine ⟨?_, ?_⟩
                      · exact not_needed (by kernel_rfl)
                      refine ⟨?_, ?_⟩
                      · exact not_needed (by kernel_rfl)
                      refine ⟨?_, ?_⟩
                      · exact not_needed (by kernel_rfl)
                      refine ⟨?_, ?_⟩
                      · exact not_needed (by kernel_rfl)
                      refine ⟨?_, ?_⟩
                      · exact not_needed (by kernel_rfl)
                      refine ⟨?_, ?_⟩
                      · exact not_needed (by kernel_rfl)
                      refine ⟨?_, ?_⟩
                      · exact not_needed (by kernel_rfl)
                      refine ⟨?_, ?_⟩
                      · exact not_needed (by kernel_rfl)
                      refine ⟨?_, ?_⟩
                      · exact not_needed (by kernel_rfl)
                      refine ⟨?_, ?_⟩
                      · exact not_needed (by kernel_rfl)
                      refine ⟨?_, ?_⟩
                      · exact not_needed (by kernel_rfl)
                      refine ⟨?_, ?_⟩
                      · exact not_needed (by kernel_rfl)
                      refine ⟨?_, ?_⟩
                      · exact not_needed (by kernel_rfl)
                      refine ⟨?_, ?_⟩
                      · exact not_needed (by kernel_rfl)
                      refine ⟨?_, ?_⟩
                      · exact not_needed (by kernel_rfl)
                      refine ⟨?_, ?_⟩
                      · exact not_needed (by kernel_rfl)
                      refine ⟨?_, ?_⟩
                      · exact not_needed (by kernel_rfl)
                      refine ⟨?_, ?_⟩
                      · exact not_needed (by kernel_rfl)
                      refine ⟨?_, ?_⟩
                      · intro hp A w1 hb ho hd
                        clear hp
                        have e78 : A.tmps[78]?.getD undef = .tuple #[.agg #[.int .u64 ((ck : Nat) : Int), .int .i64 (ce), .int .i64 (cr + 1), .int .i64 (cz), .int .i64 (ct + x), .int .i64 (cn + y)], .int .i64 0] := getq (hd _ (Array.mem_of_getElem? (i := 0) rfl) rfl _ _ rfl rfl)
                        refine ⟨rfl, goes_value (v := .int .i64 (0)) ?_ rfl⟩
                        simp [go_sem, e78]
                      refine ⟨?_, ?_⟩
                      · exact not_needed (by kernel_rfl)
                      refine ⟨?_, ?_⟩
                      · exact not_needed (by kernel_rfl)
                      refine ⟨?_, ?_⟩
                      · intro hp A w1 hb ho hd
                        clear hp
                        have e98 : A.tmps[98]?.getD undef = .int .i64 (0) := getq (hd _ (Array.mem_of_getElem? (i := 0) rfl) rfl _ _ rfl rfl)
                        refine ⟨rfl, goes_value (v := .int .i64 (0)) ?_ rfl⟩
                        simp [go_sem, e98]
                      trivial
                    · intro A w2 hb ho hd
                      obtain ⟨g, hg, hge, Zb⟩ := hd _ (Array.mem_of_getElem? (i := 0) rfl) rfl _ _ rfl rfl
                      have eB := getq hg
                      have eV : A.tmps[97]?.getD undef = .agg #[.int .u64 ((ck : Nat) : Int), .int .i64 (ce), .int .i64 (cr + 1), .int .i64 (cz), .int .i64 (ct + x), .int .i64 (cn + y)] := getq (hd _ (Array.mem_of_getElem? (i := 1) rfl) rfl _ _ rfl rfl)
                      have zc0 := Zb.c0
                      have zc1 := Zb.c1
                      have zc2 := Zb.c2
                      have zc3 := Zb.c3
                      have zc4 := Zb.c4
                      have zc5 := Zb.c5
                      have zf0 := Zb.fr 0 (by omega)
                      have zf1 := Zb.fr 1 (by omega)
                      have zf2 := Zb.fr 2 (by omega)
                      have zf3 := Zb.fr 3 (by omega)
                      have zf4 := Zb.fr 4 (by omega)
                      have zf5 := Zb.fr 5 (by omega)
                      refine ⟨_, by simp [go_sem, eB, eV, zc0, zc1, zc2, zc3, zc4, zc5, zf0, zf1, zf2, zf3, zf4, zf5]; rfl, ?_, ?_⟩
                      · exact BoxC.below Zb hb hge (ck) (ce) (cr + 1) (cz) (ct + x) (cn + y)
                      · intro j o d hj hdst h
                        match j, hj, hdst, h with
                        | 0, _, _, h => exact h
                        | 1, _, _, h => exact h
                        | 2, _, _, h => exact h
                        | 3, _, _, h => exact h
                        | 4, _, _, h => exact h
                        | 5, _, _, h => exact h
                        | 6, _, _, h => exact h
                        | 7, _, _, h => exact h
                        | 8, _, _, h => exact h
                        | 9, _, _, h => exact h
                        | 10, _, _, h => exact h
                        | 11, _, _, h => exact h
                        | 12, _, _, h => exact h
                        | 13, _, _, h => exact h
                        | 14, _, _, h => exact h
                        | 15, _, _, h => exact h
                        | 16, _, _, h => exact h
                        | 17, _, _, h => exact h
                        | 18, _, _, h => exact h
                        | 19, _, _, h => exact h
                        | 20, _, _, h => exact h
                        | 21, hj, hdst, _ =>
                          cases hj
                          cases hdst
                          exact ⟨g, hg, hge, Zb.put (ck) (ce) (cr + 1) (cz) (ct + x) (cn + y)⟩
                        | 22, _, _, h => exact h
                        | 23, _, _, h => exact h
                        | j + 24, hj, _, _ => simp at hj
                    intro A w9 hb9 hdf hsz hol hft
                    obtain ⟨gx, hgx, hgxe, XN⟩ := hft 21 _ 9 rfl rfl
                    have m79 : A.tmps.getD 79 undef = .agg #[.int .u64 ((ck : Nat) : Int), .int .i64 (ce), .int .i64 (cr), .int .i64 (cz), .int .i64 (ct), .int .i64 (cn)] := hft 0 _ 79 rfl rfl
                    have m80 : A.tmps.getD 80 undef = .pointer (some ⟨W.heap.size, 4, none⟩) := hft 1 _ 80 rfl rfl
                    have m81 : A.tmps.getD 81 undef = .int .i64 ct := hft 2 _ 81 rfl rfl
                    have m82 : A.tmps.getD 82 undef = .slice (some ⟨ga, off, none⟩) n cap := hft 3 _ 82 rfl rfl
                    have m83 : A.tmps.getD 83 undef = .int .i64 (k : Nat) := hft 4 _ 83 rfl rfl
                    have m84 : A.tmps.getD 84 undef = .pointer (some ⟨ga, off + k * 2, none⟩) := hft 5 _ 84 rfl rfl
                    have m85 : A.tmps.getD 85 undef = .pointer (some ⟨ga, off + k * 2, none⟩) := hft 6 _ 85 rfl rfl
                    have m86 : A.tmps.getD 86 undef = .int .i64 x := hft 7 _ 86 rfl rfl
                    have m87 : A.tmps.getD 87 undef = .int .i64 (ct + x) := hft 8 _ 87 rfl rfl
                    have m88 : A.tmps.getD 88 undef = .pointer (some ⟨W.heap.size, 5, none⟩) := hft 9 _ 88 rfl rfl
                    have m89 : A.tmps.getD 89 undef = .int .i64 cn := hft 10 _ 89 rfl rfl
                    have m90 : A.tmps.getD 90 undef = .slice (some ⟨ga, off, none⟩) n cap := hft 11 _ 90 rfl rfl
                    have m91 : A.tmps.getD 91 undef = .int .i64 (k : Nat) := hft 12 _ 91 rfl rfl
                    have m92 : A.tmps.getD 92 undef = .pointer (some ⟨ga, off + k * 2, none⟩) := hft 13 _ 92 rfl rfl
                    have m93 : A.tmps.getD 93 undef = .pointer (some ⟨ga, off + k * 2 + 1, none⟩) := hft 14 _ 93 rfl rfl
                    have m94 : A.tmps.getD 94 undef = .int .i64 y := hft 15 _ 94 rfl rfl
                    have m95 : A.tmps.getD 95 undef = .int .i64 (cn + y) := hft 16 _ 95 rfl rfl
                    have m96 : A.tmps.getD 96 undef = .tuple #[.agg #[.int .u64 ((ck : Nat) : Int), .int .i64 (ce), .int .i64 (cr + 1), .int .i64 (cz), .int .i64 (ct + x), .int .i64 (cn + y)], .int .i64 0] := hft 17 _ 96 rfl rfl
                    have m78 : A.tmps.getD 78 undef = .tuple #[.agg #[.int .u64 ((ck : Nat) : Int), .int .i64 (ce), .int .i64 (cr + 1), .int .i64 (cz), .int .i64 (ct + x), .int .i64 (cn + y)], .int .i64 0] := hft 18 _ 78 rfl rfl
                    have m97 : A.tmps.getD 97 undef = .agg #[.int .u64 ((ck : Nat) : Int), .int .i64 (ce), .int .i64 (cr + 1), .int .i64 (cz), .int .i64 (ct + x), .int .i64 (cn + y)] := hft 19 _ 97 rfl rfl
                    have m98 : A.tmps.getD 98 undef = .int .i64 (0) := hft 20 _ 98 rfl rfl
                    have m10 : A.tmps.getD 10 undef = .int .i64 (0) := hft 23 _ 10 rfl rfl
                    rename_i KK hKK
                    refine hKK _ _ ?_
                    show Code.wp _ _ _ A w9
                    rw [frame_puts hdf hsz hol]
                    simp only [List.foldl_cons, List.foldl_nil, Act.put, Option.getD_some, m79, m80, m81, m82, m83, m84, m85, m86, m87, m88, m89, m90, m91, m92, m93, m94, m95, m96, m78, m97, m98, m10, hgx, List.setIfInBounds_toArray, List.set_cons_succ, List.set_cons_zero]
                    clear m79 m80 m81 m82 m83 m84 m85 m86 m87 m88 m89 m90 m91 m92 m93 m94 m95 m96 m78 m97 m98 m10 hft hol hsz hdf hKK hgx
                    replace X := X.later (hb9.mono X.lt)
                    replace R := R.later (hb9.mono R.lt)
                    replace Aa := Aa.later (hb9.mono Aa.lt)
                    replace BB := BB.trans (hb9.mono BB.size)
                    have gne : gx ≠ w4.heap.size := by have := R0lt; omega
                    clear hb9
                    have XNc0_2 := XN.c0
                    have XNc1_2 := XN.c1
                    have XNc2_2 := XN.c2
                    have XNc3_2 := XN.c3
                    have XNc4_2 := XN.c4
                    have XNc5_2 := XN.c5
                    have Xc0_3 := X.c0
                    have Xc1_3 := X.c1
                    have Xc2_3 := X.c2
                    have Xc3_3 := X.c3
                    have Xc4_3 := X.c4
                    have Xc5_3 := X.c5
                    go_wp2_with fail
                    refine (hE2 _ (T.later BB)).mono ?_
                    rintro e w31 ⟨rfl, b31⟩
                    clear XNc0_2 XNc1_2 XNc2_2 XNc3_2 XNc4_2 XNc5_2
                    clear Xc0_3 Xc1_3 Xc2_3 Xc3_3 Xc4_3 Xc5_3
                    replace X := X.later (b31.mono X.lt)
                    replace R := R.later (b31.mono R.lt)
                    replace Aa := Aa.later (b31.mono Aa.lt)
                    replace XN := XN.later (b31.mono XN.lt)
                    replace BB := BB.trans (b31.mono BB.size)
                    clear b31 
                    have XNc0_4 := XN.c0
                    have XNc1_4 := XN.c1
                    have XNc2_4 := XN.c2
                    have XNc3_4 := XN.c3
                    have XNc4_4 := XN.c4
                    have XNc5_4 := XN.c5
                    have Xc0_5 := X.c0
                    have Xc1_5 := X.c1
                    have Xc2_5 := X.c2
                    have Xc3_5 := X.c3
                    have Xc4_5 := X.c4
                    have Xc5_5 := X.c5
                    go_wp2_with fail
                    refine (hS2 _).mono ?_
                    rintro e w32 ⟨rfl, b32⟩
                    clear XNc0_4 XNc1_4 XNc2_4 XNc3_4 XNc4_4 XNc5_4
                    clear Xc0_5 Xc1_5 Xc2_5 Xc3_5 Xc4_5 Xc5_5
                    replace X := X.later (b32.mono X.lt)
                    replace R := R.later (b32.mono R.lt)
                    replace Aa := Aa.later (b32.mono Aa.lt)
                    replace XN := XN.later (b32.mono XN.lt)
                    replace BB := BB.trans (b32.mono BB.size)
                    clear b32 
                    have XNc0_6 := XN.c0
                    have XNc1_6 := XN.c1
                    have XNc2_6 := XN.c2
                    have XNc3_6 := XN.c3
                    have XNc4_6 := XN.c4
                    have XNc5_6 := XN.c5
                    have Xc0_7 := X.c0
                    have Xc1_7 := X.c1
                    have Xc2_7 := X.c2
                    have Xc3_7 := X.c3
                    have Xc4_7 := X.c4
                    have Xc5_7 := X.c5
                    go_wp2_with fail
                    refine (hS1 _).mono ?_
                    rintro e w33 ⟨rfl, b33⟩
                    clear XNc0_6 XNc1_6 XNc2_6 XNc3_6 XNc4_6 XNc5_6
                    clear Xc0_7 Xc1_7 Xc2_7 Xc3_7 Xc4_7 Xc5_7
                    replace X := X.later (b33.mono X.lt)
                    replace R := R.later (b33.mono R.lt)
                    replace Aa := Aa.later (b33.mono Aa.lt)
                    replace XN := XN.later (b33.mono XN.lt)
                    replace BB := BB.trans (b33.mono BB.size)
                    clear b33 
                    have XNc0_8 := XN.c0
                    have XNc1_8 := XN.c1
                    have XNc2_8 := XN.c2
                    have XNc3_8 := XN.c3
                    have XNc4_8 := XN.c4
                    have XNc5_8 := XN.c5
                    have Xc0_9 := X.c0
                    have Xc1_9 := X.c1
                    have Xc2_9 := X.c2
                    have Xc3_9 := X.c3
                    have Xc4_9 := X.c4
                    have Xc5_9 := X.c5
                    have rc := R.cell j2 hj2
                    have rf := R.frozen j2 hj2
                    have R3 := hide (R2s w33 R)
                    have X3 := hide (X.far1 (b := w4.heap.size) (by omega) j2 (.string C2))
                    have XN3 := hide (XN.far1 (b := w4.heap.size) (by omega) j2 (.string C2))
                    have BB3 := hide (below_set BB (g := w4.heap.size) (by omega) j2 (.string C2))
                    go_wp2
                    clear XNc0_8 XNc1_8 XNc2_8 XNc3_8 XNc4_8 XNc5_8
                    clear Xc0_9 Xc1_9 Xc2_9 Xc3_9 Xc4_9 Xc5_9
                    clear rc rf R2s R X XN BB Aa
                    have R := R3.out
                    have X := X3.out
                    have XN := XN3.out
                    have BB := BB3.out
                    clear R3 X3 XN3 BB3
                    generalize hwq : World.setCell w33 _ _ = wq at *
                    clear hwq
                    have TQ := T.later BB
                    refine wp_region_specs_mid (n := 12) [.val (.slice (some ⟨w4.heap.size, 0, none⟩) 2 2), .val (.pointer (some ⟨w4.heap.size, 0, none⟩)), .val (.string (f2 0)), .val (.slice (some ⟨w4.heap.size, 0, none⟩) 2 2), .val (.pointer (some ⟨w4.heap.size, 1, none⟩)), .val (.string (f2 1)), .val (.tuple #[.agg #[.int .u64 ((ck : Nat) : Int), .int .i64 (ce), .int .i64 (cr + 1), .int .i64 (cz), .int .i64 (ct + x), .int .i64 (cn + y)], .int .i64 ((j2 : Nat) : Int), .int .i64 0]), .val (.tuple #[.agg #[.int .u64 ((ck : Nat) : Int), .int .i64 (ce), .int .i64 (cr + 1), .int .i64 (cz), .int .i64 (ct + x), .int .i64 (cn + y)], .int .i64 ((j2 : Nat) : Int), .int .i64 0]), .val (.agg #[.int .u64 ((ck : Nat) : Int), .int .i64 (ce), .int .i64 (cr + 1), .int .i64 (cz), .int .i64 (ct + x), .int .i64 (cn + y)]), .val (.int .i64 ((j2 : Nat) : Int)), .val (.int .i64 0), .nbox wq.heap.size, .val (undef), .val (.int .i64 ((j2 : Nat) : Int)), .val (.int .i64 0)] [.val (.slice (some ⟨w4.heap.size, 0, none⟩) 2 2), .val (.pointer (some ⟨w4.heap.size, 0, none⟩)), .val (.string (f2 0)), .val (.slice (some ⟨w4.heap.size, 0, none⟩) 2 2), .val (.pointer (some ⟨w4.heap.size, 1, none⟩)), .val (.string (f2 1)), .val (.tuple #[.agg #[.int .u64 ((ck : Nat) : Int), .int .i64 (ce), .int .i64 (cr + 1), .int .i64 (cz), .int .i64 (ct + x), .int .i64 (cn + y)], .int .i64 ((j2 : Nat) : Int), .int .i64 0]), .val (.tuple #[.agg #[.int .u64 ((ck : Nat) : Int), .int .i64 (ce), .int .i64 (cr + 1), .int .i64 (cz), .int .i64 (ct + x), .int .i64 (cn + y)], .int .i64 ((j2 : Nat) : Int), .int .i64 0]), .val (.agg #[.int .u64 ((ck : Nat) : Int), .int .i64 (ce), .int .i64 (cr + 1), .int .i64 (cz), .int .i64 (ct + x), .int .i64 (cn + y)]), .val (.int .i64 ((j2 : Nat) : Int)), .val (.int .i64 0), .sbox wq.heap.size (ck) (ce) (cr + 1) (cz) (ct + x) (cn + y), .val (undef), .val (.int .i64 ((j2 : Nat) : Int)), .val (.int .i64 0)] (by kernel_rfl) (by kernel_rfl) rfl rfl rfl ?_ ?_ ?_ ?_
                    · refine ⟨?_, ?_⟩
                      · intro hp A w1 hb ho hd
                        clear hp
                        have e7 : A.tmps[7]?.getD undef = .slice (some ⟨w4.heap.size, 0, none⟩) 2 2 := olds_get ho 7 (by kernel_rfl)
                        refine ⟨rfl, goes_value (v := .slice (some ⟨w4.heap.size, 0, none⟩) 2 2) ?_ rfl⟩
                        simp [go_sem, e7]
                      refine ⟨?_, ?_⟩
                      · intro hp A w1 hb ho hd
                        clear hp
                        have e165 : A.tmps[165]?.getD undef = .slice (some ⟨w4.heap.size, 0, none⟩) 2 2 := getq (hd _ (Array.mem_of_getElem? (i := 0) rfl) rfl _ _ rfl rfl)
                        refine ⟨rfl, goes_value (v := .pointer (some ⟨w4.heap.size, 0, none⟩)) ?_ rfl⟩
                        simp [go_sem, e165]
                      refine ⟨?_, ?_⟩
                      · intro hp A w1 hb ho hd
                        clear hp
                        have e166 : A.tmps[166]?.getD undef = .pointer (some ⟨w4.heap.size, 0, none⟩) := getq (hd _ (Array.mem_of_getElem? (i := 0) rfl) rfl _ _ rfl rfl)
                        have cz := (R.later (hb.mono R.lt)).cell 0 (by omega)
                        refine ⟨rfl, goes_value (v := .string (f2 0)) ?_ rfl⟩
                        simp [go_sem, e166, cz]
                      refine ⟨?_, ?_⟩
                      · intro hp A w1 hb ho hd
                        clear hp
                        have e7 : A.tmps[7]?.getD undef = .slice (some ⟨w4.heap.size, 0, none⟩) 2 2 := olds_get ho 7 (by kernel_rfl)
                        refine ⟨rfl, goes_value (v := .slice (some ⟨w4.heap.size, 0, none⟩) 2 2) ?_ rfl⟩
                        simp [go_sem, e7]
                      refine ⟨?_, ?_⟩
                      · intro hp A w1 hb ho hd
                        clear hp
                        have e168 : A.tmps[168]?.getD undef = .slice (some ⟨w4.heap.size, 0, none⟩) 2 2 := getq (hd _ (Array.mem_of_getElem? (i := 0) rfl) rfl _ _ rfl rfl)
                        refine ⟨rfl, goes_value (v := .pointer (some ⟨w4.heap.size, 1, none⟩)) ?_ rfl⟩
                        simp [go_sem, e168]
                      refine ⟨?_, ?_⟩
                      · intro hp A w1 hb ho hd
                        clear hp
                        have e169 : A.tmps[169]?.getD undef = .pointer (some ⟨w4.heap.size, 1, none⟩) := getq (hd _ (Array.mem_of_getElem? (i := 0) rfl) rfl _ _ rfl rfl)
                        have cz := (R.later (hb.mono R.lt)).cell 1 (by omega)
                        refine ⟨rfl, goes_value (v := .string (f2 1)) ?_ rfl⟩
                        simp [go_sem, e169, cz]
                      refine ⟨?_, ?_⟩
                      · intro hp A w1 hb ho hd
                        clear hp
                        have e167 : A.tmps[167]?.getD undef = .string (f2 0) := getq (hd _ (Array.mem_of_getElem? (i := 0) rfl) rfl _ _ rfl rfl)
                        have e170 : A.tmps[170]?.getD undef = .string (f2 1) := getq (hd _ (Array.mem_of_getElem? (i := 1) rfl) rfl _ _ rfl rfl)
                        refine ⟨rfl, goes_call (f := 18) (args := #[.string (f2 0), .string (f2 1)]) ?_ (hP w1 (TQ.later hb))⟩
                        simp [go_sem, e167, e170]
                      refine ⟨?_, ?_⟩
                      · intro hp A w1 hb ho hd
                        clear hp
                        have e171 : A.tmps[171]?.getD undef = .tuple #[.agg #[.int .u64 ((ck : Nat) : Int), .int .i64 (ce), .int .i64 (cr + 1), .int .i64 (cz), .int .i64 (ct + x), .int .i64 (cn + y)], .int .i64 ((j2 : Nat) : Int), .int .i64 0] := getq (hd _ (Array.mem_of_getElem? (i := 0) rfl) rfl _ _ rfl rfl)
                        refine ⟨rfl, goes_value (v := .tuple #[.agg #[.int .u64 ((ck : Nat) : Int), .int .i64 (ce), .int .i64 (cr + 1), .int .i64 (cz), .int .i64 (ct + x), .int .i64 (cn + y)], .int .i64 ((j2 : Nat) : Int), .int .i64 0]) ?_ rfl⟩
                        simp [go_sem, e171]
                      refine ⟨?_, ?_⟩
                      · intro hp A w1 hb ho hd
                        clear hp
                        have e164 : A.tmps[164]?.getD undef = .tuple #[.agg #[.int .u64 ((ck : Nat) : Int), .int .i64 (ce), .int .i64 (cr + 1), .int .i64 (cz), .int .i64 (ct + x), .int .i64 (cn + y)], .int .i64 ((j2 : Nat) : Int), .int .i64 0] := getq (hd _ (Array.mem_of_getElem? (i := 0) rfl) rfl _ _ rfl rfl)
                        refine ⟨rfl, goes_value (v := .agg #[.int .u64 ((ck : Nat) : Int), .int .i64 (ce), .int .i64 (cr + 1), .int .i64 (cz), .int .i64 (ct + x), .int .i64 (cn + y)]) ?_ rfl⟩
                        simp [go_sem, e164]
                      refine ⟨?_, ?_⟩
                      · intro hp A w1 hb ho hd
                        clear hp
                        have e164 : A.tmps[164]?.getD undef = .tuple #[.agg #[.int .u64 ((ck : Nat) : Int), .int .i64 (ce), .int .i64 (cr + 1), .int .i64 (cz), .int .i64 (ct + x), .int .i64 (cn + y)], .int .i64 ((j2 : Nat) : Int), .int .i64 0] := getq (hd _ (Array.mem_of_getElem? (i := 0) rfl) rfl _ _ rfl rfl)
                        refine ⟨rfl, goes_value (v := .int .i64 ((j2 : Nat) : Int)) ?_ rfl⟩
                        simp [go_sem, e164]
                      refine ⟨?_, ?_⟩
                      · intro hp A w1 hb ho hd
                        clear hp
                        have e164 : A.tmps[164]?.getD undef = .tuple #[.agg #[.int .u64 ((ck : Nat) : Int), .int .i64 (ce), .int .i64 (cr + 1), .int .i64 (cz), .int .i64 (ct + x), .int .i64 (cn + y)], .int .i64 ((j2 : Nat) : Int), .int .i64 0] := getq (hd _ (Array.mem_of_getElem? (i := 0) rfl) rfl _ _ rfl rfl)
                        refine ⟨rfl, goes_value (v := .int .i64 0) ?_ rfl⟩
                        simp [go_sem, e164]
                      refine ⟨?_, ?_⟩
                      · intro hp A w1 hb ho hd
                        clear hp
                        refine ⟨rfl, goes_alloc (v := .pointer (some ⟨w1.heap.size, 0, none⟩)) (o := .cells #[.int .u64 ((0 : Nat) : Int), .int .i64 0, .int .i64 0, .int .i64 0, .int .i64 0, .int .i64 0] 24) ?_ ⟨_, rfl, hb.size, boxC _ 0 0 0 0 0 0 24⟩⟩
                        simp [go_sem]
                      refine ⟨?_, ?_⟩
                      · exact fun hp => absurd hp (by decide)
                      refine ⟨?_, ?_⟩
                      · intro hp A w1 hb ho hd
                        clear hp
                        have e173 : A.tmps[173]?.getD undef = .int .i64 ((j2 : Nat) : Int) := getq (hd _ (Array.mem_of_getElem? (i := 0) rfl) rfl _ _ rfl rfl)
                        refine ⟨rfl, goes_value (v := .int .i64 ((j2 : Nat) : Int)) ?_ rfl⟩
                        simp [go_sem, e173]
                      refine ⟨?_, ?_⟩
                      · intro hp A w1 hb ho hd
                        clear hp
                        have e174 : A.tmps[174]?.getD undef = .int .i64 0 := getq (hd _ (Array.mem_of_getElem? (i := 0) rfl) rfl _ _ rfl rfl)
                        refine ⟨rfl, goes_value (v := .int .i64 0) ?_ rfl⟩
                        simp [go_sem, e174]
                      trivial
                    · refine ⟨?_, ?_⟩
                      · exact not_needed (by kernel_rfl)
                      refine ⟨?_, ?_⟩
                      · exact not_needed (by kernel_rfl)
                      refine ⟨?_, ?_⟩
                      · exact not_needed (by kernel_rfl)
                      refine ⟨?_, ?_⟩
                      · exact not_needed (by kernel_rfl)
                      refine ⟨?_, ?_⟩
                      · exact not_needed (by kernel_rfl)
                      refine ⟨?_, ?_⟩
                      · exact not_needed (by kernel_rfl)
                      refine ⟨?_, ?_⟩
                      · exact not_needed (by kernel_rfl)
                      refine ⟨?_, ?_⟩
                      · exact not_needed (by kernel_rfl)
                      refine ⟨?_, ?_⟩
                      · exact not_needed (by kernel_rfl)
                      refine ⟨?_, ?_⟩
                      · intro hp A w1 hb ho hd
                        clear hp
                        have e164 : A.tmps[164]?.getD undef = .tuple #[.agg #[.int .u64 ((ck : Nat) : Int), .int .i64 (ce), .int .i64 (cr + 1), .int .i64 (cz), .int .i64 (ct + x), .int .i64 (cn + y)], .int .i64 ((j2 : Nat) : Int), .int .i64 0] := getq (hd _ (Array.mem_of_getElem? (i := 0) rfl) rfl _ _ rfl rfl)
                        refine ⟨rfl, goes_value (v := .int .i64 ((j2 : Nat) : Int)) ?_ rfl⟩
                        simp [go_sem, e164]
                      refine ⟨?_, ?_⟩
                      · intro hp A w1 hb ho hd
                        clear hp
                        have e164 : A.tmps[164]?.getD undef = .tuple #[.agg #[.int .u64 ((ck : Nat) : Int), .int .i64 (ce), .int .i64 (cr + 1), .int .i64 (cz), .int .i64 (ct + x), .int .i64 (cn + y)], .int .i64 ((j2 : Nat) : Int), .int .i64 0] := getq (hd _ (Array.mem_of_getElem? (i := 0) rfl) rfl _ _ rfl rfl)
                        refine ⟨rfl, goes_value (v := .int .i64 0) ?_ rfl⟩
                        simp [go_sem, e164]
                      refine ⟨?_, ?_⟩
                      · exact not_needed (by kernel_rfl)
                      refine ⟨?_, ?_⟩
                      · exact not_needed (by kernel_rfl)
                      refine ⟨?_, ?_⟩
                      · intro hp A w1 hb ho hd
                        clear hp
                        have e173 : A.tmps[173]?.getD undef = .int .i64 ((j2 : Nat) : Int) := getq (hd _ (Array.mem_of_getElem? (i := 0) rfl) rfl _ _ rfl rfl)
                        refine ⟨rfl, goes_value (v := .int .i64 ((j2 : Nat) : Int)) ?_ rfl⟩
                        simp [go_sem, e173]
                      refine ⟨?_, ?_⟩
                      · intro hp A w1 hb ho hd
                        clear hp
                        have e174 : A.tmps[174]?.getD undef = .int .i64 0 := getq (hd _ (Array.mem_of_getElem? (i := 0) rfl) rfl _ _ rfl rfl)
                        refine ⟨rfl, goes_value (v := .int .i64 0) ?_ rfl⟩
                        simp [go_sem, e174]
                      trivial
                    · intro A w2 hb ho hd
                      obtain ⟨g, hg, hge, Zb⟩ := hd _ (Array.mem_of_getElem? (i := 0) rfl) rfl _ _ rfl rfl
                      have eB := getq hg
                      have eV : A.tmps[172]?.getD undef = .agg #[.int .u64 ((ck : Nat) : Int), .int .i64 (ce), .int .i64 (cr + 1), .int .i64 (cz), .int .i64 (ct + x), .int .i64 (cn + y)] := getq (hd _ (Array.mem_of_getElem? (i := 1) rfl) rfl _ _ rfl rfl)
                      have zc0 := Zb.c0
                      have zc1 := Zb.c1
                      have zc2 := Zb.c2
                      have zc3 := Zb.c3
                      have zc4 := Zb.c4
                      have zc5 := Zb.c5
                      have zf0 := Zb.fr 0 (by omega)
                      have zf1 := Zb.fr 1 (by omega)
                      have zf2 := Zb.fr 2 (by omega)
                      have zf3 := Zb.fr 3 (by omega)
                      have zf4 := Zb.fr 4 (by omega)
                      have zf5 := Zb.fr 5 (by omega)
                      refine ⟨_, by simp [go_sem, eB, eV, zc0, zc1, zc2, zc3, zc4, zc5, zf0, zf1, zf2, zf3, zf4, zf5]; rfl, ?_, ?_⟩
                      · exact BoxC.below Zb hb hge (ck) (ce) (cr + 1) (cz) (ct + x) (cn + y)
                      · intro j o d hj hdst h
                        match j, hj, hdst, h with
                        | 0, _, _, h => exact h
                        | 1, _, _, h => exact h
                        | 2, _, _, h => exact h
                        | 3, _, _, h => exact h
                        | 4, _, _, h => exact h
                        | 5, _, _, h => exact h
                        | 6, _, _, h => exact h
                        | 7, _, _, h => exact h
                        | 8, _, _, h => exact h
                        | 9, _, _, h => exact h
                        | 10, _, _, h => exact h
                        | 11, hj, hdst, _ =>
                          cases hj
                          cases hdst
                          exact ⟨g, hg, hge, Zb.put (ck) (ce) (cr + 1) (cz) (ct + x) (cn + y)⟩
                        | 12, _, _, h => exact h
                        | 13, _, _, h => exact h
                        | 14, _, _, h => exact h
                        | j + 15, hj, _, _ => simp at hj
                    intro A w9 hb9 hdf hsz hol hft
                    obtain ⟨gp, hgp, hgpe, XP⟩ := hft 11 _ 14 rfl rfl
                    have m165 : A.tmps.getD 165 undef = .slice (some ⟨w4.heap.size, 0, none⟩) 2 2 := hft 0 _ 165 rfl rfl
                    have m166 : A.tmps.getD 166 undef = .pointer (some ⟨w4.heap.size, 0, none⟩) := hft 1 _ 166 rfl rfl
                    have m167 : A.tmps.getD 167 undef = .string (f2 0) := hft 2 _ 167 rfl rfl
                    have m168 : A.tmps.getD 168 undef = .slice (some ⟨w4.heap.size, 0, none⟩) 2 2 := hft 3 _ 168 rfl rfl
                    have m169 : A.tmps.getD 169 undef = .pointer (some ⟨w4.heap.size, 1, none⟩) := hft 4 _ 169 rfl rfl
                    have m170 : A.tmps.getD 170 undef = .string (f2 1) := hft 5 _ 170 rfl rfl
                    have m171 : A.tmps.getD 171 undef = .tuple #[.agg #[.int .u64 ((ck : Nat) : Int), .int .i64 (ce), .int .i64 (cr + 1), .int .i64 (cz), .int .i64 (ct + x), .int .i64 (cn + y)], .int .i64 ((j2 : Nat) : Int), .int .i64 0] := hft 6 _ 171 rfl rfl
                    have m164 : A.tmps.getD 164 undef = .tuple #[.agg #[.int .u64 ((ck : Nat) : Int), .int .i64 (ce), .int .i64 (cr + 1), .int .i64 (cz), .int .i64 (ct + x), .int .i64 (cn + y)], .int .i64 ((j2 : Nat) : Int), .int .i64 0] := hft 7 _ 164 rfl rfl
                    have m172 : A.tmps.getD 172 undef = .agg #[.int .u64 ((ck : Nat) : Int), .int .i64 (ce), .int .i64 (cr + 1), .int .i64 (cz), .int .i64 (ct + x), .int .i64 (cn + y)] := hft 8 _ 172 rfl rfl
                    have m173 : A.tmps.getD 173 undef = .int .i64 ((j2 : Nat) : Int) := hft 9 _ 173 rfl rfl
                    have m174 : A.tmps.getD 174 undef = .int .i64 0 := hft 10 _ 174 rfl rfl
                    have m15 : A.tmps.getD 15 undef = .int .i64 ((j2 : Nat) : Int) := hft 13 _ 15 rfl rfl
                    have m16 : A.tmps.getD 16 undef = .int .i64 0 := hft 14 _ 16 rfl rfl
                    rename_i KK hKK
                    refine hKK _ _ ?_
                    show Code.wp _ _ _ A w9
                    rw [frame_puts hdf hsz hol]
                    simp only [List.foldl_cons, List.foldl_nil, Act.put, Option.getD_some, m165, m166, m167, m168, m169, m170, m171, m164, m172, m173, m174, m15, m16, hgp, List.setIfInBounds_toArray, List.set_cons_succ, List.set_cons_zero]
                    clear m165 m166 m167 m168 m169 m170 m171 m164 m172 m173 m174 m15 m16 hft hol hsz hdf hKK hgp
                    replace X := X.later (hb9.mono X.lt)
                    replace R := R.later (hb9.mono R.lt)
                    replace XN := XN.later (hb9.mono XN.lt)
                    replace BB := BB.trans (hb9.mono BB.size)
                    clear hb9
                    have XPc0_10 := XP.c0
                    have XPc1_10 := XP.c1
                    have XPc2_10 := XP.c2
                    have XPc3_10 := XP.c3
                    have XPc4_10 := XP.c4
                    have XPc5_10 := XP.c5
                    have XNc0_11 := XN.c0
                    have XNc1_11 := XN.c1
                    have XNc2_11 := XN.c2
                    have XNc3_11 := XN.c3
                    have XNc4_11 := XN.c4
                    have XNc5_11 := XN.c5
                    have Xc0_12 := X.c0
                    have Xc1_12 := X.c1
                    have Xc2_12 := X.c2
                    have Xc3_12 := X.c3
                    have Xc4_12 := X.c4
                    have Xc5_12 := X.c5
                    have Xf0_12 := X.fr 0 (by omega)
                    have Xf1_12 := X.fr 1 (by omega)
                    have Xf2_12 := X.fr 2 (by omega)
                    have Xf3_12 := X.fr 3 (by omega)
                    have Xf4_12 := X.fr 4 (by omega)
                    have Xf5_12 := X.fr 5 (by omega)
                    have Xf := hide (X.put (ck) (ce) (cr + 1) (cz) (ct + x) (cn + y))
                    have Rf := hide (R.putFar (b := W.heap.size) (by omega) (.int .u64 (ck : Nat)) (.int .i64 ce) (.int .i64 (cr + 1)) (.int .i64 cz) (.int .i64 (ct + x)) (.int .i64 (cn + y)))
                    have Bf := hide (X.below BB (Nat.le_refl _) (ck) (ce) (cr + 1) (cz) (ct + x) (cn + y))
                    go_wp2
                    go_roundw
                    case rel => exact ⟨k + 1, Sb.follow ⟨ck, ce, cr, cz, ct, cn⟩ (ct + x) (cn + y), f2, by omega, by go_num, ⟨hnew.out.1, hnew.out.2, Xf.out, Rf.out, his.trans hC2.out.symm, hfz2, Bf.out⟩⟩
                    case measure => simp [intOf]; omega
  
                  · have hbad := next_bad hck (show ¬ (cur.tail + x < cur.tail ∨ cur.num + y < cur.num) by omega) ⟨by omega, by omega⟩ h2
                    generalize nextS cur (cur.tail + x) (cur.num + y) = Rn at *
                    obtain ⟨⟨xk, xe, xr, xz, xt, xn⟩, er⟩ := Rn
                    obtain ⟨ck, ce, cr, cz, ct, cn⟩ := cur
                    simp only [Sb.val] at hN h2 hw1 hw2 hkk hbad
                    have lt0 : 0 ≤ ct := by omega
                    have lt1 : ct < 1099511627776 := by omega
                    have ln0 : 0 ≤ cn := by omega
                    have ln1 : cn < 1099511627776 := by omega
                    clear hkk hck hfit hcur i1 i2 ix iy
                    by_cases g1 : 1099511627775 ≤ cr
                    · clear hbad
                      have Aac0_1 := Aa.c0
                      have Aac1_1 := Aa.c1
                      go_wp2
                      clear Aac0_1 Aac1_1
                      refine wp_region_specs_mid (n := 22) [.val (.agg #[.int .u64 ((ck : Nat) : Int), .int .i64 (ce), .int .i64 (cr), .int .i64 (cz), .int .i64 (ct), .int .i64 (cn)]), .val (.pointer (some ⟨W.heap.size, 4, none⟩)), .val (.int .i64 ct), .val (.slice (some ⟨ga, off, none⟩) n cap), .val (.int .i64 (k : Nat)), .val (.pointer (some ⟨ga, off + k * 2, none⟩)), .val (.pointer (some ⟨ga, off + k * 2, none⟩)), .val (.int .i64 x), .val (.int .i64 (ct + x)), .val (.pointer (some ⟨W.heap.size, 5, none⟩)), .val (.int .i64 cn), .val (.slice (some ⟨ga, off, none⟩) n cap), .val (.int .i64 (k : Nat)), .val (.pointer (some ⟨ga, off + k * 2, none⟩)), .val (.pointer (some ⟨ga, off + k * 2 + 1, none⟩)), .val (.int .i64 y), .val (.int .i64 (cn + y)), .val (.tuple #[.agg #[.int .u64 ((xk : Nat) : Int), .int .i64 (xe), .int .i64 (xr), .int .i64 (xz), .int .i64 (xt), .int .i64 (xn)], .int .i64 er]), .val (.tuple #[.agg #[.int .u64 ((xk : Nat) : Int), .int .i64 (xe), .int .i64 (xr), .int .i64 (xz), .int .i64 (xt), .int .i64 (xn)], .int .i64 er]), .val (.agg #[.int .u64 ((xk : Nat) : Int), .int .i64 (xe), .int .i64 (xr), .int .i64 (xz), .int .i64 (xt), .int .i64 (xn)]), .val (.int .i64 (er)), .nbox wr.heap.size, .val (undef), .val (.int .i64 (er))] [.val (.agg #[.int .u64 ((ck : Nat) : Int), .int .i64 (ce), .int .i64 (cr), .int .i64 (cz), .int .i64 (ct), .int .i64 (cn)]), .val (.pointer (some ⟨W.heap.size, 4, none⟩)), .val (.int .i64 ct), .val (.slice (some ⟨ga, off, none⟩) n cap), .val (.int .i64 (k : Nat)), .val (.pointer (some ⟨ga, off + k * 2, none⟩)), .val (.pointer (some ⟨ga, off + k * 2, none⟩)), .val (.int .i64 x), .val (.int .i64 (ct + x)), .val (.pointer (some ⟨W.heap.size, 5, none⟩)), .val (.int .i64 cn), .val (.slice (some ⟨ga, off, none⟩) n cap), .val (.int .i64 (k : Nat)), .val (.pointer (some ⟨ga, off + k * 2, none⟩)), .val (.pointer (some ⟨ga, off + k * 2 + 1, none⟩)), .val (.int .i64 y), .val (.int .i64 (cn + y)), .val (.tuple #[.agg #[.int .u64 ((xk : Nat) : Int), .int .i64 (xe), .int .i64 (xr), .int .i64 (xz), .int .i64 (xt), .int .i64 (xn)], .int .i64 er]), .val (.tuple #[.agg #[.int .u64 ((xk : Nat) : Int), .int .i64 (xe), .int .i64 (xr), .int .i64 (xz), .int .i64 (xt), .int .i64 (xn)], .int .i64 er]), .val (.agg #[.int .u64 ((xk : Nat) : Int), .int .i64 (xe), .int .i64 (xr), .int .i64 (xz), .int .i64 (xt), .int .i64 (xn)]), .val (.int .i64 (er)), .sbox wr.heap.size (xk) (xe) (xr) (xz) (xt) (xn), .val (undef), .val (.int .i64 (er))] (by kernel_rfl) (by kernel_rfl) rfl rfl rfl ?_ ?_ ?_ ?_
                      · refine ⟨?_, ?_⟩
                        · intro hp A w1 hb ho hd
                          clear hp
                          have e2 : A.tmps[2]?.getD undef = .pointer (some ⟨W.heap.size, 0, none⟩) := olds_get ho 2 (by kernel_rfl)
                          have x0 := (X.later (hb.mono X.lt)).c0
                          have x1 := (X.later (hb.mono X.lt)).c1
                          have x2 := (X.later (hb.mono X.lt)).c2
                          have x3 := (X.later (hb.mono X.lt)).c3
                          have x4 := (X.later (hb.mono X.lt)).c4
                          have x5 := (X.later (hb.mono X.lt)).c5
                          refine ⟨rfl, goes_value (v := .agg #[.int .u64 ((ck : Nat) : Int), .int .i64 (ce), .int .i64 (cr), .int .i64 (cz), .int .i64 (ct), .int .i64 (cn)]) ?_ rfl⟩
                          simp [go_sem, e2, x0, x1, x2, x3, x4, x5]
                        refine ⟨?_, ?_⟩
                        · intro hp A w1 hb ho hd
                          clear hp
                          have e2 : A.tmps[2]?.getD undef = .pointer (some ⟨W.heap.size, 0, none⟩) := olds_get ho 2 (by kernel_rfl)
                          refine ⟨rfl, goes_value (v := .pointer (some ⟨W.heap.size, 4, none⟩)) ?_ rfl⟩
                          simp [go_sem, e2]
                        refine ⟨?_, ?_⟩
                        · intro hp A w1 hb ho hd
                          clear hp
                          have e80 : A.tmps[80]?.getD undef = .pointer (some ⟨W.heap.size, 4, none⟩) := getq (hd _ (Array.mem_of_getElem? (i := 0) rfl) rfl _ _ rfl rfl)
                          have x4 := (X.later (hb.mono X.lt)).c4
                          refine ⟨rfl, goes_value (v := .int .i64 ct) ?_ rfl⟩
                          simp [go_sem, e80, x4]
                        refine ⟨?_, ?_⟩
                        · intro hp A w1 hb ho hd
                          clear hp
                          have e1 : A.tmps[1]?.getD undef = .slice (some ⟨ga, off, none⟩) n cap := olds_get ho 1 (by kernel_rfl)
                          refine ⟨rfl, goes_value (v := .slice (some ⟨ga, off, none⟩) n cap) ?_ rfl⟩
                          simp [go_sem, e1]
                        refine ⟨?_, ?_⟩
                        · intro hp A w1 hb ho hd
                          clear hp
                          have e8 : A.tmps[8]?.getD undef = .int .i64 (k : Nat) := olds_get ho 8 (by kernel_rfl)
                          refine ⟨rfl, goes_value (v := .int .i64 (k : Nat)) ?_ rfl⟩
                          simp [go_sem, e8]
                        refine ⟨?_, ?_⟩
                        · intro hp A w1 hb ho hd
                          clear hp
                          have e82 : A.tmps[82]?.getD undef = .slice (some ⟨ga, off, none⟩) n cap := getq (hd _ (Array.mem_of_getElem? (i := 0) rfl) rfl _ _ rfl rfl)
                          have e83 : A.tmps[83]?.getD undef = .int .i64 (k : Nat) := getq (hd _ (Array.mem_of_getElem? (i := 1) rfl) rfl _ _ rfl rfl)
                          refine ⟨rfl, goes_value (v := .pointer (some ⟨ga, off + k * 2, none⟩)) ?_ rfl⟩
                          simp [go_sem, e82, e83, hlt']
                        refine ⟨?_, ?_⟩
                        · intro hp A w1 hb ho hd
                          clear hp
                          have e84 : A.tmps[84]?.getD undef = .pointer (some ⟨ga, off + k * 2, none⟩) := getq (hd _ (Array.mem_of_getElem? (i := 0) rfl) rfl _ _ rfl rfl)
                          refine ⟨rfl, goes_value (v := .pointer (some ⟨ga, off + k * 2, none⟩)) ?_ rfl⟩
                          simp [go_sem, e84]
                        refine ⟨?_, ?_⟩
                        · intro hp A w1 hb ho hd
                          clear hp
                          have e85 : A.tmps[85]?.getD undef = .pointer (some ⟨ga, off + k * 2, none⟩) := getq (hd _ (Array.mem_of_getElem? (i := 0) rfl) rfl _ _ rfl rfl)
                          have a0 := (Aa.later (hb.mono Aa.lt)).c0
                          refine ⟨rfl, goes_value (v := .int .i64 x) ?_ rfl⟩
                          simp [go_sem, e85, a0]
                        refine ⟨?_, ?_⟩
                        · intro hp A w1 hb ho hd
                          clear hp
                          have e81 : A.tmps[81]?.getD undef = .int .i64 ct := getq (hd _ (Array.mem_of_getElem? (i := 0) rfl) rfl _ _ rfl rfl)
                          have e86 : A.tmps[86]?.getD undef = .int .i64 x := getq (hd _ (Array.mem_of_getElem? (i := 1) rfl) rfl _ _ rfl rfl)
                          refine ⟨rfl, goes_value (v := .int .i64 (ct + x)) ?_ rfl⟩
                          simp [go_sem, e81, e86, hw1]
                        refine ⟨?_, ?_⟩
                        · intro hp A w1 hb ho hd
                          clear hp
                          have e2 : A.tmps[2]?.getD undef = .pointer (some ⟨W.heap.size, 0, none⟩) := olds_get ho 2 (by kernel_rfl)
                          refine ⟨rfl, goes_value (v := .pointer (some ⟨W.heap.size, 5, none⟩)) ?_ rfl⟩
                          simp [go_sem, e2]
                        refine ⟨?_, ?_⟩
                        · intro hp A w1 hb ho hd
                          clear hp
                          have e88 : A.tmps[88]?.getD undef = .pointer (some ⟨W.heap.size, 5, none⟩) := getq (hd _ (Array.mem_of_getElem? (i := 0) rfl) rfl _ _ rfl rfl)
                          have x5 := (X.later (hb.mono X.lt)).c5
                          refine ⟨rfl, goes_value (v := .int .i64 cn) ?_ rfl⟩
                          simp [go_sem, e88, x5]
                        refine ⟨?_, ?_⟩
                        · intro hp A w1 hb ho hd
                          clear hp
                          have e1 : A.tmps[1]?.getD undef = .slice (some ⟨ga, off, none⟩) n cap := olds_get ho 1 (by kernel_rfl)
                          refine ⟨rfl, goes_value (v := .slice (some ⟨ga, off, none⟩) n cap) ?_ rfl⟩
                          simp [go_sem, e1]
                        refine ⟨?_, ?_⟩
                        · intro hp A w1 hb ho hd
                          clear hp
                          have e8 : A.tmps[8]?.getD undef = .int .i64 (k : Nat) := olds_get ho 8 (by kernel_rfl)
                          refine ⟨rfl, goes_value (v := .int .i64 (k : Nat)) ?_ rfl⟩
                          simp [go_sem, e8]
                        refine ⟨?_, ?_⟩
                        · intro hp A w1 hb ho hd
                          clear hp
                          have e90 : A.tmps[90]?.getD undef = .slice (some ⟨ga, off, none⟩) n cap := getq (hd _ (Array.mem_of_getElem? (i := 0) rfl) rfl _ _ rfl rfl)
                          have e91 : A.tmps[91]?.getD undef = .int .i64 (k : Nat) := getq (hd _ (Array.mem_of_getElem? (i := 1) rfl) rfl _ _ rfl rfl)
                          refine ⟨rfl, goes_value (v := .pointer (some ⟨ga, off + k * 2, none⟩)) ?_ rfl⟩
                          simp [go_sem, e90, e91, hlt']
                        refine ⟨?_, ?_⟩
                        · intro hp A w1 hb ho hd
                          clear hp
                          have e92 : A.tmps[92]?.getD undef = .pointer (some ⟨ga, off + k * 2, none⟩) := getq (hd _ (Array.mem_of_getElem? (i := 0) rfl) rfl _ _ rfl rfl)
                          refine ⟨rfl, goes_value (v := .pointer (some ⟨ga, off + k * 2 + 1, none⟩)) ?_ rfl⟩
                          simp [go_sem, e92]
                        refine ⟨?_, ?_⟩
                        · intro hp A w1 hb ho hd
                          clear hp
                          have e93 : A.tmps[93]?.getD undef = .pointer (some ⟨ga, off + k * 2 + 1, none⟩) := getq (hd _ (Array.mem_of_getElem? (i := 0) rfl) rfl _ _ rfl rfl)
                          have a1 := (Aa.later (hb.mono Aa.lt)).c1
                          refine ⟨rfl, goes_value (v := .int .i64 y) ?_ rfl⟩
                          simp [go_sem, e93, a1]
                        refine ⟨?_, ?_⟩
                        · intro hp A w1 hb ho hd
                          clear hp
                          have e89 : A.tmps[89]?.getD undef = .int .i64 cn := getq (hd _ (Array.mem_of_getElem? (i := 0) rfl) rfl _ _ rfl rfl)
                          have e94 : A.tmps[94]?.getD undef = .int .i64 y := getq (hd _ (Array.mem_of_getElem? (i := 1) rfl) rfl _ _ rfl rfl)
                          refine ⟨rfl, goes_value (v := .int .i64 (cn + y)) ?_ rfl⟩
                          simp [go_sem, e89, e94, hw2]
                        refine ⟨?_, ?_⟩
                        · intro hp A w1 hb ho hd
                          clear hp
                          have e79 : A.tmps[79]?.getD undef = .agg #[.int .u64 ((ck : Nat) : Int), .int .i64 (ce), .int .i64 (cr), .int .i64 (cz), .int .i64 (ct), .int .i64 (cn)] := getq (hd _ (Array.mem_of_getElem? (i := 0) rfl) rfl _ _ rfl rfl)
                          have e87 : A.tmps[87]?.getD undef = .int .i64 (ct + x) := getq (hd _ (Array.mem_of_getElem? (i := 1) rfl) rfl _ _ rfl rfl)
                          have e95 : A.tmps[95]?.getD undef = .int .i64 (cn + y) := getq (hd _ (Array.mem_of_getElem? (i := 2) rfl) rfl _ _ rfl rfl)
                          refine ⟨rfl, goes_call (f := 20) (args := #[.agg #[.int .u64 ((ck : Nat) : Int), .int .i64 (ce), .int .i64 (cr), .int .i64 (cz), .int .i64 (ct), .int .i64 (cn)], .int .i64 (ct + x), .int .i64 (cn + y)]) ?_ (hN w1)⟩
                          simp [go_sem, e79, e87, e95]
                        refine ⟨?_, ?_⟩
                        · intro hp A w1 hb ho hd
                          clear hp
                          have e96 : A.tmps[96]?.getD undef = .tuple #[.agg #[.int .u64 ((xk : Nat) : Int), .int .i64 (xe), .int .i64 (xr), .int .i64 (xz), .int .i64 (xt), .int .i64 (xn)], .int .i64 er] := getq (hd _ (Array.mem_of_getElem? (i := 0) rfl) rfl _ _ rfl rfl)
                          refine ⟨rfl, goes_value (v := .tuple #[.agg #[.int .u64 ((xk : Nat) : Int), .int .i64 (xe), .int .i64 (xr), .int .i64 (xz), .int .i64 (xt), .int .i64 (xn)], .int .i64 er]) ?_ rfl⟩
                          simp [go_sem, e96]
                        refine ⟨?_, ?_⟩
                        · intro hp A w1 hb ho hd
                          clear hp
                          have e78 : A.tmps[78]?.getD undef = .tuple #[.agg #[.int .u64 ((xk : Nat) : Int), .int .i64 (xe), .int .i64 (xr), .int .i64 (xz), .int .i64 (xt), .int .i64 (xn)], .int .i64 er] := getq (hd _ (Array.mem_of_getElem? (i := 0) rfl) rfl _ _ rfl rfl)
                          refine ⟨rfl, goes_value (v := .agg #[.int .u64 ((xk : Nat) : Int), .int .i64 (xe), .int .i64 (xr), .int .i64 (xz), .int .i64 (xt), .int .i64 (xn)]) ?_ rfl⟩
                          simp [go_sem, e78]
                        refine ⟨?_, ?_⟩
                        · intro hp A w1 hb ho hd
                          clear hp
                          have e78 : A.tmps[78]?.getD undef = .tuple #[.agg #[.int .u64 ((xk : Nat) : Int), .int .i64 (xe), .int .i64 (xr), .int .i64 (xz), .int .i64 (xt), .int .i64 (xn)], .int .i64 er] := getq (hd _ (Array.mem_of_getElem? (i := 0) rfl) rfl _ _ rfl rfl)
                          refine ⟨rfl, goes_value (v := .int .i64 (er)) ?_ rfl⟩
                          simp [go_sem, e78]
                        refine ⟨?_, ?_⟩
                        · intro hp A w1 hb ho hd
                          clear hp
                          refine ⟨rfl, goes_alloc (v := .pointer (some ⟨w1.heap.size, 0, none⟩)) (o := .cells #[.int .u64 ((0 : Nat) : Int), .int .i64 0, .int .i64 0, .int .i64 0, .int .i64 0, .int .i64 0] 24) ?_ ⟨_, rfl, hb.size, boxC _ 0 0 0 0 0 0 24⟩⟩
                          simp [go_sem]
                        refine ⟨?_, ?_⟩
                        · exact fun hp => absurd hp (by decide)
                        refine ⟨?_, ?_⟩
                        · intro hp A w1 hb ho hd
                          clear hp
                          have e98 : A.tmps[98]?.getD undef = .int .i64 (er) := getq (hd _ (Array.mem_of_getElem? (i := 0) rfl) rfl _ _ rfl rfl)
                          refine ⟨rfl, goes_value (v := .int .i64 (er)) ?_ rfl⟩
                          simp [go_sem, e98]
                        trivial
                      · refine ⟨?_, ?_⟩
                        · exact not_needed (by kernel_rfl)
                        refine ⟨?_, ?_⟩
                        · exact not_needed (by kernel_rfl)
                        refine ⟨?_, ?_⟩
                        · exact not_needed (by kernel_rfl)
                        refine ⟨?_, ?_⟩
                        · exact not_needed (by kernel_rfl)
                        refine ⟨?_, ?_⟩
                        · exact not_needed (by kernel_rfl)
                        refine ⟨?_, ?_⟩
                        · exact not_needed (by kernel_rfl)
                        refine ⟨?_, ?_⟩
                        · exact not_needed (by kernel_rfl)
                        refine ⟨?_, ?_⟩
                        · exact not_needed (by kernel_rfl)
                        refine ⟨?_, ?_⟩
                        · exact not_needed (by kernel_rfl)
                        refine ⟨?_, ?_⟩
                        · exact not_needed (by kernel_rfl)
                        refine ⟨?_, ?_⟩
                        · exact not_needed (by kernel_rfl)
                        refine ⟨?_, ?_⟩
                        · exact not_needed (by kernel_rfl)
                        refine ⟨?_, ?_⟩
                        · exact not_needed (by kernel_rfl)
                        refine ⟨?_, ?_⟩
                        · exact not_needed (by kernel_rfl)
                        refine ⟨?_, ?_⟩
                        · exact not_needed (by kernel_rfl)
                        refine ⟨?_, ?_⟩
                        · exact not_needed (by kernel_rfl)
                        refine ⟨?_, ?_⟩
                        · exact not_needed (by kernel_rfl)
                        refine ⟨?_, ?_⟩
                        · exact not_needed (by kernel_rfl)
                        refine ⟨?_, ?_⟩
                        · exact not_needed (by kernel_rfl)
                        refine ⟨?_, ?_⟩
                        · exact not_needed (by kernel_rfl)
                        refine ⟨?_, ?_⟩
                        · intro hp A w1 hb ho hd
                          clear hp
                          have e78 : A.tmps[78]?.getD undef = .tuple #[.agg #[.int .u64 ((xk : Nat) : Int), .int .i64 (xe), .int .i64 (xr), .int .i64 (xz), .int .i64 (xt), .int .i64 (xn)], .int .i64 er] := getq (hd _ (Array.mem_of_getElem? (i := 0) rfl) rfl _ _ rfl rfl)
                          refine ⟨rfl, goes_value (v := .int .i64 (er)) ?_ rfl⟩
                          simp [go_sem, e78]
                        refine ⟨?_, ?_⟩
                        · exact not_needed (by kernel_rfl)
                        refine ⟨?_, ?_⟩
                        · exact not_needed (by kernel_rfl)
                        refine ⟨?_, ?_⟩
                        · intro hp A w1 hb ho hd
                          clear hp
                          have e98 : A.tmps[98]?.getD undef = .int .i64 (er) := getq (hd _ (Array.mem_of_getElem? (i := 0) rfl) rfl _ _ rfl rfl)
                          refine ⟨rfl, goes_value (v := .int .i64 (er)) ?_ rfl⟩
                          simp [go_sem, e98]
                        trivial
                      · intro A w2 hb ho hd
                        obtain ⟨g, hg, hge, Zb⟩ := hd _ (Array.mem_of_getElem? (i := 0) rfl) rfl _ _ rfl rfl
                        have eB := getq hg
                        have eV : A.tmps[97]?.getD undef = .agg #[.int .u64 ((xk : Nat) : Int), .int .i64 (xe), .int .i64 (xr), .int .i64 (xz), .int .i64 (xt), .int .i64 (xn)] := getq (hd _ (Array.mem_of_getElem? (i := 1) rfl) rfl _ _ rfl rfl)
                        have zc0 := Zb.c0
                        have zc1 := Zb.c1
                        have zc2 := Zb.c2
                        have zc3 := Zb.c3
                        have zc4 := Zb.c4
                        have zc5 := Zb.c5
                        have zf0 := Zb.fr 0 (by omega)
                        have zf1 := Zb.fr 1 (by omega)
                        have zf2 := Zb.fr 2 (by omega)
                        have zf3 := Zb.fr 3 (by omega)
                        have zf4 := Zb.fr 4 (by omega)
                        have zf5 := Zb.fr 5 (by omega)
                        refine ⟨_, by simp [go_sem, eB, eV, zc0, zc1, zc2, zc3, zc4, zc5, zf0, zf1, zf2, zf3, zf4, zf5]; rfl, ?_, ?_⟩
                        · exact BoxC.below Zb hb hge (xk) (xe) (xr) (xz) (xt) (xn)
                        · intro j o d hj hdst h
                          match j, hj, hdst, h with
                          | 0, _, _, h => exact h
                          | 1, _, _, h => exact h
                          | 2, _, _, h => exact h
                          | 3, _, _, h => exact h
                          | 4, _, _, h => exact h
                          | 5, _, _, h => exact h
                          | 6, _, _, h => exact h
                          | 7, _, _, h => exact h
                          | 8, _, _, h => exact h
                          | 9, _, _, h => exact h
                          | 10, _, _, h => exact h
                          | 11, _, _, h => exact h
                          | 12, _, _, h => exact h
                          | 13, _, _, h => exact h
                          | 14, _, _, h => exact h
                          | 15, _, _, h => exact h
                          | 16, _, _, h => exact h
                          | 17, _, _, h => exact h
                          | 18, _, _, h => exact h
                          | 19, _, _, h => exact h
                          | 20, _, _, h => exact h
                          | 21, hj, hdst, _ =>
                            cases hj
                            cases hdst
                            exact ⟨g, hg, hge, Zb.put (xk) (xe) (xr) (xz) (xt) (xn)⟩
                          | 22, _, _, h => exact h
                          | 23, _, _, h => exact h
                          | j + 24, hj, _, _ => simp at hj
                      intro A w9 hb9 hdf hsz hol hft
                      obtain ⟨gx, hgx, hgxe, XN⟩ := hft 21 _ 9 rfl rfl
                      have m79 : A.tmps.getD 79 undef = .agg #[.int .u64 ((ck : Nat) : Int), .int .i64 (ce), .int .i64 (cr), .int .i64 (cz), .int .i64 (ct), .int .i64 (cn)] := hft 0 _ 79 rfl rfl
                      have m80 : A.tmps.getD 80 undef = .pointer (some ⟨W.heap.size, 4, none⟩) := hft 1 _ 80 rfl rfl
                      have m81 : A.tmps.getD 81 undef = .int .i64 ct := hft 2 _ 81 rfl rfl
                      have m82 : A.tmps.getD 82 undef = .slice (some ⟨ga, off, none⟩) n cap := hft 3 _ 82 rfl rfl
                      have m83 : A.tmps.getD 83 undef = .int .i64 (k : Nat) := hft 4 _ 83 rfl rfl
                      have m84 : A.tmps.getD 84 undef = .pointer (some ⟨ga, off + k * 2, none⟩) := hft 5 _ 84 rfl rfl
                      have m85 : A.tmps.getD 85 undef = .pointer (some ⟨ga, off + k * 2, none⟩) := hft 6 _ 85 rfl rfl
                      have m86 : A.tmps.getD 86 undef = .int .i64 x := hft 7 _ 86 rfl rfl
                      have m87 : A.tmps.getD 87 undef = .int .i64 (ct + x) := hft 8 _ 87 rfl rfl
                      have m88 : A.tmps.getD 88 undef = .pointer (some ⟨W.heap.size, 5, none⟩) := hft 9 _ 88 rfl rfl
                      have m89 : A.tmps.getD 89 undef = .int .i64 cn := hft 10 _ 89 rfl rfl
                      have m90 : A.tmps.getD 90 undef = .slice (some ⟨ga, off, none⟩) n cap := hft 11 _ 90 rfl rfl
                      have m91 : A.tmps.getD 91 undef = .int .i64 (k : Nat) := hft 12 _ 91 rfl rfl
                      have m92 : A.tmps.getD 92 undef = .pointer (some ⟨ga, off + k * 2, none⟩) := hft 13 _ 92 rfl rfl
                      have m93 : A.tmps.getD 93 undef = .pointer (some ⟨ga, off + k * 2 + 1, none⟩) := hft 14 _ 93 rfl rfl
                      have m94 : A.tmps.getD 94 undef = .int .i64 y := hft 15 _ 94 rfl rfl
                      have m95 : A.tmps.getD 95 undef = .int .i64 (cn + y) := hft 16 _ 95 rfl rfl
                      have m96 : A.tmps.getD 96 undef = .tuple #[.agg #[.int .u64 ((xk : Nat) : Int), .int .i64 (xe), .int .i64 (xr), .int .i64 (xz), .int .i64 (xt), .int .i64 (xn)], .int .i64 er] := hft 17 _ 96 rfl rfl
                      have m78 : A.tmps.getD 78 undef = .tuple #[.agg #[.int .u64 ((xk : Nat) : Int), .int .i64 (xe), .int .i64 (xr), .int .i64 (xz), .int .i64 (xt), .int .i64 (xn)], .int .i64 er] := hft 18 _ 78 rfl rfl
                      have m97 : A.tmps.getD 97 undef = .agg #[.int .u64 ((xk : Nat) : Int), .int .i64 (xe), .int .i64 (xr), .int .i64 (xz), .int .i64 (xt), .int .i64 (xn)] := hft 19 _ 97 rfl rfl
                      have m98 : A.tmps.getD 98 undef = .int .i64 (er) := hft 20 _ 98 rfl rfl
                      have m10 : A.tmps.getD 10 undef = .int .i64 (er) := hft 23 _ 10 rfl rfl
                      rename_i KK hKK
                      refine hKK _ _ ?_
                      show Code.wp _ _ _ A w9
                      rw [frame_puts hdf hsz hol]
                      simp only [List.foldl_cons, List.foldl_nil, Act.put, Option.getD_some, m79, m80, m81, m82, m83, m84, m85, m86, m87, m88, m89, m90, m91, m92, m93, m94, m95, m96, m78, m97, m98, m10, hgx, List.setIfInBounds_toArray, List.set_cons_succ, List.set_cons_zero]
                      clear m79 m80 m81 m82 m83 m84 m85 m86 m87 m88 m89 m90 m91 m92 m93 m94 m95 m96 m78 m97 m98 m10 hft hol hsz hdf hKK hgx
                      replace X := X.later (hb9.mono X.lt)
                      replace R := R.later (hb9.mono R.lt)
                      replace Aa := Aa.later (hb9.mono Aa.lt)
                      replace BB := BB.trans (hb9.mono BB.size)
                      clear hb9
                      have Tq := T.later BB
                      have qA0 : ∀ p : Later w9, p.val.cell? ⟨ga, off + k * 2, none⟩ = some (.int .i64 x) := fun p => (Aa.later (p.below.mono Aa.lt)).c0
                      have qA1 : ∀ p : Later w9, p.val.cell? ⟨ga, off + k * 2 + 1, none⟩ = some (.int .i64 y) := fun p => (Aa.later (p.below.mono Aa.lt)).c1
                      have hne61 := later_ne w9
                      have qX0 : ∀ p : Later w9, p.val.cell? ⟨W.heap.size, 0, none⟩ = some (.int .u64 ((ck : Nat) : Int)) := fun p => (X.later (p.below.mono X.lt)).c0
                      have qX1 : ∀ p : Later w9, p.val.cell? ⟨W.heap.size, 1, none⟩ = some (.int .i64 (ce)) := fun p => (X.later (p.below.mono X.lt)).c1
                      have qX2 : ∀ p : Later w9, p.val.cell? ⟨W.heap.size, 2, none⟩ = some (.int .i64 (cr)) := fun p => (X.later (p.below.mono X.lt)).c2
                      have qX3 : ∀ p : Later w9, p.val.cell? ⟨W.heap.size, 3, none⟩ = some (.int .i64 (cz)) := fun p => (X.later (p.below.mono X.lt)).c3
                      have qX4 : ∀ p : Later w9, p.val.cell? ⟨W.heap.size, 4, none⟩ = some (.int .i64 (ct)) := fun p => (X.later (p.below.mono X.lt)).c4
                      have qX5 : ∀ p : Later w9, p.val.cell? ⟨W.heap.size, 5, none⟩ = some (.int .i64 (cn)) := fun p => (X.later (p.below.mono X.lt)).c5
                      go_wp2
                      refine wp_region_later (by kernel_rfl) (by kernel_rfl) ?_
                      (repeat (first | go_big_quiet_skip | (go_big_quiet_want; go_big_quiet_op; go_big_quiet_on)))
                      (go_big_quiet_want; go_big_quiet_op; apply Exists.intro; refine ⟨fun p => ?_, ?_⟩; (· exact later_of (awake_any _ (Tq.later p.below))); go_big_quiet_on)
                      (repeat (first | go_big_quiet_skip | (go_big_quiet_want; go_big_quiet_op; go_big_quiet_on)))
                      refine wpQuiet_nil ?_
                      rintro _ ⟨p61, rfl⟩
                      replace X := X.later (p61.below.mono X.lt)
                      replace R := R.later (p61.below.mono R.lt)
                      replace Aa := Aa.later (p61.below.mono Aa.lt)
                      replace BB := BB.trans (p61.below.mono BB.size)
                      clear hne61 qX0 qX1 qX2 qX3 qX4 qX5
                      go_wp2
                      go_ret
                      exact ⟨rfl, BB⟩
  
                    · have g1' : decide ((1099511627775 : Int) ≤ cr) = false := decide_eq_false g1
                      by_cases g2 : 1099511627776 ≤ ct + x
                      · clear hbad
                        have Aac0_1 := Aa.c0
                        have Aac1_1 := Aa.c1
                        go_wp2
                        clear Aac0_1 Aac1_1
                        refine wp_region_specs_mid (n := 22) [.val (.agg #[.int .u64 ((ck : Nat) : Int), .int .i64 (ce), .int .i64 (cr), .int .i64 (cz), .int .i64 (ct), .int .i64 (cn)]), .val (.pointer (some ⟨W.heap.size, 4, none⟩)), .val (.int .i64 ct), .val (.slice (some ⟨ga, off, none⟩) n cap), .val (.int .i64 (k : Nat)), .val (.pointer (some ⟨ga, off + k * 2, none⟩)), .val (.pointer (some ⟨ga, off + k * 2, none⟩)), .val (.int .i64 x), .val (.int .i64 (ct + x)), .val (.pointer (some ⟨W.heap.size, 5, none⟩)), .val (.int .i64 cn), .val (.slice (some ⟨ga, off, none⟩) n cap), .val (.int .i64 (k : Nat)), .val (.pointer (some ⟨ga, off + k * 2, none⟩)), .val (.pointer (some ⟨ga, off + k * 2 + 1, none⟩)), .val (.int .i64 y), .val (.int .i64 (cn + y)), .val (.tuple #[.agg #[.int .u64 ((xk : Nat) : Int), .int .i64 (xe), .int .i64 (xr), .int .i64 (xz), .int .i64 (xt), .int .i64 (xn)], .int .i64 er]), .val (.tuple #[.agg #[.int .u64 ((xk : Nat) : Int), .int .i64 (xe), .int .i64 (xr), .int .i64 (xz), .int .i64 (xt), .int .i64 (xn)], .int .i64 er]), .val (.agg #[.int .u64 ((xk : Nat) : Int), .int .i64 (xe), .int .i64 (xr), .int .i64 (xz), .int .i64 (xt), .int .i64 (xn)]), .val (.int .i64 (er)), .nbox wr.heap.size, .val (undef), .val (.int .i64 (er))] [.val (.agg #[.int .u64 ((ck : Nat) : Int), .int .i64 (ce), .int .i64 (cr), .int .i64 (cz), .int .i64 (ct), .int .i64 (cn)]), .val (.pointer (some ⟨W.heap.size, 4, none⟩)), .val (.int .i64 ct), .val (.slice (some ⟨ga, off, none⟩) n cap), .val (.int .i64 (k : Nat)), .val (.pointer (some ⟨ga, off + k * 2, none⟩)), .val (.pointer (some ⟨ga, off + k * 2, none⟩)), .val (.int .i64 x), .val (.int .i64 (ct + x)), .val (.pointer (some ⟨W.heap.size, 5, none⟩)), .val (.int .i64 cn), .val (.slice (some ⟨ga, off, none⟩) n cap), .val (.int .i64 (k : Nat)), .val (.pointer (some ⟨ga, off + k * 2, none⟩)), .val (.pointer (some ⟨ga, off + k * 2 + 1, none⟩)), .val (.int .i64 y), .val (.int .i64 (cn + y)), .val (.tuple #[.agg #[.int .u64 ((xk : Nat) : Int), .int .i64 (xe), .int .i64 (xr), .int .i64 (xz), .int .i64 (xt), .int .i64 (xn)], .int .i64 er]), .val (.tuple #[.agg #[.int .u64 ((xk : Nat) : Int), .int .i64 (xe), .int .i64 (xr), .int .i64 (xz), .int .i64 (xt), .int .i64 (xn)], .int .i64 er]), .val (.agg #[.int .u64 ((xk : Nat) : Int), .int .i64 (xe), .int .i64 (xr), .int .i64 (xz), .int .i64 (xt), .int .i64 (xn)]), .val (.int .i64 (er)), .sbox wr.heap.size (xk) (xe) (xr) (xz) (xt) (xn), .val (undef), .val (.int .i64 (er))] (by kernel_rfl) (by kernel_rfl) rfl rfl rfl ?_ ?_ ?_ ?_
                        · refine ⟨?_, ?_⟩
                          · intro hp A w1 hb ho hd
                            clear hp
                            have e2 : A.tmps[2]?.getD undef = .pointer (some ⟨W.heap.size, 0, none⟩) := olds_get ho 2 (by kernel_rfl)
                            have x0 := (X.later (hb.mono X.lt)).c0
                            have x1 := (X.later (hb.mono X.lt)).c1
                            have x2 := (X.later (hb.mono X.lt)).c2
                            have x3 := (X.later (hb.mono X.lt)).c3
                            have x4 := (X.later (hb.mono X.lt)).c4
                            have x5 := (X.later (hb.mono X.lt)).c5
                            refine ⟨rfl, goes_value (v := .agg #[.int .u64 ((ck : Nat) : Int), .int .i64 (ce), .int .i64 (cr), .int .i64 (cz), .int .i64 (ct), .int .i64 (cn)]) ?_ rfl⟩
                            simp [go_sem, e2, x0, x1, x2, x3, x4, x5]
                          refine ⟨?_, ?_⟩
                          · intro hp A w1 hb ho hd
                            clear hp
                            have e2 : A.tmps[2]?.getD undef = .pointer (some ⟨W.heap.size, 0, none⟩) := olds_get ho 2 (by kernel_rfl)
                            refine ⟨rfl, goes_value (v := .pointer (some ⟨W.heap.size, 4, none⟩)) ?_ rfl⟩
                            simp [go_sem, e2]
                          refine ⟨?_, ?_⟩
                          · intro hp A w1 hb ho hd
                            clear hp
                            have e80 : A.tmps[80]?.getD undef = .pointer (some ⟨W.heap.size, 4, none⟩) := getq (hd _ (Array.mem_of_getElem? (i := 0) rfl) rfl _ _ rfl rfl)
                            have x4 := (X.later (hb.mono X.lt)).c4
                            refine ⟨rfl, goes_value (v := .int .i64 ct) ?_ rfl⟩
                            simp [go_sem, e80, x4]
                          refine ⟨?_, ?_⟩
                          · intro hp A w1 hb ho hd
                            clear hp
                            have e1 : A.tmps[1]?.getD undef = .slice (some ⟨ga, off, none⟩) n cap := olds_get ho 1 (by kernel_rfl)
                            refine ⟨rfl, goes_value (v := .slice (some ⟨ga, off, none⟩) n cap) ?_ rfl⟩
                            simp [go_sem, e1]
                          refine ⟨?_, ?_⟩
                          · intro hp A w1 hb ho hd
                            clear hp
                            have e8 : A.tmps[8]?.getD undef = .int .i64 (k : Nat) := olds_get ho 8 (by kernel_rfl)
                            refine ⟨rfl, goes_value (v := .int .i64 (k : Nat)) ?_ rfl⟩
                            simp [go_sem, e8]
                          refine ⟨?_, ?_⟩
                          · intro hp A w1 hb ho hd
                            clear hp
                            have e82 : A.tmps[82]?.getD undef = .slice (some ⟨ga, off, none⟩) n cap := getq (hd _ (Array.mem_of_getElem? (i := 0) rfl) rfl _ _ rfl rfl)
                            have e83 : A.tmps[83]?.getD undef = .int .i64 (k : Nat) := getq (hd _ (Array.mem_of_getElem? (i := 1) rfl) rfl _ _ rfl rfl)
                            refine ⟨rfl, goes_value (v := .pointer (some ⟨ga, off + k * 2, none⟩)) ?_ rfl⟩
                            simp [go_sem, e82, e83, hlt']
                          refine ⟨?_, ?_⟩
                          · intro hp A w1 hb ho hd
                            clear hp
                            have e84 : A.tmps[84]?.getD undef = .pointer (some ⟨ga, off + k * 2, none⟩) := getq (hd _ (Array.mem_of_getElem? (i := 0) rfl) rfl _ _ rfl rfl)
                            refine ⟨rfl, goes_value (v := .pointer (some ⟨ga, off + k * 2, none⟩)) ?_ rfl⟩
                            simp [go_sem, e84]
                          refine ⟨?_, ?_⟩
                          · intro hp A w1 hb ho hd
                            clear hp
                            have e85 : A.tmps[85]?.getD undef = .pointer (some ⟨ga, off + k * 2, none⟩) := getq (hd _ (Array.mem_of_getElem? (i := 0) rfl) rfl _ _ rfl rfl)
                            have a0 := (Aa.later (hb.mono Aa.lt)).c0
                            refine ⟨rfl, goes_value (v := .int .i64 x) ?_ rfl⟩
                            simp [go_sem, e85, a0]
                          refine ⟨?_, ?_⟩
                          · intro hp A w1 hb ho hd
                            clear hp
                            have e81 : A.tmps[81]?.getD undef = .int .i64 ct := getq (hd _ (Array.mem_of_getElem? (i := 0) rfl) rfl _ _ rfl rfl)
                            have e86 : A.tmps[86]?.getD undef = .int .i64 x := getq (hd _ (Array.mem_of_getElem? (i := 1) rfl) rfl _ _ rfl rfl)
                            refine ⟨rfl, goes_value (v := .int .i64 (ct + x)) ?_ rfl⟩
                            simp [go_sem, e81, e86, hw1]
                          refine ⟨?_, ?_⟩
                          · intro hp A w1 hb ho hd
                            clear hp
                            have e2 : A.tmps[2]?.getD undef = .pointer (some ⟨W.heap.size, 0, none⟩) := olds_get ho 2 (by kernel_rfl)
                            refine ⟨rfl, goes_value (v := .pointer (some ⟨W.heap.size, 5, none⟩)) ?_ rfl⟩
                            simp [go_sem, e2]
                          refine ⟨?_, ?_⟩
                          · intro hp A w1 hb ho hd
                            clear hp
                            have e88 : A.tmps[88]?.getD undef = .pointer (some ⟨W.heap.size, 5, none⟩) := getq (hd _ (Array.mem_of_getElem? (i := 0) rfl) rfl _ _ rfl rfl)
                            have x5 := (X.later (hb.mono X.lt)).c5
                            refine ⟨rfl, goes_value (v := .int .i64 cn) ?_ rfl⟩
                            simp [go_sem, e88, x5]
                          refine ⟨?_, ?_⟩
                          · intro hp A w1 hb ho hd
                            clear hp
                            have e1 : A.tmps[1]?.getD undef = .slice (some ⟨ga, off, none⟩) n cap := olds_get ho 1 (by kernel_rfl)
                            refine ⟨rfl, goes_value (v := .slice (some ⟨ga, off, none⟩) n cap) ?_ rfl⟩
                            simp [go_sem, e1]
                          refine ⟨?_, ?_⟩
                          · intro hp A w1 hb ho hd
                            clear hp
                            have e8 : A.tmps[8]?.getD undef = .int .i64 (k : Nat) := olds_get ho 8 (by kernel_rfl)
                            refine ⟨rfl, goes_value (v := .int .i64 (k : Nat)) ?_ rfl⟩
                            simp [go_sem, e8]
                          refine ⟨?_, ?_⟩
                          · intro hp A w1 hb ho hd
                            clear hp
                            have e90 : A.tmps[90]?.getD undef = .slice (some ⟨ga, off, none⟩) n cap := getq (hd _ (Array.mem_of_getElem? (i := 0) rfl) rfl _ _ rfl rfl)
                            have e91 : A.tmps[91]?.getD undef = .int .i64 (k : Nat) := getq (hd _ (Array.mem_of_getElem? (i := 1) rfl) rfl _ _ rfl rfl)
                            refine ⟨rfl, goes_value (v := .pointer (some ⟨ga, off + k * 2, none⟩)) ?_ rfl⟩
                            simp [go_sem, e90, e91, hlt']
                          refine ⟨?_, ?_⟩
                          · intro hp A w1 hb ho hd
                            clear hp
                            have e92 : A.tmps[92]?.getD undef = .pointer (some ⟨ga, off + k * 2, none⟩) := getq (hd _ (Array.mem_of_getElem? (i := 0) rfl) rfl _ _ rfl rfl)
                            refine ⟨rfl, goes_value (v := .pointer (some ⟨ga, off + k * 2 + 1, none⟩)) ?_ rfl⟩
                            simp [go_sem, e92]
                          refine ⟨?_, ?_⟩
                          · intro hp A w1 hb ho hd
                            clear hp
                            have e93 : A.tmps[93]?.getD undef = .pointer (some ⟨ga, off + k * 2 + 1, none⟩) := getq (hd _ (Array.mem_of_getElem? (i := 0) rfl) rfl _ _ rfl rfl)
                            have a1 := (Aa.later (hb.mono Aa.lt)).c1
                            refine ⟨rfl, goes_value (v := .int .i64 y) ?_ rfl⟩
                            simp [go_sem, e93, a1]
                          refine ⟨?_, ?_⟩
                          · intro hp A w1 hb ho hd
                            clear hp
                            have e89 : A.tmps[89]?.getD undef = .int .i64 cn := getq (hd _ (Array.mem_of_getElem? (i := 0) rfl) rfl _ _ rfl rfl)
                            have e94 : A.tmps[94]?.getD undef = .int .i64 y := getq (hd _ (Array.mem_of_getElem? (i := 1) rfl) rfl _ _ rfl rfl)
                            refine ⟨rfl, goes_value (v := .int .i64 (cn + y)) ?_ rfl⟩
                            simp [go_sem, e89, e94, hw2]
                          refine ⟨?_, ?_⟩
                          · intro hp A w1 hb ho hd
                            clear hp
                            have e79 : A.tmps[79]?.getD undef = .agg #[.int .u64 ((ck : Nat) : Int), .int .i64 (ce), .int .i64 (cr), .int .i64 (cz), .int .i64 (ct), .int .i64 (cn)] := getq (hd _ (Array.mem_of_getElem? (i := 0) rfl) rfl _ _ rfl rfl)
                            have e87 : A.tmps[87]?.getD undef = .int .i64 (ct + x) := getq (hd _ (Array.mem_of_getElem? (i := 1) rfl) rfl _ _ rfl rfl)
                            have e95 : A.tmps[95]?.getD undef = .int .i64 (cn + y) := getq (hd _ (Array.mem_of_getElem? (i := 2) rfl) rfl _ _ rfl rfl)
                            refine ⟨rfl, goes_call (f := 20) (args := #[.agg #[.int .u64 ((ck : Nat) : Int), .int .i64 (ce), .int .i64 (cr), .int .i64 (cz), .int .i64 (ct), .int .i64 (cn)], .int .i64 (ct + x), .int .i64 (cn + y)]) ?_ (hN w1)⟩
                            simp [go_sem, e79, e87, e95]
                          refine ⟨?_, ?_⟩
                          · intro hp A w1 hb ho hd
                            clear hp
                            have e96 : A.tmps[96]?.getD undef = .tuple #[.agg #[.int .u64 ((xk : Nat) : Int), .int .i64 (xe), .int .i64 (xr), .int .i64 (xz), .int .i64 (xt), .int .i64 (xn)], .int .i64 er] := getq (hd _ (Array.mem_of_getElem? (i := 0) rfl) rfl _ _ rfl rfl)
                            refine ⟨rfl, goes_value (v := .tuple #[.agg #[.int .u64 ((xk : Nat) : Int), .int .i64 (xe), .int .i64 (xr), .int .i64 (xz), .int .i64 (xt), .int .i64 (xn)], .int .i64 er]) ?_ rfl⟩
                            simp [go_sem, e96]
                          refine ⟨?_, ?_⟩
                          · intro hp A w1 hb ho hd
                            clear hp
                            have e78 : A.tmps[78]?.getD undef = .tuple #[.agg #[.int .u64 ((xk : Nat) : Int), .int .i64 (xe), .int .i64 (xr), .int .i64 (xz), .int .i64 (xt), .int .i64 (xn)], .int .i64 er] := getq (hd _ (Array.mem_of_getElem? (i := 0) rfl) rfl _ _ rfl rfl)
                            refine ⟨rfl, goes_value (v := .agg #[.int .u64 ((xk : Nat) : Int), .int .i64 (xe), .int .i64 (xr), .int .i64 (xz), .int .i64 (xt), .int .i64 (xn)]) ?_ rfl⟩
                            simp [go_sem, e78]
                          refine ⟨?_, ?_⟩
                          · intro hp A w1 hb ho hd
                            clear hp
                            have e78 : A.tmps[78]?.getD undef = .tuple #[.agg #[.int .u64 ((xk : Nat) : Int), .int .i64 (xe), .int .i64 (xr), .int .i64 (xz), .int .i64 (xt), .int .i64 (xn)], .int .i64 er] := getq (hd _ (Array.mem_of_getElem? (i := 0) rfl) rfl _ _ rfl rfl)
                            refine ⟨rfl, goes_value (v := .int .i64 (er)) ?_ rfl⟩
                            simp [go_sem, e78]
                          refine ⟨?_, ?_⟩
                          · intro hp A w1 hb ho hd
                            clear hp
                            refine ⟨rfl, goes_alloc (v := .pointer (some ⟨w1.heap.size, 0, none⟩)) (o := .cells #[.int .u64 ((0 : Nat) : Int), .int .i64 0, .int .i64 0, .int .i64 0, .int .i64 0, .int .i64 0] 24) ?_ ⟨_, rfl, hb.size, boxC _ 0 0 0 0 0 0 24⟩⟩
                            simp [go_sem]
                          refine ⟨?_, ?_⟩
                          · exact fun hp => absurd hp (by decide)
                          refine ⟨?_, ?_⟩
                          · intro hp A w1 hb ho hd
                            clear hp
                            have e98 : A.tmps[98]?.getD undef = .int .i64 (er) := getq (hd _ (Array.mem_of_getElem? (i := 0) rfl) rfl _ _ rfl rfl)
                            refine ⟨rfl, goes_value (v := .int .i64 (er)) ?_ rfl⟩
                            simp [go_sem, e98]
                          trivial
                        · refine ⟨?_, ?_⟩
                          · exact not_needed (by kernel_rfl)
                          refine ⟨?_, ?_⟩
                          · exact not_needed (by kernel_rfl)
                          refine ⟨?_, ?_⟩
                          · exact not_needed (by kernel_rfl)
                          refine ⟨?_, ?_⟩
                          · exact not_needed (by kernel_rfl)
                          refine ⟨?_, ?_⟩
                          · exact not_needed (by kernel_rfl)
                          refine ⟨?_, ?_⟩
                          · exact not_needed (by kernel_rfl)
                          refine ⟨?_, ?_⟩
                          · exact not_needed (by kernel_rfl)
                          refine ⟨?_, ?_⟩
                          · exact not_needed (by kernel_rfl)
                          refine ⟨?_, ?_⟩
                          · exact not_needed (by kernel_rfl)
                          refine ⟨?_, ?_⟩
                          · exact not_needed (by kernel_rfl)
                          refine ⟨?_, ?_⟩
                          · exact not_needed (by kernel_rfl)
                          refine ⟨?_, ?_⟩
                          · exact not_needed (by kernel_rfl)
                          refine ⟨?_, ?_⟩
                          · exact not_needed (by kernel_rfl)
                          refine ⟨?_, ?_⟩
                          · exact not_needed (by kernel_rfl)
                          refine ⟨?_, ?_⟩
                          · exact not_needed (by kernel_rfl)
                          refine ⟨?_, ?_⟩
                          · exact not_needed (by kernel_rfl)
                          refine ⟨?_, ?_⟩
                          · exact not_needed (by kernel_rfl)
                          refine ⟨?_, ?_⟩
                          · exact not_needed (by kernel_rfl)
                          refine ⟨?_, ?_⟩
                          · exact not_needed (by kernel_rfl)
                          refine ⟨?_, ?_⟩
                          · exact not_needed (by kernel_rfl)
                          refine ⟨?_, ?_⟩
                          · intro hp A w1 hb ho hd
                            clear hp
                            have e78 : A.tmps[78]?.getD undef = .tuple #[.agg #[.int .u64 ((xk : Nat) : Int), .int .i64 (xe), .int .i64 (xr), .int .i64 (xz), .int .i64 (xt), .int .i64 (xn)], .int .i64 er] := getq (hd _ (Array.mem_of_getElem? (i := 0) rfl) rfl _ _ rfl rfl)
                            refine ⟨rfl, goes_value (v := .int .i64 (er)) ?_ rfl⟩
                            simp [go_sem, e78]
                          refine ⟨?_, ?_⟩
                          · exact not_needed (by kernel_rfl)
                          refine ⟨?_, ?_⟩
                          · exact not_needed (by kernel_rfl)
                          refine ⟨?_, ?_⟩
                          · intro hp A w1 hb ho hd
                            clear hp
                            have e98 : A.tmps[98]?.getD undef = .int .i64 (er) := getq (hd _ (Array.mem_of_getElem? (i := 0) rfl) rfl _ _ rfl rfl)
                            refine ⟨rfl, goes_value (v := .int .i64 (er)) ?_ rfl⟩
                            simp [go_sem, e98]
                          trivial
                        · intro A w2 hb ho hd
                          obtain ⟨g, hg, hge, Zb⟩ := hd _ (Array.mem_of_getElem? (i := 0) rfl) rfl _ _ rfl rfl
                          have eB := getq hg
                          have eV : A.tmps[97]?.getD undef = .agg #[.int .u64 ((xk : Nat) : Int), .int .i64 (xe), .int .i64 (xr), .int .i64 (xz), .int .i64 (xt), .int .i64 (xn)] := getq (hd _ (Array.mem_of_getElem? (i := 1) rfl) rfl _ _ rfl rfl)
                          have zc0 := Zb.c0
                          have zc1 := Zb.c1
                          have zc2 := Zb.c2
                          have zc3 := Zb.c3
                          have zc4 := Zb.c4
                          have zc5 := Zb.c5
                          have zf0 := Zb.fr 0 (by omega)
                          have zf1 := Zb.fr 1 (by omega)
                          have zf2 := Zb.fr 2 (by omega)
                          have zf3 := Zb.fr 3 (by omega)
                          have zf4 := Zb.fr 4 (by omega)
                          have zf5 := Zb.fr 5 (by omega)
                          refine ⟨_, by simp [go_sem, eB, eV, zc0, zc1, zc2, zc3, zc4, zc5, zf0, zf1, zf2, zf3, zf4, zf5]; rfl, ?_, ?_⟩
                          · exact BoxC.below Zb hb hge (xk) (xe) (xr) (xz) (xt) (xn)
                          · intro j o d hj hdst h
                            match j, hj, hdst, h with
                            | 0, _, _, h => exact h
                            | 1, _, _, h => exact h
                            | 2, _, _, h => exact h
                            | 3, _, _, h => exact h
                            | 4, _, _, h => exact h
                            | 5, _, _, h => exact h
                            | 6, _, _, h => exact h
                            | 7, _, _, h => exact h
                            | 8, _, _, h => exact h
                            | 9, _, _, h => exact h
                            | 10, _, _, h => exact h
                            | 11, _, _, h => exact h
                            | 12, _, _, h => exact h
                            | 13, _, _, h => exact h
                            | 14, _, _, h => exact h
                            | 15, _, _, h => exact h
                            | 16, _, _, h => exact h
                            | 17, _, _, h => exact h
                            | 18, _, _, h => exact h
                            | 19, _, _, h => exact h
                            | 20, _, _, h => exact h
                            | 21, hj, hdst, _ =>
                              cases hj
                              cases hdst
                              exact ⟨g, hg, hge, Zb.put (xk) (xe) (xr) (xz) (xt) (xn)⟩
                            | 22, _, _, h => exact h
                            | 23, _, _, h => exact h
                            | j + 24, hj, _, _ => simp at hj
                        intro A w9 hb9 hdf hsz hol hft
                        obtain ⟨gx, hgx, hgxe, XN⟩ := hft 21 _ 9 rfl rfl
                        have m79 : A.tmps.getD 79 undef = .agg #[.int .u64 ((ck : Nat) : Int), .int .i64 (ce), .int .i64 (cr), .int .i64 (cz), .int .i64 (ct), .int .i64 (cn)] := hft 0 _ 79 rfl rfl
                        have m80 : A.tmps.getD 80 undef = .pointer (some ⟨W.heap.size, 4, none⟩) := hft 1 _ 80 rfl rfl
                        have m81 : A.tmps.getD 81 undef = .int .i64 ct := hft 2 _ 81 rfl rfl
                        have m82 : A.tmps.getD 82 undef = .slice (some ⟨ga, off, none⟩) n cap := hft 3 _ 82 rfl rfl
                        have m83 : A.tmps.getD 83 undef = .int .i64 (k : Nat) := hft 4 _ 83 rfl rfl
                        have m84 : A.tmps.getD 84 undef = .pointer (some ⟨ga, off + k * 2, none⟩) := hft 5 _ 84 rfl rfl
                        have m85 : A.tmps.getD 85 undef = .pointer (some ⟨ga, off + k * 2, none⟩) := hft 6 _ 85 rfl rfl
                        have m86 : A.tmps.getD 86 undef = .int .i64 x := hft 7 _ 86 rfl rfl
                        have m87 : A.tmps.getD 87 undef = .int .i64 (ct + x) := hft 8 _ 87 rfl rfl
                        have m88 : A.tmps.getD 88 undef = .pointer (some ⟨W.heap.size, 5, none⟩) := hft 9 _ 88 rfl rfl
                        have m89 : A.tmps.getD 89 undef = .int .i64 cn := hft 10 _ 89 rfl rfl
                        have m90 : A.tmps.getD 90 undef = .slice (some ⟨ga, off, none⟩) n cap := hft 11 _ 90 rfl rfl
                        have m91 : A.tmps.getD 91 undef = .int .i64 (k : Nat) := hft 12 _ 91 rfl rfl
                        have m92 : A.tmps.getD 92 undef = .pointer (some ⟨ga, off + k * 2, none⟩) := hft 13 _ 92 rfl rfl
                        have m93 : A.tmps.getD 93 undef = .pointer (some ⟨ga, off + k * 2 + 1, none⟩) := hft 14 _ 93 rfl rfl
                        have m94 : A.tmps.getD 94 undef = .int .i64 y := hft 15 _ 94 rfl rfl
                        have m95 : A.tmps.getD 95 undef = .int .i64 (cn + y) := hft 16 _ 95 rfl rfl
                        have m96 : A.tmps.getD 96 undef = .tuple #[.agg #[.int .u64 ((xk : Nat) : Int), .int .i64 (xe), .int .i64 (xr), .int .i64 (xz), .int .i64 (xt), .int .i64 (xn)], .int .i64 er] := hft 17 _ 96 rfl rfl
                        have m78 : A.tmps.getD 78 undef = .tuple #[.agg #[.int .u64 ((xk : Nat) : Int), .int .i64 (xe), .int .i64 (xr), .int .i64 (xz), .int .i64 (xt), .int .i64 (xn)], .int .i64 er] := hft 18 _ 78 rfl rfl
                        have m97 : A.tmps.getD 97 undef = .agg #[.int .u64 ((xk : Nat) : Int), .int .i64 (xe), .int .i64 (xr), .int .i64 (xz), .int .i64 (xt), .int .i64 (xn)] := hft 19 _ 97 rfl rfl
                        have m98 : A.tmps.getD 98 undef = .int .i64 (er) := hft 20 _ 98 rfl rfl
                        have m10 : A.tmps.getD 10 undef = .int .i64 (er) := hft 23 _ 10 rfl rfl
                        rename_i KK hKK
                        refine hKK _ _ ?_
                        show Code.wp _ _ _ A w9
                        rw [frame_puts hdf hsz hol]
                        simp only [List.foldl_cons, List.foldl_nil, Act.put, Option.getD_some, m79, m80, m81, m82, m83, m84, m85, m86, m87, m88, m89, m90, m91, m92, m93, m94, m95, m96, m78, m97, m98, m10, hgx, List.setIfInBounds_toArray, List.set_cons_succ, List.set_cons_zero]
                        clear m79 m80 m81 m82 m83 m84 m85 m86 m87 m88 m89 m90 m91 m92 m93 m94 m95 m96 m78 m97 m98 m10 hft hol hsz hdf hKK hgx
                        replace X := X.later (hb9.mono X.lt)
                        replace R := R.later (hb9.mono R.lt)
                        replace Aa := Aa.later (hb9.mono Aa.lt)
                        replace BB := BB.trans (hb9.mono BB.size)
                        clear hb9
                        have Tq := T.later BB
                        have qA0 : ∀ p : Later w9, p.val.cell? ⟨ga, off + k * 2, none⟩ = some (.int .i64 x) := fun p => (Aa.later (p.below.mono Aa.lt)).c0
                        have qA1 : ∀ p : Later w9, p.val.cell? ⟨ga, off + k * 2 + 1, none⟩ = some (.int .i64 y) := fun p => (Aa.later (p.below.mono Aa.lt)).c1
                        have hne61 := later_ne w9
                        have qX0 : ∀ p : Later w9, p.val.cell? ⟨W.heap.size, 0, none⟩ = some (.int .u64 ((ck : Nat) : Int)) := fun p => (X.later (p.below.mono X.lt)).c0
                        have qX1 : ∀ p : Later w9, p.val.cell? ⟨W.heap.size, 1, none⟩ = some (.int .i64 (ce)) := fun p => (X.later (p.below.mono X.lt)).c1
                        have qX2 : ∀ p : Later w9, p.val.cell? ⟨W.heap.size, 2, none⟩ = some (.int .i64 (cr)) := fun p => (X.later (p.below.mono X.lt)).c2
                        have qX3 : ∀ p : Later w9, p.val.cell? ⟨W.heap.size, 3, none⟩ = some (.int .i64 (cz)) := fun p => (X.later (p.below.mono X.lt)).c3
                        have qX4 : ∀ p : Later w9, p.val.cell? ⟨W.heap.size, 4, none⟩ = some (.int .i64 (ct)) := fun p => (X.later (p.below.mono X.lt)).c4
                        have qX5 : ∀ p : Later w9, p.val.cell? ⟨W.heap.size, 5, none⟩ = some (.int .i64 (cn)) := fun p => (X.later (p.below.mono X.lt)).c5
                        go_wp2
                        refine wp_region_later (by kernel_rfl) (by kernel_rfl) ?_
                        (repeat (first | go_big_quiet_skip | (go_big_quiet_want; go_big_quiet_op; go_big_quiet_on)))
                        (go_big_quiet_want; go_big_quiet_op; apply Exists.intro; refine ⟨fun p => ?_, ?_⟩; (· exact later_of (awake_any _ (Tq.later p.below))); go_big_quiet_on)
                        (repeat (first | go_big_quiet_skip | (go_big_quiet_want; go_big_quiet_op; go_big_quiet_on)))
                        refine wpQuiet_nil ?_
                        rintro _ ⟨p61, rfl⟩
                        replace X := X.later (p61.below.mono X.lt)
                        replace R := R.later (p61.below.mono R.lt)
                        replace Aa := Aa.later (p61.below.mono Aa.lt)
                        replace BB := BB.trans (p61.below.mono BB.size)
                        clear hne61 qX0 qX1 qX2 qX3 qX4 qX5
                        go_wp2
                        go_ret
                        exact ⟨rfl, BB⟩
  
                      · have g3 : 1099511627776 ≤ cn + y := by omega
                        have g2' : decide ((1099511627776 : Int) ≤ ct + x) = false := decide_eq_false g2
                        clear hbad
                        have Aac0_1 := Aa.c0
                        have Aac1_1 := Aa.c1
                        go_wp2
                        clear Aac0_1 Aac1_1
                        refine wp_region_specs_mid (n := 22) [.val (.agg #[.int .u64 ((ck : Nat) : Int), .int .i64 (ce), .int .i64 (cr), .int .i64 (cz), .int .i64 (ct), .int .i64 (cn)]), .val (.pointer (some ⟨W.heap.size, 4, none⟩)), .val (.int .i64 ct), .val (.slice (some ⟨ga, off, none⟩) n cap), .val (.int .i64 (k : Nat)), .val (.pointer (some ⟨ga, off + k * 2, none⟩)), .val (.pointer (some ⟨ga, off + k * 2, none⟩)), .val (.int .i64 x), .val (.int .i64 (ct + x)), .val (.pointer (some ⟨W.heap.size, 5, none⟩)), .val (.int .i64 cn), .val (.slice (some ⟨ga, off, none⟩) n cap), .val (.int .i64 (k : Nat)), .val (.pointer (some ⟨ga, off + k * 2, none⟩)), .val (.pointer (some ⟨ga, off + k * 2 + 1, none⟩)), .val (.int .i64 y), .val (.int .i64 (cn + y)), .val (.tuple #[.agg #[.int .u64 ((xk : Nat) : Int), .int .i64 (xe), .int .i64 (xr), .int .i64 (xz), .int .i64 (xt), .int .i64 (xn)], .int .i64 er]), .val (.tuple #[.agg #[.int .u64 ((xk : Nat) : Int), .int .i64 (xe), .int .i64 (xr), .int .i64 (xz), .int .i64 (xt), .int .i64 (xn)], .int .i64 er]), .val (.agg #[.int .u64 ((xk : Nat) : Int), .int .i64 (xe), .int .i64 (xr), .int .i64 (xz), .int .i64 (xt), .int .i64 (xn)]), .val (.int .i64 (er)), .nbox wr.heap.size, .val (undef), .val (.int .i64 (er))] [.val (.agg #[.int .u64 ((ck : Nat) : Int), .int .i64 (ce), .int .i64 (cr), .int .i64 (cz), .int .i64 (ct), .int .i64 (cn)]), .val (.pointer (some ⟨W.heap.size, 4, none⟩)), .val (.int .i64 ct), .val (.slice (some ⟨ga, off, none⟩) n cap), .val (.int .i64 (k : Nat)), .val (.pointer (some ⟨ga, off + k * 2, none⟩)), .val (.pointer (some ⟨ga, off + k * 2, none⟩)), .val (.int .i64 x), .val (.int .i64 (ct + x)), .val (.pointer (some ⟨W.heap.size, 5, none⟩)), .val (.int .i64 cn), .val (.slice (some ⟨ga, off, none⟩) n cap), .val (.int .i64 (k : Nat)), .val (.pointer (some ⟨ga, off + k * 2, none⟩)), .val (.pointer (some ⟨ga, off + k * 2 + 1, none⟩)), .val (.int .i64 y), .val (.int .i64 (cn + y)), .val (.tuple #[.agg #[.int .u64 ((xk : Nat) : Int), .int .i64 (xe), .int .i64 (xr), .int .i64 (xz), .int .i64 (xt), .int .i64 (xn)], .int .i64 er]), .val (.tuple #[.agg #[.int .u64 ((xk : Nat) : Int), .int .i64 (xe), .int .i64 (xr), .int .i64 (xz), .int .i64 (xt), .int .i64 (xn)], .int .i64 er]), .val (.agg #[.int .u64 ((xk : Nat) : Int), .int .i64 (xe), .int .i64 (xr), .int .i64 (xz), .int .i64 (xt), .int .i64 (xn)]), .val (.int .i64 (er)), .sbox wr.heap.size (xk) (xe) (xr) (xz) (xt) (xn), .val (undef), .val (.int .i64 (er))] (by kernel_rfl) (by kernel_rfl) rfl rfl rfl ?_ ?_ ?_ ?_
                        · refine ⟨?_, ?_⟩
                          · intro hp A w1 hb ho hd
                            clear hp
                            have e2 : A.tmps[2]?.getD undef = .pointer (some ⟨W.heap.size, 0, none⟩) := olds_get ho 2 (by kernel_rfl)
                            have x0 := (X.later (hb.mono X.lt)).c0
                            have x1 := (X.later (hb.mono X.lt)).c1
                            have x2 := (X.later (hb.mono X.lt)).c2
                            have x3 := (X.later (hb.mono X.lt)).c3
                            have x4 := (X.later (hb.mono X.lt)).c4
                            have x5 := (X.later (hb.mono X.lt)).c5
                            refine ⟨rfl, goes_value (v := .agg #[.int .u64 ((ck : Nat) : Int), .int .i64 (ce), .int .i64 (cr), .int .i64 (cz), .int .i64 (ct), .int .i64 (cn)]) ?_ rfl⟩
                            simp [go_sem, e2, x0, x1, x2, x3, x4, x5]
                          refine ⟨?_, ?_⟩
                          · intro hp A w1 hb ho hd
                            clear hp
                            have e2 : A.tmps[2]?.getD undef = .pointer (some ⟨W.heap.size, 0, none⟩) := olds_get ho 2 (by kernel_rfl)
                            refine ⟨rfl, goes_value (v := .pointer (some ⟨W.heap.size, 4, none⟩)) ?_ rfl⟩
                            simp [go_sem, e2]
                          refine ⟨?_, ?_⟩
                          · intro hp A w1 hb ho hd
                            clear hp
                            have e80 : A.tmps[80]?.getD undef = .pointer (some ⟨W.heap.size, 4, none⟩) := getq (hd _ (Array.mem_of_getElem? (i := 0) rfl) rfl _ _ rfl rfl)
                            have x4 := (X.later (hb.mono X.lt)).c4
                            refine ⟨rfl, goes_value (v := .int .i64 ct) ?_ rfl⟩
                            simp [go_sem, e80, x4]
                          refine ⟨?_, ?_⟩
                          · intro hp A w1 hb ho hd
                            clear hp
                            have e1 : A.tmps[1]?.getD undef = .slice (some ⟨ga, off, none⟩) n cap := olds_get ho 1 (by kernel_rfl)
                            refine ⟨rfl, goes_value (v := .slice (some ⟨ga, off, none⟩) n cap) ?_ rfl⟩
                            simp [go_sem, e1]
                          refine ⟨?_, ?_⟩
                          · intro hp A w1 hb ho hd
                            clear hp
                            have e8 : A.tmps[8]?.getD undef = .int .i64 (k : Nat) := olds_get ho 8 (by kernel_rfl)
                            refine ⟨rfl, goes_value (v := .int .i64 (k : Nat)) ?_ rfl⟩
                            simp [go_sem, e8]
                          refine ⟨?_, ?_⟩
                          · intro hp A w1 hb ho hd
                            clear hp
                            have e82 : A.tmps[82]?.getD undef = .slice (some ⟨ga, off, none⟩) n cap := getq (hd _ (Array.mem_of_getElem? (i := 0) rfl) rfl _ _ rfl rfl)
                            have e83 : A.tmps[83]?.getD undef = .int .i64 (k : Nat) := getq (hd _ (Array.mem_of_getElem? (i := 1) rfl) rfl _ _ rfl rfl)
                            refine ⟨rfl, goes_value (v := .pointer (some ⟨ga, off + k * 2, none⟩)) ?_ rfl⟩
                            simp [go_sem, e82, e83, hlt']
                          refine ⟨?_, ?_⟩
                          · intro hp A w1 hb ho hd
                            clear hp
                            have e84 : A.tmps[84]?.getD undef = .pointer (some ⟨ga, off + k * 2, none⟩) := getq (hd _ (Array.mem_of_getElem? (i := 0) rfl) rfl _ _ rfl rfl)
                            refine ⟨rfl, goes_value (v := .pointer (some ⟨ga, off + k * 2, none⟩)) ?_ rfl⟩
                            simp [go_sem, e84]
                          refine ⟨?_, ?_⟩
                          · intro hp A w1 hb ho hd
                            clear hp
                            have e85 : A.tmps[85]?.getD undef = .pointer (some ⟨ga, off + k * 2, none⟩) := getq (hd _ (Array.mem_of_getElem? (i := 0) rfl) rfl _ _ rfl rfl)
                            have a0 := (Aa.later (hb.mono Aa.lt)).c0
                            refine ⟨rfl, goes_value (v := .int .i64 x) ?_ rfl⟩
                            simp [go_sem, e85, a0]
                          refine ⟨?_, ?_⟩
                          · intro hp A w1 hb ho hd
                            clear hp
                            have e81 : A.tmps[81]?.getD undef = .int .i64 ct := getq (hd _ (Array.mem_of_getElem? (i := 0) rfl) rfl _ _ rfl rfl)
                            have e86 : A.tmps[86]?.getD undef = .int .i64 x := getq (hd _ (Array.mem_of_getElem? (i := 1) rfl) rfl _ _ rfl rfl)
                            refine ⟨rfl, goes_value (v := .int .i64 (ct + x)) ?_ rfl⟩
                            simp [go_sem, e81, e86, hw1]
                          refine ⟨?_, ?_⟩
                          · intro hp A w1 hb ho hd
                            clear hp
                            have e2 : A.tmps[2]?.getD undef = .pointer (some ⟨W.heap.size, 0, none⟩) := olds_get ho 2 (by kernel_rfl)
                            refine ⟨rfl, goes_value (v := .pointer (some ⟨W.heap.size, 5, none⟩)) ?_ rfl⟩
                            simp [go_sem, e2]
                          refine ⟨?_, ?_⟩
                          · intro hp A w1 hb ho hd
                            clear hp
                            have e88 : A.tmps[88]?.getD undef = .pointer (some ⟨W.heap.size, 5, none⟩) := getq (hd _ (Array.mem_of_getElem? (i := 0) rfl) rfl _ _ rfl rfl)
                            have x5 := (X.later (hb.mono X.lt)).c5
                            refine ⟨rfl, goes_value (v := .int .i64 cn) ?_ rfl⟩
                            simp [go_sem, e88, x5]
                          refine ⟨?_, ?_⟩
                          · intro hp A w1 hb ho hd
                            clear hp
                            have e1 : A.tmps[1]?.getD undef = .slice (some ⟨ga, off, none⟩) n cap := olds_get ho 1 (by kernel_rfl)
                            refine ⟨rfl, goes_value (v := .slice (some ⟨ga, off, none⟩) n cap) ?_ rfl⟩
                            simp [go_sem, e1]
                          refine ⟨?_, ?_⟩
                          · intro hp A w1 hb ho hd
                            clear hp
                            have e8 : A.tmps[8]?.getD undef = .int .i64 (k : Nat) := olds_get ho 8 (by kernel_rfl)
                            refine ⟨rfl, goes_value (v := .int .i64 (k : Nat)) ?_ rfl⟩
                            simp [go_sem, e8]
                          refine ⟨?_, ?_⟩
                          · intro hp A w1 hb ho hd
                            clear hp
                            have e90 : A.tmps[90]?.getD undef = .slice (some ⟨ga, off, none⟩) n cap := getq (hd _ (Array.mem_of_getElem? (i := 0) rfl) rfl _ _ rfl rfl)
                            have e91 : A.tmps[91]?.getD undef = .int .i64 (k : Nat) := getq (hd _ (Array.mem_of_getElem? (i := 1) rfl) rfl _ _ rfl rfl)
                            refine ⟨rfl, goes_value (v := .pointer (some ⟨ga, off + k * 2, none⟩)) ?_ rfl⟩
                            simp [go_sem, e90, e91, hlt']
                          refine ⟨?_, ?_⟩
                          · intro hp A w1 hb ho hd
                            clear hp
                            have e92 : A.tmps[92]?.getD undef = .pointer (some ⟨ga, off + k * 2, none⟩) := getq (hd _ (Array.mem_of_getElem? (i := 0) rfl) rfl _ _ rfl rfl)
                            refine ⟨rfl, goes_value (v := .pointer (some ⟨ga, off + k * 2 + 1, none⟩)) ?_ rfl⟩
                            simp [go_sem, e92]
                          refine ⟨?_, ?_⟩
                          · intro hp A w1 hb ho hd
                            clear hp
                            have e93 : A.tmps[93]?.getD undef = .pointer (some ⟨ga, off + k * 2 + 1, none⟩) := getq (hd _ (Array.mem_of_getElem? (i := 0) rfl) rfl _ _ rfl rfl)
                            have a1 := (Aa.later (hb.mono Aa.lt)).c1
                            refine ⟨rfl, goes_value (v := .int .i64 y) ?_ rfl⟩
                            simp [go_sem, e93, a1]
                          refine ⟨?_, ?_⟩
                          · intro hp A w1 hb ho hd
                            clear hp
                            have e89 : A.tmps[89]?.getD undef = .int .i64 cn := getq (hd _ (Array.mem_of_getElem? (i := 0) rfl) rfl _ _ rfl rfl)
                            have e94 : A.tmps[94]?.getD undef = .int .i64 y := getq (hd _ (Array.mem_of_getElem? (i := 1) rfl) rfl _ _ rfl rfl)
                            refine ⟨rfl, goes_value (v := .int .i64 (cn + y)) ?_ rfl⟩
                            simp [go_sem, e89, e94, hw2]
                          refine ⟨?_, ?_⟩
                          · intro hp A w1 hb ho hd
                            clear hp
                            have e79 : A.tmps[79]?.getD undef = .agg #[.int .u64 ((ck : Nat) : Int), .int .i64 (ce), .int .i64 (cr), .int .i64 (cz), .int .i64 (ct), .int .i64 (cn)] := getq (hd _ (Array.mem_of_getElem? (i := 0) rfl) rfl _ _ rfl rfl)
                            have e87 : A.tmps[87]?.getD undef = .int .i64 (ct + x) := getq (hd _ (Array.mem_of_getElem? (i := 1) rfl) rfl _ _ rfl rfl)
                            have e95 : A.tmps[95]?.getD undef = .int .i64 (cn + y) := getq (hd _ (Array.mem_of_getElem? (i := 2) rfl) rfl _ _ rfl rfl)
                            refine ⟨rfl, goes_call (f := 20) (args := #[.agg #[.int .u64 ((ck : Nat) : Int), .int .i64 (ce), .int .i64 (cr), .int .i64 (cz), .int .i64 (ct), .int .i64 (cn)], .int .i64 (ct + x), .int .i64 (cn + y)]) ?_ (hN w1)⟩
                            simp [go_sem, e79, e87, e95]
                          refine ⟨?_, ?_⟩
                          · intro hp A w1 hb ho hd
                            clear hp
                            have e96 : A.tmps[96]?.getD undef = .tuple #[.agg #[.int .u64 ((xk : Nat) : Int), .int .i64 (xe), .int .i64 (xr), .int .i64 (xz), .int .i64 (xt), .int .i64 (xn)], .int .i64 er] := getq (hd _ (Array.mem_of_getElem? (i := 0) rfl) rfl _ _ rfl rfl)
                            refine ⟨rfl, goes_value (v := .tuple #[.agg #[.int .u64 ((xk : Nat) : Int), .int .i64 (xe), .int .i64 (xr), .int .i64 (xz), .int .i64 (xt), .int .i64 (xn)], .int .i64 er]) ?_ rfl⟩
                            simp [go_sem, e96]
                          refine ⟨?_, ?_⟩
                          · intro hp A w1 hb ho hd
                            clear hp
                            have e78 : A.tmps[78]?.getD undef = .tuple #[.agg #[.int .u64 ((xk : Nat) : Int), .int .i64 (xe), .int .i64 (xr), .int .i64 (xz), .int .i64 (xt), .int .i64 (xn)], .int .i64 er] := getq (hd _ (Array.mem_of_getElem? (i := 0) rfl) rfl _ _ rfl rfl)
                            refine ⟨rfl, goes_value (v := .agg #[.int .u64 ((xk : Nat) : Int), .int .i64 (xe), .int .i64 (xr), .int .i64 (xz), .int .i64 (xt), .int .i64 (xn)]) ?_ rfl⟩
                            simp [go_sem, e78]
                          refine ⟨?_, ?_⟩
                          · intro hp A w1 hb ho hd
                            clear hp
                            have e78 : A.tmps[78]?.getD undef = .tuple #[.agg #[.int .u64 ((xk : Nat) : Int), .int .i64 (xe), .int .i64 (xr), .int .i64 (xz), .int .i64 (xt), .int .i64 (xn)], .int .i64 er] := getq (hd _ (Array.mem_of_getElem? (i := 0) rfl) rfl _ _ rfl rfl)
                            refine ⟨rfl, goes_value (v := .int .i64 (er)) ?_ rfl⟩
                            simp [go_sem, e78]
                          refine ⟨?_, ?_⟩
                          · intro hp A w1 hb ho hd
                            clear hp
                            refine ⟨rfl, goes_alloc (v := .pointer (some ⟨w1.heap.size, 0, none⟩)) (o := .cells #[.int .u64 ((0 : Nat) : Int), .int .i64 0, .int .i64 0, .int .i64 0, .int .i64 0, .int .i64 0] 24) ?_ ⟨_, rfl, hb.size, boxC _ 0 0 0 0 0 0 24⟩⟩
                            simp [go_sem]
                          refine ⟨?_, ?_⟩
                          · exact fun hp => absurd hp (by decide)
                          refine ⟨?_, ?_⟩
                          · intro hp A w1 hb ho hd
                            clear hp
                            have e98 : A.tmps[98]?.getD undef = .int .i64 (er) := getq (hd _ (Array.mem_of_getElem? (i := 0) rfl) rfl _ _ rfl rfl)
                            refine ⟨rfl, goes_value (v := .int .i64 (er)) ?_ rfl⟩
                            simp [go_sem, e98]
                          trivial
                        · refine ⟨?_, ?_⟩
                          · exact not_needed (by kernel_rfl)
                          refine ⟨?_, ?_⟩
                          · exact not_needed (by kernel_rfl)
                          refine ⟨?_, ?_⟩
                          · exact not_needed (by kernel_rfl)
                          refine ⟨?_, ?_⟩
                          · exact not_needed (by kernel_rfl)
                          refine ⟨?_, ?_⟩
                          · exact not_needed (by kernel_rfl)
                          refine ⟨?_, ?_⟩
                          · exact not_needed (by kernel_rfl)
                          refine ⟨?_, ?_⟩
                          · exact not_needed (by kernel_rfl)
                          refine ⟨?_, ?_⟩
                          · exact not_needed (by kernel_rfl)
                          refine ⟨?_, ?_⟩
                          · exact not_needed (by kernel_rfl)
                          refine ⟨?_, ?_⟩
                          · exact not_needed (by kernel_rfl)
                          refine ⟨?_, ?_⟩
                          · exact not_needed (by kernel_rfl)
                          refine ⟨?_, ?_⟩
                          · exact not_needed (by kernel_rfl)
                          refine ⟨?_, ?_⟩
                          · exact not_needed (by kernel_rfl)
                          refine ⟨?_, ?_⟩
                          · exact not_needed (by kernel_rfl)
                          refine ⟨?_, ?_⟩
                          · exact not_needed (by kernel_rfl)
                          refine ⟨?_, ?_⟩
                          · exact not_needed (by kernel_rfl)
                          refine ⟨?_, ?_⟩
                          · exact not_needed (by kernel_rfl)
                          refine ⟨?_, ?_⟩
                          · exact not_needed (by kernel_rfl)
                          refine ⟨?_, ?_⟩
                          · exact not_needed (by kernel_rfl)
                          refine ⟨?_, ?_⟩
                          · exact not_needed (by kernel_rfl)
                          refine ⟨?_, ?_⟩
                          · intro hp A w1 hb ho hd
                            clear hp
                            have e78 : A.tmps[78]?.getD undef = .tuple #[.agg #[.int .u64 ((xk : Nat) : Int), .int .i64 (xe), .int .i64 (xr), .int .i64 (xz), .int .i64 (xt), .int .i64 (xn)], .int .i64 er] := getq (hd _ (Array.mem_of_getElem? (i := 0) rfl) rfl _ _ rfl rfl)
                            refine ⟨rfl, goes_value (v := .int .i64 (er)) ?_ rfl⟩
                            simp [go_sem, e78]
                          refine ⟨?_, ?_⟩
                          · exact not_needed (by kernel_rfl)
                          refine ⟨?_, ?_⟩
                          · exact not_needed (by kernel_rfl)
                          refine ⟨?_, ?_⟩
                          · intro hp A w1 hb ho hd
                            clear hp
                            have e98 : A.tmps[98]?.getD undef = .int .i64 (er) := getq (hd _ (Array.mem_of_getElem? (i := 0) rfl) rfl _ _ rfl rfl)
                            refine ⟨rfl, goes_value (v := .int .i64 (er)) ?_ rfl⟩
                            simp [go_sem, e98]
                          trivial
                        · intro A w2 hb ho hd
                          obtain ⟨g, hg, hge, Zb⟩ := hd _ (Array.mem_of_getElem? (i := 0) rfl) rfl _ _ rfl rfl
                          have eB := getq hg
                          have eV : A.tmps[97]?.getD undef = .agg #[.int .u64 ((xk : Nat) : Int), .int .i64 (xe), .int .i64 (xr), .int .i64 (xz), .int .i64 (xt), .int .i64 (xn)] := getq (hd _ (Array.mem_of_getElem? (i := 1) rfl) rfl _ _ rfl rfl)
                          have zc0 := Zb.c0
                          have zc1 := Zb.c1
                          have zc2 := Zb.c2
                          have zc3 := Zb.c3
                          have zc4 := Zb.c4
                          have zc5 := Zb.c5
                          have zf0 := Zb.fr 0 (by omega)
                          have zf1 := Zb.fr 1 (by omega)
                          have zf2 := Zb.fr 2 (by omega)
                          have zf3 := Zb.fr 3 (by omega)
                          have zf4 := Zb.fr 4 (by omega)
                          have zf5 := Zb.fr 5 (by omega)
                          refine ⟨_, by simp [go_sem, eB, eV, zc0, zc1, zc2, zc3, zc4, zc5, zf0, zf1, zf2, zf3, zf4, zf5]; rfl, ?_, ?_⟩
                          · exact BoxC.below Zb hb hge (xk) (xe) (xr) (xz) (xt) (xn)
                          · intro j o d hj hdst h
                            match j, hj, hdst, h with
                            | 0, _, _, h => exact h
                            | 1, _, _, h => exact h
                            | 2, _, _, h => exact h
                            | 3, _, _, h => exact h
                            | 4, _, _, h => exact h
                            | 5, _, _, h => exact h
                            | 6, _, _, h => exact h
                            | 7, _, _, h => exact h
                            | 8, _, _, h => exact h
                            | 9, _, _, h => exact h
                            | 10, _, _, h => exact h
                            | 11, _, _, h => exact h
                            | 12, _, _, h => exact h
                            | 13, _, _, h => exact h
                            | 14, _, _, h => exact h
                            | 15, _, _, h => exact h
                            | 16, _, _, h => exact h
                            | 17, _, _, h => exact h
                            | 18, _, _, h => exact h
                            | 19, _, _, h => exact h
                            | 20, _, _, h => exact h
                            | 21, hj, hdst, _ =>
                              cases hj
                              cases hdst
                              exact ⟨g, hg, hge, Zb.put (xk) (xe) (xr) (xz) (xt) (xn)⟩
                            | 22, _, _, h => exact h
                            | 23, _, _, h => exact h
                            | j + 24, hj, _, _ => simp at hj
                        intro A w9 hb9 hdf hsz hol hft
                        obtain ⟨gx, hgx, hgxe, XN⟩ := hft 21 _ 9 rfl rfl
                        have m79 : A.tmps.getD 79 undef = .agg #[.int .u64 ((ck : Nat) : Int), .int .i64 (ce), .int .i64 (cr), .int .i64 (cz), .int .i64 (ct), .int .i64 (cn)] := hft 0 _ 79 rfl rfl
                        have m80 : A.tmps.getD 80 undef = .pointer (some ⟨W.heap.size, 4, none⟩) := hft 1 _ 80 rfl rfl
                        have m81 : A.tmps.getD 81 undef = .int .i64 ct := hft 2 _ 81 rfl rfl
                        have m82 : A.tmps.getD 82 undef = .slice (some ⟨ga, off, none⟩) n cap := hft 3 _ 82 rfl rfl
                        have m83 : A.tmps.getD 83 undef = .int .i64 (k : Nat) := hft 4 _ 83 rfl rfl
                        have m84 : A.tmps.getD 84 undef = .pointer (some ⟨ga, off + k * 2, none⟩) := hft 5 _ 84 rfl rfl
                        have m85 : A.tmps.getD 85 undef = .pointer (some ⟨ga, off + k * 2, none⟩) := hft 6 _ 85 rfl rfl
                        have m86 : A.tmps.getD 86 undef = .int .i64 x := hft 7 _ 86 rfl rfl
                        have m87 : A.tmps.getD 87 undef = .int .i64 (ct + x) := hft 8 _ 87 rfl rfl
                        have m88 : A.tmps.getD 88 undef = .pointer (some ⟨W.heap.size, 5, none⟩) := hft 9 _ 88 rfl rfl
                        have m89 : A.tmps.getD 89 undef = .int .i64 cn := hft 10 _ 89 rfl rfl
                        have m90 : A.tmps.getD 90 undef = .slice (some ⟨ga, off, none⟩) n cap := hft 11 _ 90 rfl rfl
                        have m91 : A.tmps.getD 91 undef = .int .i64 (k : Nat) := hft 12 _ 91 rfl rfl
                        have m92 : A.tmps.getD 92 undef = .pointer (some ⟨ga, off + k * 2, none⟩) := hft 13 _ 92 rfl rfl
                        have m93 : A.tmps.getD 93 undef = .pointer (some ⟨ga, off + k * 2 + 1, none⟩) := hft 14 _ 93 rfl rfl
                        have m94 : A.tmps.getD 94 undef = .int .i64 y := hft 15 _ 94 rfl rfl
                        have m95 : A.tmps.getD 95 undef = .int .i64 (cn + y) := hft 16 _ 95 rfl rfl
                        have m96 : A.tmps.getD 96 undef = .tuple #[.agg #[.int .u64 ((xk : Nat) : Int), .int .i64 (xe), .int .i64 (xr), .int .i64 (xz), .int .i64 (xt), .int .i64 (xn)], .int .i64 er] := hft 17 _ 96 rfl rfl
                        have m78 : A.tmps.getD 78 undef = .tuple #[.agg #[.int .u64 ((xk : Nat) : Int), .int .i64 (xe), .int .i64 (xr), .int .i64 (xz), .int .i64 (xt), .int .i64 (xn)], .int .i64 er] := hft 18 _ 78 rfl rfl
                        have m97 : A.tmps.getD 97 undef = .agg #[.int .u64 ((xk : Nat) : Int), .int .i64 (xe), .int .i64 (xr), .int .i64 (xz), .int .i64 (xt), .int .i64 (xn)] := hft 19 _ 97 rfl rfl
                        have m98 : A.tmps.getD 98 undef = .int .i64 (er) := hft 20 _ 98 rfl rfl
                        have m10 : A.tmps.getD 10 undef = .int .i64 (er) := hft 23 _ 10 rfl rfl
                        rename_i KK hKK
                        refine hKK _ _ ?_
                        show Code.wp _ _ _ A w9
                        rw [frame_puts hdf hsz hol]
                        simp only [List.foldl_cons, List.foldl_nil, Act.put, Option.getD_some, m79, m80, m81, m82, m83, m84, m85, m86, m87, m88, m89, m90, m91, m92, m93, m94, m95, m96, m78, m97, m98, m10, hgx, List.setIfInBounds_toArray, List.set_cons_succ, List.set_cons_zero]
                        clear m79 m80 m81 m82 m83 m84 m85 m86 m87 m88 m89 m90 m91 m92 m93 m94 m95 m96 m78 m97 m98 m10 hft hol hsz hdf hKK hgx
                        replace X := X.later (hb9.mono X.lt)
                        replace R := R.later (hb9.mono R.lt)
                        replace Aa := Aa.later (hb9.mono Aa.lt)
                        replace BB := BB.trans (hb9.mono BB.size)
                        clear hb9
                        have Tq := T.later BB
                        have qA0 : ∀ p : Later w9, p.val.cell? ⟨ga, off + k * 2, none⟩ = some (.int .i64 x) := fun p => (Aa.later (p.below.mono Aa.lt)).c0
                        have qA1 : ∀ p : Later w9, p.val.cell? ⟨ga, off + k * 2 + 1, none⟩ = some (.int .i64 y) := fun p => (Aa.later (p.below.mono Aa.lt)).c1
                        have hne61 := later_ne w9
                        have qX0 : ∀ p : Later w9, p.val.cell? ⟨W.heap.size, 0, none⟩ = some (.int .u64 ((ck : Nat) : Int)) := fun p => (X.later (p.below.mono X.lt)).c0
                        have qX1 : ∀ p : Later w9, p.val.cell? ⟨W.heap.size, 1, none⟩ = some (.int .i64 (ce)) := fun p => (X.later (p.below.mono X.lt)).c1
                        have qX2 : ∀ p : Later w9, p.val.cell? ⟨W.heap.size, 2, none⟩ = some (.int .i64 (cr)) := fun p => (X.later (p.below.mono X.lt)).c2
                        have qX3 : ∀ p : Later w9, p.val.cell? ⟨W.heap.size, 3, none⟩ = some (.int .i64 (cz)) := fun p => (X.later (p.below.mono X.lt)).c3
                        have qX4 : ∀ p : Later w9, p.val.cell? ⟨W.heap.size, 4, none⟩ = some (.int .i64 (ct)) := fun p => (X.later (p.below.mono X.lt)).c4
                        have qX5 : ∀ p : Later w9, p.val.cell? ⟨W.heap.size, 5, none⟩ = some (.int .i64 (cn)) := fun p => (X.later (p.below.mono X.lt)).c5
                        go_wp2
                        refine wp_region_later (by kernel_rfl) (by kernel_rfl) ?_
                        (repeat (first | go_big_quiet_skip | (go_big_quiet_want; go_big_quiet_op; go_big_quiet_on)))
                        (go_big_quiet_want; go_big_quiet_op; apply Exists.intro; refine ⟨fun p => ?_, ?_⟩; (· exact later_of (awake_any _ (Tq.later p.below))); go_big_quiet_on)
                        (repeat (first | go_big_quiet_skip | (go_big_quiet_want; go_big_quiet_op; go_big_quiet_on)))
                        refine wpQuiet_nil ?_
                        rintro _ ⟨p61, rfl⟩
                        replace X := X.later (p61.below.mono X.lt)
                        replace R := R.later (p61.below.mono R.lt)
                        replace Aa := Aa.later (p61.below.mono Aa.lt)
                        replace BB := BB.trans (p61.below.mono BB.size)
                        clear hne61 qX0 qX1 qX2 qX3 qX4 qX5
                        go_wp2
                        go_ret
                        exact ⟨rfl, BB⟩
  
        · obtain rfl : k = n := by omega
          go_wp2_with fail
          refine (awake_any _ (T.later BB)).mono ?_
          rintro e w31 ⟨rfl, b31⟩
          replace X := X.later (b31.mono X.lt)
          replace R := R.later (b31.mono R.lt)
          replace BB := BB.trans (b31.mono BB.size)
          clear b31 
          go_wp2
          go_ret
          exact ⟨rfl, BB⟩

  · generalize chk s = c at *
    clear hs hI
    obtain ⟨key, ep, ser, siz, tail, num⟩ := s
    simp only [Sb.val] at hPl hRc ⊢
    have BB := Below.refl W.heap.size W
    have b1 := below_alloc W (.cells #[.int .u64 ((key : Nat) : Int), .int .i64 (ep), .int .i64 (ser), .int .i64 (siz), .int .i64 (tail), .int .i64 (num)] 24)
    have X : BoxC (W.alloc (.cells #[.int .u64 ((key : Nat) : Int), .int .i64 (ep), .int .i64 (ser), .int .i64 (siz), .int .i64 (tail), .int .i64 (num)] 24)) W.heap.size (key) (ep) (ser) (siz) (tail) (num) := boxC W (key) (ep) (ser) (siz) (tail) (num) 24
    replace BB := BB.trans (b1.mono BB.size)
    clear b1
    have Xc0_1 := X.c0
    have Xc1_1 := X.c1
    have Xc2_1 := X.c2
    have Xc3_1 := X.c3
    have Xc4_1 := X.c4
    have Xc5_1 := X.c5
    go_enter Tryd.func8, Tryd.ntmps8
    go_wp2_with fail
    refine (hPl _).mono ?_
    rintro e w2 ⟨rfl, b2⟩
    clear Xc0_1 Xc1_1 Xc2_1 Xc3_1 Xc4_1 Xc5_1
    replace X := X.later (b2.mono X.lt)
    replace BB := BB.trans (b2.mono BB.size)
    clear b2 
    have Xc0_2 := X.c0
    have Xc1_2 := X.c1
    have Xc2_2 := X.c2
    have Xc3_2 := X.c3
    have Xc4_2 := X.c4
    have Xc5_2 := X.c5
    go_wp2_with fail
    refine (hRc _).mono ?_
    rintro e w3 ⟨rfl, b3⟩
    clear Xc0_2 Xc1_2 Xc2_2 Xc3_2 Xc4_2 Xc5_2
    replace X := X.later (b3.mono X.lt)
    replace BB := BB.trans (b3.mono BB.size)
    clear b3 
    have Xc0_3 := X.c0
    have Xc1_3 := X.c1
    have Xc2_3 := X.c2
    have Xc3_3 := X.c3
    have Xc4_3 := X.c4
    have Xc5_3 := X.c5
    go_wp2_with fail
    refine (awake_any _ (T.later BB)).mono ?_
    rintro e w4 ⟨rfl, b4⟩
    clear Xc0_3 Xc1_3 Xc2_3 Xc3_3 Xc4_3 Xc5_3
    replace X := X.later (b4.mono X.lt)
    replace BB := BB.trans (b4.mono BB.size)
    clear b4 
    have Xc0_4 := X.c0
    have Xc1_4 := X.c1
    have Xc2_4 := X.c2
    have Xc3_4 := X.c3
    have Xc4_4 := X.c4
    have Xc5_4 := X.c5
    go_wp2
    go_ret
    exact ⟨rfl, BB⟩
end Su
end Go.Proofs.YtjopjffecnflkaaDoor
