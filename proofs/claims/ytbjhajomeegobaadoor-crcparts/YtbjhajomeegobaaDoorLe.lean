/- A part of the proofs about package crc: what its functions answer, call by call. -/
import Derived.Test.YtbjhajomeegobaaDoorLd
import Derived.Test.YtbjhajomeegobaaDoorWt
import Derived.Lib.ConvBytes
namespace Go.Proofs.YtbjhajomeegobaaDoor
open Go.RowKit
namespace Cr

/-- The block g holds these n bytes, and may be written. -/
structure Rowc (w : World) (g n : Nat) (f : Nat → Nat) : Prop where
  lt : g < w.heap.size
  cell : ∀ i, i < n → w.cell? ⟨g, i, none⟩ = some (.int .u8 (f i : Nat))
  frozen : ∀ i, i < n → w.frozen? ⟨g, i, none⟩ = false
theorem Rowc.later {w w' : World} {g n : Nat} {f : Nat → Nat} (h : Rowc w g n f) (hb : Below w.heap.size w w') : Rowc w' g n f :=
  ⟨Nat.lt_of_lt_of_le h.lt hb.size, fun i hi => (hb.cell h.lt).trans (h.cell i hi), fun i hi => (hb.frozen h.lt).trans (h.frozen i hi)⟩
theorem Rowc.set {w : World} {g n : Nat} {f : Nat → Nat} (h : Rowc w g n f) {k : Nat} (hk : k < n) (v : Nat) : Rowc (w.setCell ⟨g, k, none⟩ (.int .u8 (v : Nat))) g n (fun i => if i = k then v else f i) :=
  ⟨by simpa using h.lt, fun i hi => by
    by_cases e : i = k
    · subst e
      rw [if_pos rfl]
      exact World.cell?_setCell_same _ _ _ (h.cell i hi)
    · rw [if_neg e, World.cell?_setCell_other _ _ _ _ (fun e2 => e (by cases e2; rfl))]
      exact h.cell i hi, fun i hi => by rw [World.frozen?_setCell]; exact h.frozen i hi⟩
theorem Rowc.other {w : World} {g n : Nat} {f : Nat → Nat} (h : Rowc w g n f) {g' : Nat} (hne : g ≠ g') (k : Nat) (v : Value) : Rowc (w.setCell ⟨g', k, none⟩ v) g n f :=
  ⟨by simpa using h.lt, fun i hi => by
    rw [World.cell?_setCell_other _ _ _ _ (fun e2 => hne (by cases e2; rfl))]
    exact h.cell i hi, fun i hi => by rw [World.frozen?_setCell]; exact h.frozen i hi⟩
theorem Rowc.conv {w : World} {g n : Nat} {f : Nat → Nat} (h : Rowc w g n f) (cap : Nat) : (convert 34 9 (.slice (some ⟨g, 0, none⟩) n cap)).run Tryd.prog w = .ok (.string (str ((List.range n).map f))) w :=
  conv_bytes w g 0 n cap _ (by simp) fun i x hx => by
    have hi : i < n := by simpa using (List.getElem?_eq_some_iff.1 hx).1
    simp [hi] at hx
    subst hx
    rw [Nat.zero_add]
    exact h.cell i hi
theorem to_bytes (s : ByteArray) (w : World) : ∃ cap wb, (convert 9 34 (.string s)).run Tryd.prog w = .ok (.slice (some ⟨w.heap.size, 0, none⟩) s.size cap) wb ∧ Rowc wb w.heap.size s.size (fun i => (bs s).getD i 0) ∧ Below w.heap.size w wb := by
  refine ⟨_, _, Lib.run_convert_string_bytes (P := Tryd.prog) w 9 34 5 s Tryd.underlying9 Tryd.underlying34 Tryd.underlying5, ⟨?_, ?_, ?_⟩, ?_⟩
  · rw [Lib.bytesWorld_size]; omega
  · intro i hi
    rw [Lib.bytesWorld_cell w 5 s i hi]
    have h' : i < s.data.size := hi
    simp [bs, List.getD, Array.getElem?_eq_getElem h']
  · intro i hi
    have hb : i < (Lib.bytesCells w 5 s).size := by
      simp only [Lib.bytesCells, Array.size_append, Array.size_map]
      have : s.data.size = s.size := rfl
      omega
    simp only [World.frozen?, Lib.bytesWorld_at_new]
    simp
    omega
  · exact ⟨rfl, rfl, rfl, by rw [Lib.bytesWorld_size]; omega, fun k hk => Lib.bytesWorld_at_old w 5 s k hk⟩
/-- The four turns. -/
def tv (x y z u : Nat) : Nat → Nat
  | 0 => x | 1 => y | 2 => z | 3 => u | _ => 0
theorem tv_lt {x y z u : Nat} (hx : x < 256) (hy : y < 256) (hz : z < 256) (hu : u < 256) (j : Nat) : tv x y z u j < 256 := by
  unfold tv
  split <;> omega
theorem Rowc.box (w : World) (x y z u : Nat) (t : TypeId) : Rowc (w.alloc (.cells #[.int .u8 (x : Nat), .int .u8 (y : Nat), .int .u8 (z : Nat), .int .u8 (u : Nat)] t)) w.heap.size 4 (tv x y z u) :=
  ⟨by simp, fun i hi => by
    match i, hi with
    | 0, _ => simp [tv]
    | 1, _ => simp [tv]
    | 2, _ => simp [tv]
    | 3, _ => simp [tv], fun i _ => by simp⟩
theorem u8_xor {a b : Nat} (ha : a < 256) (hb : b < 256) : bits .xor .u8 (a : Int) (b : Int) = ((a ^^^ b : Nat) : Int) := u8_xor_nat a b ha hb
theorem turnd_lt {l : List Nat} (hl : ∀ b ∈ l, b < 256) {t : Nat → Nat} (ht : ∀ j, t j < 256) (p k i : Nat) : turnd l t p k i < 256 := by
  have h1 : l.getD i 0 < 256 := by
    rw [List.getD_eq_getElem?_getD]
    cases h : l[i]? with
    | none => simp
    | some b => exact hl b (List.mem_of_getElem? h)
  unfold turnd
  split
  · exact Nat.xor_lt_two_pow (n := 8) h1 (ht _)
  · exact h1
theorem tab_set {w : World} (T : Tab w) {g : Nat} (hg : 0 < g) (i : Nat) (v : Value) : Tab (w.setCell ⟨g, i, none⟩ v) :=
  ⟨by simpa using T.lt, fun j hj => by rw [World.cell?_setCell_other _ _ _ _ (fun e2 => by have := congrArg Addr.block e2; simp at this; omega)]; exact T.cell j hj⟩
set_option maxHeartbeats 2000000 in
theorem crcTold_walk (s : ByteArray) (at' : Int) (x y z u : Nat) (W : World) (T : Tab W) (hs : s.size ≤ 9223372036854775807) (hat : -9223372036854775808 ≤ at' ∧ at' ≤ 9223372036854775807) (hx : x < 256) (hy : y < 256) (hz : z < 256) (hu : u < 256) :
    Calls Tryd.prog 7 #[.string s, .int .i64 at', .agg #[.int .u8 (x : Nat), .int .u8 (y : Nat), .int .u8 (z : Nat), .int .u8 (u : Nat)]] W fun e w' => e = .returned (.bool true) ∧ Below W.heap.size W w' := by
  have R := Rowc.box W x y z u 45
  have Bb := below_alloc W (.cells #[.int .u8 (x : Nat), .int .u8 (y : Nat), .int .u8 (z : Nat), .int .u8 (u : Nat)] 45)
  have ht := tv_lt hx hy hz hu
  replace T := T.later Bb
  by_cases h1 : 500 < s.size
  · clear R ht
    go_enter Tryd.func7, Tryd.ntmps7
    have BB := Bb
    go_wp2_with fail
    refine (awake_any _ T).mono ?_
    rintro e wv1 ⟨rfl, hv1⟩
    replace T := T.later hv1
    replace BB := BB.trans (hv1.mono BB.size)
    clear hv1
    go_wp2
    go_ret
    exact ⟨rfl, BB⟩
  · have z1 := sealOf_size s
    have c1 : ∀ w, Tab w → _ := fun w T => seal_b s (by omega) w T
    have c2 : ∀ w, Tab w → _ := fun w T => open_any (sealOf s) (by omega) w T
    rw [opened_sealed] at c2
    have HT : Hid (∀ p k, p + k ≤ (sealOf s).size → k ≤ 4 → tn (tv x y z u) k = true → opened (str ((List.range (sealOf s).size).map (turnd (bs (sealOf s)) (tv x y z u) p k))) = (ByteArray.empty, 13)) := fun p k h1 h2 h3 => opened_turned ht h1 h2 h3
    have HU : Hid (∀ p k, tn (tv x y z u) k = false → opened (str ((List.range (sealOf s).size).map (turnd (bs (sealOf s)) (tv x y z u) p k))) = (s, 0)) := fun p k h => opened_unturned h
    have HL := hide (bs_lt (sealOf s))
    generalize sealOf s = A at *
    by_cases h2 : at' < 0
    · clear R ht
      go_enter Tryd.func7, Tryd.ntmps7
      have BB := Bb
      go_wp2_with fail
      refine (c1 _ T).mono ?_
      rintro e wv1 ⟨rfl, hv1⟩
      replace T := T.later hv1
      replace BB := BB.trans (hv1.mono BB.size)
      clear hv1
      go_wp2_with fail
      refine (c2 _ T).mono ?_
      rintro e wv2 ⟨rfl, hv2⟩
      replace T := T.later hv2
      replace BB := BB.trans (hv2.mono BB.size)
      clear hv2
      go_wp2_with fail
      refine (awake_any _ T).mono ?_
      rintro e wv3 ⟨rfl, hv3⟩
      replace T := T.later hv3
      replace BB := BB.trans (hv3.mono BB.size)
      clear hv3
      go_wp2
      go_ret
      exact ⟨rfl, BB⟩
    · by_cases h3 : (A.size : Int) ≤ at'
      · clear R ht
        go_enter Tryd.func7, Tryd.ntmps7
        have BB := Bb
        go_wp2_with fail
        refine (c1 _ T).mono ?_
        rintro e wv1 ⟨rfl, hv1⟩
        replace T := T.later hv1
        replace BB := BB.trans (hv1.mono BB.size)
        clear hv1
        go_wp2_with fail
        refine (c2 _ T).mono ?_
        rintro e wv2 ⟨rfl, hv2⟩
        replace T := T.later hv2
        replace BB := BB.trans (hv2.mono BB.size)
        clear hv2
        go_wp2_with fail
        refine (awake_any _ T).mono ?_
        rintro e wv3 ⟨rfl, hv3⟩
        replace T := T.later hv3
        replace BB := BB.trans (hv3.mono BB.size)
        clear hv3
        go_wp2
        go_ret
        exact ⟨rfl, BB⟩
      · obtain ⟨p, rfl⟩ := Int.eq_ofNat_of_zero_le (show 0 ≤ at' by omega)
        have h3' : p < A.size := by omega
        clear h2 h3
        go_enter Tryd.func7, Tryd.ntmps7
        have BB := Bb
        go_wp2_with fail
        refine (c1 _ T).mono ?_
        rintro e wv1 ⟨rfl, hv1⟩
        replace T := T.later hv1
        replace R := R.later hv1
        replace BB := BB.trans (hv1.mono BB.size)
        clear hv1
        go_wp2_with fail
        refine (c2 _ T).mono ?_
        rintro e wv2 ⟨rfl, hv2⟩
        replace T := T.later hv2
        replace R := R.later hv2
        replace BB := BB.trans (hv2.mono BB.size)
        clear hv2
        have hp := R.lt
        obtain ⟨cap, wb, hcb, RB, BW⟩ := to_bytes A wv2
        go_wp2
        rw [z1] at RB HT HU h3'
        clear hcb
        have hpb : W.heap.size ≠ wv2.heap.size := by omega
        have hg0 : 0 < wv2.heap.size := by omega
        have BC := BB.trans (BW.mono BB.size)
        have RT := R.later BW
        have hbs : W.heap.size ≤ wv2.heap.size := by omega
        have TB := T.later BW
        clear R BW T Bb
        generalize wv2.heap.size = g at *
        go_loopw [11, 12] (fun tr i wr => ∃ k : Nat, k ≤ 4 ∧ p + k ≤ s.size + 4 ∧ i = .int .i64 k ∧ tr = .bool (tn (tv x y z u) k) ∧ Rowc wr g (s.size + 4) (turnd (bs A) (tv x y z u) p k) ∧ Rowc wr W.heap.size 4 (tv x y z u) ∧ Below W.heap.size W wr ∧ Tab wr) (fun _ i _ => 4 - (intOf i).toNat)
        case atStart => exact ⟨0, by omega, by omega, rfl, rfl, by rw [turnd_zero]; exact RB, RT, BC, TB⟩
        case round =>
          obtain ⟨k, hk, hkn, rfl, rfl, r1, r2, hbr, T⟩ := hrel
          by_cases hlt : k < 4
          · by_cases hlt2 : p + k < s.size + 4
            · have l1 := turnd_lt HL.out ht p k (p + k)
              have l2 := ht k
              have e1 := u8_xor l1 l2
              have C1 : ∀ q : Later wr, q.val.cell? ⟨g, p + k, none⟩ = some (.int .u8 (turnd (bs A) (tv x y z u) p k (p + k) : Nat)) := fun q => (q.below.cell r1.lt).trans (r1.cell (p + k) hlt2)
              have C2 : ∀ q : Later wr, q.val.cell? ⟨W.heap.size, k, none⟩ = some (.int .u8 (tv x y z u k : Nat)) := fun q => (q.below.cell r2.lt).trans (r2.cell k hlt)
              have hne := later_ne wr
              have HS := hide (turnd_step (bs A) (tv x y z u) p k)
              have HN := hide (tn_succ (tv x y z u) k)
              have R1 : Hid (∀ q : Later wr, q.val.cell? ⟨g, p + k, none⟩ = some (.int .u8 (turnd (bs A) (tv x y z u) p k (p + k) : Nat)) ∧ q.val.frozen? ⟨g, p + k, none⟩ = false ∧ (∀ v : Nat, Rowc (q.val.setCell ⟨g, p + k, none⟩ (.int .u8 (v : Nat))) g (s.size + 4) (fun i => if i = p + k then v else turnd (bs A) (tv x y z u) p k i)) ∧ (∀ v, Rowc (q.val.setCell ⟨g, p + k, none⟩ v) W.heap.size 4 (tv x y z u)) ∧ (∀ v, (q.val.setCell ⟨g, p + k, none⟩ v).cell? ⟨W.heap.size, k, none⟩ = some (.int .u8 (tv x y z u k : Nat))) ∧ (∀ v, Below W.heap.size W (q.val.setCell ⟨g, p + k, none⟩ v)) ∧ ∀ v, Tab (q.val.setCell ⟨g, p + k, none⟩ v)) := fun q =>
                ⟨(r1.later q.below).cell _ hlt2, (r1.later q.below).frozen _ hlt2, fun v => (r1.later q.below).set hlt2 v, fun v => (r2.later q.below).other hpb _ v, fun v => ((r2.later q.below).other hpb _ v).cell k hlt, fun v => below_set (hbr.trans (q.below.mono hbr.size)) hbs _ v, fun v => tab_set (T.later q.below) (by omega) _ v⟩
              clear r1 r2 hbr T l1 l2
              generalize turnd (bs A) (tv x y z u) p k (p + k) = b0 at *
              generalize tv x y z u k = t0 at *
              generalize b0 ^^^ t0 = v0 at *
              go_wp2
              refine wp_region_later_tail 15 (by kernel_rfl) (by kernel_rfl) ?_
              simp only [List.take, List.drop]
              (repeat (first | go_big_quiet_skip | (go_big_quiet_want; go_big_quiet_op; go_big_quiet_on)))
              refine wpQuiet_nil ?_
              rintro _ ⟨q, rfl⟩
              obtain ⟨f1, f2, f3, f4, f5, f6, f7⟩ := R1.out q
              have R3 := hide (f3 v0)
              rw [HS.out] at R3
              have R4 := hide (f4 (.int .u8 (v0 : Nat)))
              have f5' := f5 (.int .u8 (v0 : Nat))
              have R6 := hide (f6 (.int .u8 (v0 : Nat)))
              have R7 := hide (f7 (.int .u8 (v0 : Nat)))
              clear f3 f4 f5 f6 f7 R1 C1 C2
              cases hb : tn (tv x y z u) k with
              | true =>
                have HB := hide hb
                rw [hb] at HN
                clear hb
                go_wp2
                go_roundw
                case rel => exact ⟨k + 1, by omega, by omega, by go_num, by rw [HN.out]; rfl, R3.out, R4.out, R6.out, R7.out⟩
                case measure => simp [intOf]; omega
              | false =>
                have HB := hide hb
                rw [hb] at HN
                clear hb
                go_wp2
                go_roundw
                case rel => exact ⟨k + 1, by omega, by omega, by go_num, by rw [HN.out]; rfl, R3.out, R4.out, R6.out, R7.out⟩
                case measure => simp [intOf]; omega
            · skip
              have hcv := r1.conv cap
              have hl : (str ((List.range (s.size + 4)).map (turnd (bs A) (tv x y z u) p k))).size ≤ 1000 := by rw [str_size]; simp; omega
              have c3 := open_any _ hl wr T
              cases hb : tn (tv x y z u) k with
              | true =>
                rw [HT.out p k hkn hk hb] at c3
                clear hb HT HU HL c1 c2
                generalize str ((List.range (s.size + 4)).map (turnd (bs A) (tv x y z u) p k)) = X at *
                go_wp2_with fail
                refine c3.mono ?_
                rintro e w5 ⟨rfl, hb5⟩
                replace T := T.later hb5
                have BB := hbr.trans (hb5.mono hbr.size)
                clear hb5
                go_wp2_with fail
                refine (awake_any _ T).mono ?_
                rintro e w6 ⟨rfl, hb6⟩
                go_wp2
                go_ret
                exact ⟨rfl, BB.trans (hb6.mono BB.size)⟩
              | false =>
                rw [HU.out p k hb] at c3
                clear hb HT HU HL c1 c2
                generalize str ((List.range (s.size + 4)).map (turnd (bs A) (tv x y z u) p k)) = X at *
                go_wp2_with fail
                refine c3.mono ?_
                rintro e w5 ⟨rfl, hb5⟩
                replace T := T.later hb5
                have BB := hbr.trans (hb5.mono hbr.size)
                clear hb5
                go_wp2_with fail
                refine (awake_any _ T).mono ?_
                rintro e w6 ⟨rfl, hb6⟩
                go_wp2
                go_ret
                exact ⟨rfl, BB.trans (hb6.mono BB.size)⟩
          · skip
            have hcv := r1.conv cap
            have hl : (str ((List.range (s.size + 4)).map (turnd (bs A) (tv x y z u) p k))).size ≤ 1000 := by rw [str_size]; simp; omega
            have c3 := open_any _ hl wr T
            cases hb : tn (tv x y z u) k with
            | true =>
              rw [HT.out p k hkn hk hb] at c3
              clear hb HT HU HL c1 c2
              generalize str ((List.range (s.size + 4)).map (turnd (bs A) (tv x y z u) p k)) = X at *
              go_wp2_with fail
              refine c3.mono ?_
              rintro e w5 ⟨rfl, hb5⟩
              replace T := T.later hb5
              have BB := hbr.trans (hb5.mono hbr.size)
              clear hb5
              go_wp2_with fail
              refine (awake_any _ T).mono ?_
              rintro e w6 ⟨rfl, hb6⟩
              go_wp2
              go_ret
              exact ⟨rfl, BB.trans (hb6.mono BB.size)⟩
            | false =>
              rw [HU.out p k hb] at c3
              clear hb HT HU HL c1 c2
              generalize str ((List.range (s.size + 4)).map (turnd (bs A) (tv x y z u) p k)) = X at *
              go_wp2_with fail
              refine c3.mono ?_
              rintro e w5 ⟨rfl, hb5⟩
              replace T := T.later hb5
              have BB := hbr.trans (hb5.mono hbr.size)
              clear hb5
              go_wp2_with fail
              refine (awake_any _ T).mono ?_
              rintro e w6 ⟨rfl, hb6⟩
              go_wp2
              go_ret
              exact ⟨rfl, BB.trans (hb6.mono BB.size)⟩

end Cr
end Go.Proofs.YtbjhajomeegobaaDoor
