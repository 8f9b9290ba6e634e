/- The law RingBack, walked. -/
import Derived.Test.YtbgadcofjhgmiaaLs
import Derived.Test.YtbgadcofjhgmiaaLa
import Derived.Test.YtbgadcofjhgmiaaWf
namespace Go.Proofs.Ytbgadcofjhgmiaa
open Go.RowKit
namespace Sp

set_option maxRecDepth 100000 in
set_option maxHeartbeats 16000000 in
theorem ringBack_walk (s : Int) (a : Option Addr) (n cap : Nat) (zs : List Int) (W : World) (hs : I64 s) (hI : Is W a n zs ∧ n ≤ 9223372036854775807) : Calls Try.prog 5 #[.int .i64 s, .slice a n cap] W fun e w' => e = .returned (.bool true) ∧ Below W.heap.size W w' := by
  obtain ⟨hI, hn⟩ := hI
  obtain ⟨i0, hi, hz0, hz1, hz2⟩ := Wi.info_parts info3'
  by_cases g1 : s < 1
  · have hc := new_ex s W
    go_enter Try.func5, Try.ntmps5
    go_wp2_with fail
    refine hc.mono ?_
    rintro e w1 ⟨q0, q1, q2, er, rfl, hb1⟩
    have HB1 := hide hb1
    have HB2 := hide (hb1.alloc hb1.size (.cells #[.int .i64 q0, .int .i64 q1, .int .i64 q2] 23))
    clear hc hb1
    have ha := awake_any (w1.alloc (.cells #[.int .i64 q0, .int .i64 q1, .int .i64 q2] 23))
    go_wp2_with fail
    refine ha.mono ?_
    rintro e w9 ⟨rfl, hb9⟩
    have HB9 := hide (HB2.out.trans (hb9.mono HB2.out.size))
    clear ha hb9
    go_wp2
    go_ret
    exact ⟨rfl, HB9.out⟩
  · by_cases g2 : 300 < s
    · have hc := new_ex s W
      go_enter Try.func5, Try.ntmps5
      go_wp2_with fail
      refine hc.mono ?_
      rintro e w1 ⟨q0, q1, q2, er, rfl, hb1⟩
      have HB1 := hide hb1
      have HB2 := hide (hb1.alloc hb1.size (.cells #[.int .i64 q0, .int .i64 q1, .int .i64 q2] 23))
      clear hc hb1
      have ha := awake_any (w1.alloc (.cells #[.int .i64 q0, .int .i64 q1, .int .i64 q2] 23))
      go_wp2_with fail
      refine ha.mono ?_
      rintro e w9 ⟨rfl, hb9⟩
      have HB9 := hide (HB2.out.trans (hb9.mono HB2.out.size))
      clear ha hb9
      go_wp2
      go_ret
      exact ⟨rfl, HB9.out⟩
    · by_cases g3 : 60 < n
      · have hc := new_ex s W
        go_enter Try.func5, Try.ntmps5
        go_wp2_with fail
        refine hc.mono ?_
        rintro e w1 ⟨q0, q1, q2, er, rfl, hb1⟩
        have HB1 := hide hb1
        have HB2 := hide (hb1.alloc hb1.size (.cells #[.int .i64 q0, .int .i64 q1, .int .i64 q2] 23))
        clear hc hb1
        have ha := awake_any (w1.alloc (.cells #[.int .i64 q0, .int .i64 q1, .int .i64 q2] 23))
        go_wp2_with fail
        refine ha.mono ?_
        rintro e w9 ⟨rfl, hb9⟩
        have HB9 := hide (HB2.out.trans (hb9.mono HB2.out.size))
        clear ha hb9
        go_wp2
        go_ret
        exact ⟨rfl, HB9.out⟩
      · obtain ⟨S, rfl⟩ : ∃ S : Nat, s = S := ⟨s.toNat, by omega⟩
        have hc := new_any S W
        rw [if_pos (show mayR S 0 0 = true from decide_eq_true (by omega))] at hc
        have hd1 : decide ((S : Int) < 1) = false := decide_eq_false (by omega)
        have hd2 : decide ((300 : Int) < (S : Int)) = false := decide_eq_false (by omega)
        have hd3 : decide ((60 : Int) < (n : Int)) = false := decide_eq_false (by omega)
        have HS := hide (show 1 ≤ S ∧ S ≤ 300 ∧ n ≤ 60 by omega)
        have HI := hide hI
        clear hs hn g1 g2 g3 hI
        go_enter Try.func5, Try.ntmps5
        go_wp2_with fail
        refine hc.mono ?_
        rintro e w1 ⟨rfl, hb1⟩
        have HB1 := hide hb1
        have HB2 := hide (hb1.alloc hb1.size (.cells #[.int .i64 (S : Nat), .int .i64 0, .int .i64 0] 23))
        have HX := hide (heap_alloc_new w1 (.cells #[.int .i64 (S : Nat), .int .i64 0, .int .i64 0] 23))
        clear hc hb1
        go_wp2
        have HG := hide (show W.heap.size ≤ w1.heap.size from HB1.out.size)
        have HG2 := hide (show w1.heap.size + 1 = (w1.alloc (.cells #[.int .i64 (S : Nat), .int .i64 0, .int .i64 0] 23)).heap.size by simp)
        obtain ⟨g, hg⟩ : ∃ g, g = w1.heap.size := ⟨_, rfl⟩
        rw [← hg] at HG HG2 HX ⊢
        clear hg
        go_loopw [7, 8] (fun v i wr => ∃ (k H T : Nat), k ≤ n ∧ i = .int .i64 k ∧ Hid (BK W g S k H T v wr)) (fun _ i _ => n - (intOf i).toNat)
        case atStart => exact ⟨0, 0, 0, Nat.zero_le _, rfl, ⟨⟨by omega, by omega, by omega⟩, Wi.Rw.nil _ _ _, Wi.From.nil _ _ _, HX.out, HB2.out⟩⟩
        case round =>
          obtain ⟨k, H, T, hk, rfl, HK⟩ := hrel
          by_cases hlt : k < n
          · obtain ⟨x, hx⟩ : ∃ x, zs[k]? = some x := ⟨_, List.getElem?_eq_getElem (by have := HI.out.len; omega)⟩
            obtain ⟨ga, off, rfl, hgl, hca⟩ := HI.out.cells k x hx
            have HA : Hid (∀ w', Below W.heap.size W w' → w'.cell? ⟨ga, off + k, none⟩ = some (.int .i64 x)) := fun w' hb => (hb.cell (p := ⟨ga, off + k, none⟩) hgl).trans hca
            by_cases hpar : k % 2 = 0
            · have hr : ((k : Nat) : Int).tmod 2 = 0 := by rw [Int.tmod_eq_emod_of_nonneg (by omega)]; omega
              have hm : mayR S H T = true := decide_eq_true (by have := HK.out.may; have := HS.out; omega)
              obtain ⟨X, er, hX, her, hpu⟩ := push_fix S H T x hm
              have HPU := hide hpu
              have HXX := hide hX
              have HKB := hide HK.out.below
              have HBX : Hid (∀ w', Below wr.heap.size wr w' → Rc w' g S H T) := fun w' hb => (Rc.of_blk HK.out.box).later hb
              clear hm hx hca hpu hX
              go_wp2_with fail
              refine Wi.wp_region_specs_mid (n := 11) [.val (.agg #[.int .i64 (S : Nat), .int .i64 (H : Nat), .int .i64 (T : Nat)]), .val (.slice (some ⟨ga, off, none⟩) n cap), .val (.int .i64 (k : Nat)), .val (.pointer (some ⟨ga, off + k, none⟩)), .val (.int .i64 x), tupS wr.heap.size (secL S H X) (.agg #[.int .i64 (S : Nat), .int .i64 ((H + X : Nat) : Int), .int .i64 (T : Nat)]) er, tupS wr.heap.size (secL S H X) (.agg #[.int .i64 (S : Nat), .int .i64 ((H + X : Nat) : Int), .int .i64 (T : Nat)]) er, .val (.agg #[.int .i64 (S : Nat), .int .i64 ((H + X : Nat) : Int), .int .i64 (T : Nat)]), ownS wr.heap.size (secL S H X), .val (.int .i64 er), boxS wr.heap.size, .val undef, ownS wr.heap.size (secL S H X), .val (.int .i64 er)]
                [.val (.agg #[.int .i64 (S : Nat), .int .i64 (H : Nat), .int .i64 (T : Nat)]), .val (.slice (some ⟨ga, off, none⟩) n cap), .val (.int .i64 (k : Nat)), .val (.pointer (some ⟨ga, off + k, none⟩)), .val (.int .i64 x), tupS wr.heap.size (secL S H X) (.agg #[.int .i64 (S : Nat), .int .i64 ((H + X : Nat) : Int), .int .i64 (T : Nat)]) er, tupS wr.heap.size (secL S H X) (.agg #[.int .i64 (S : Nat), .int .i64 ((H + X : Nat) : Int), .int .i64 (T : Nat)]) er, .val (.agg #[.int .i64 (S : Nat), .int .i64 ((H + X : Nat) : Int), .int .i64 (T : Nat)]), ownS wr.heap.size (secL S H X), .val (.int .i64 er), ringS wr.heap.size (S : Nat) ((H + X : Nat) : Int) (T : Nat), .val undef, ownS wr.heap.size (secL S H X), .val (.int .i64 er)] (by kernel_rfl) (by kernel_rfl) rfl rfl rfl ?_ ?_ ?_ ?_
              · refine ⟨?_, ?_⟩
                · intro hp A w1 hb ho hd
                  clear hp
                  have e5 : A.tmps[5]?.getD undef = .pointer (some ⟨g, 0, none⟩) := Wi.olds_get ho 5 (by kernel_rfl)
                  obtain ⟨y0, y1, y2, _⟩ := HBX.out w1 hb
                  refine ⟨rfl, Wi.goes_value (v := .agg #[.int .i64 (S : Nat), .int .i64 (H : Nat), .int .i64 (T : Nat)]) ?_ rfl⟩
                  simp [go_sem, e5, y0, y1, y2]
                refine ⟨?_, ?_⟩
                · intro hp A w1 hb ho hd
                  clear hp
                  have e1 : A.tmps[1]?.getD undef = .slice (some ⟨ga, off, none⟩) n cap := Wi.olds_get ho 1 (by kernel_rfl)
                  refine ⟨rfl, Wi.goes_value (v := .slice (some ⟨ga, off, none⟩) n cap) ?_ rfl⟩
                  simp [go_sem, e1]
                refine ⟨?_, ?_⟩
                · intro hp A w1 hb ho hd
                  clear hp
                  have e8 : A.tmps[8]?.getD undef = .int .i64 (k : Nat) := Wi.olds_get ho 8 (by kernel_rfl)
                  refine ⟨rfl, Wi.goes_value (v := .int .i64 (k : Nat)) ?_ rfl⟩
                  simp [go_sem, e8]
                refine ⟨?_, ?_⟩
                · intro hp A w1 hb ho hd
                  clear hp
                  have e56 : A.tmps[56]?.getD undef = .slice (some ⟨ga, off, none⟩) n cap := Wi.getq (hd _ (Array.mem_of_getElem? (i := 0) rfl) rfl _ _ rfl rfl)
                  have e57 : A.tmps[57]?.getD undef = .int .i64 (k : Nat) := Wi.getq (hd _ (Array.mem_of_getElem? (i := 1) rfl) rfl _ _ rfl rfl)
                  refine ⟨rfl, Wi.goes_value (v := .pointer (some ⟨ga, off + k, none⟩)) ?_ rfl⟩
                  simp [go_sem, e56, e57, hlt]
                refine ⟨?_, ?_⟩
                · intro hp A w1 hb ho hd
                  clear hp
                  have e58 : A.tmps[58]?.getD undef = .pointer (some ⟨ga, off + k, none⟩) := Wi.getq (hd _ (Array.mem_of_getElem? (i := 0) rfl) rfl _ _ rfl rfl)
                  have z := HA.out w1 (HKB.out.trans (hb.mono HKB.out.size))
                  refine ⟨rfl, Wi.goes_value (v := .int .i64 x) ?_ rfl⟩
                  simp [go_sem, e58, z]
                refine ⟨?_, ?_⟩
                · intro hp A w1 hb ho hd
                  clear hp
                  have e55 : A.tmps[55]?.getD undef = .agg #[.int .i64 (S : Nat), .int .i64 (H : Nat), .int .i64 (T : Nat)] := Wi.getq (hd _ (Array.mem_of_getElem? (i := 0) rfl) rfl _ _ rfl rfl)
                  have e59 : A.tmps[59]?.getD undef = .int .i64 x := Wi.getq (hd _ (Array.mem_of_getElem? (i := 1) rfl) rfl _ _ rfl rfl)
                  refine ⟨rfl, goes_pred (f := 18) (args := #[.agg #[.int .i64 (S : Nat), .int .i64 (H : Nat), .int .i64 (T : Nat)], .int .i64 x]) ?_ ((HPU.out w1).mono fun e w2 ⟨v, he, h1, h2, h3⟩ => ⟨_, he, ⟨v, rfl, h1, fun i hi => Nat.le_trans hb.size (h2 i hi)⟩, h3⟩)⟩
                  simp [go_sem, e55, e59]
                refine ⟨?_, ?_⟩
                · intro hp A w1 hb ho hd
                  clear hp
                  obtain ⟨u, hu, ho1, hf1⟩ := hd _ (Array.mem_of_getElem? (i := 0) rfl) rfl _ _ rfl rfl
                  have e60 := Wi.getq hu
                  refine ⟨rfl, Wi.goes_value (v := .tuple #[.agg #[.int .i64 (S : Nat), .int .i64 ((H + X : Nat) : Int), .int .i64 (T : Nat)], u, .int .i64 er]) ?_ ⟨u, rfl, ho1, hf1⟩⟩
                  simp [go_sem, e60]
                refine ⟨?_, ?_⟩
                · intro hp A w1 hb ho hd
                  clear hp
                  obtain ⟨u, hu, ho1, hf1⟩ := hd _ (Array.mem_of_getElem? (i := 0) rfl) rfl _ _ rfl rfl
                  have e54 := Wi.getq hu
                  refine ⟨rfl, Wi.goes_value (v := .agg #[.int .i64 (S : Nat), .int .i64 ((H + X : Nat) : Int), .int .i64 (T : Nat)]) ?_ rfl⟩
                  simp [go_sem, e54]
                refine ⟨?_, ?_⟩
                · intro hp A w1 hb ho hd
                  clear hp
                  obtain ⟨u, hu, ho1, hf1⟩ := hd _ (Array.mem_of_getElem? (i := 0) rfl) rfl _ _ rfl rfl
                  have e54 := Wi.getq hu
                  refine ⟨rfl, Wi.goes_value (v := u) ?_ ⟨ho1, hf1⟩⟩
                  simp [go_sem, e54]
                refine ⟨?_, ?_⟩
                · intro hp A w1 hb ho hd
                  clear hp
                  obtain ⟨u, hu, ho1, hf1⟩ := hd _ (Array.mem_of_getElem? (i := 0) rfl) rfl _ _ rfl rfl
                  have e54 := Wi.getq hu
                  refine ⟨rfl, Wi.goes_value (v := .int .i64 er) ?_ rfl⟩
                  simp [go_sem, e54]
                refine ⟨?_, ?_⟩
                · intro hp A w1 hb ho hd
                  clear hp
                  refine ⟨rfl, Wi.goes_alloc (v := .pointer (some ⟨w1.heap.size, 0, none⟩)) (o := .cells #[.int .i64 0, .int .i64 0, .int .i64 0] 23) ?_ ⟨_, rfl, hb.size, heap_alloc_new _ _⟩⟩
                  simp [go_sem]
                refine ⟨?_, ?_⟩
                · exact fun hp => absurd hp (by decide)
                refine ⟨?_, ?_⟩
                · intro hp A w1 hb ho hd
                  have hx := hd _ (Array.mem_of_getElem? (i := 0) rfl) rfl _ _ rfl rfl
                  refine ⟨rfl, Wi.goes_value (v := A.tmps.getD 62 undef) ?_ hx⟩
                  simp [go_sem]
                refine ⟨?_, ?_⟩
                · intro hp A w1 hb ho hd
                  clear hp
                  have e63 : A.tmps[63]?.getD undef = .int .i64 er := Wi.getq (hd _ (Array.mem_of_getElem? (i := 0) rfl) rfl _ _ rfl rfl)
                  refine ⟨rfl, Wi.goes_value (v := .int .i64 er) ?_ rfl⟩
                  simp [go_sem, e63]
                trivial
              · refine ⟨?_, ?_⟩
                · exact not_needed (by kernel_rfl)
                refine ⟨?_, ?_⟩
                · exact not_needed (by kernel_rfl)
                refine ⟨?_, ?_⟩
                · exact not_needed (by kernel_rfl)
                refine ⟨?_, ?_⟩
                · exact not_needed (by kernel_rfl)
                refine ⟨?_, ?_⟩
                · exact not_needed (by kernel_rfl)
                refine ⟨?_, ?_⟩
                · exact not_needed (by kernel_rfl)
                refine ⟨?_, ?_⟩
                · exact not_needed (by kernel_rfl)
                refine ⟨?_, ?_⟩
                · exact not_needed (by kernel_rfl)
                refine ⟨?_, ?_⟩
                · intro hp A w1 hb ho hd
                  clear hp
                  obtain ⟨u, hu, ho1, hf1⟩ := hd _ (Array.mem_of_getElem? (i := 0) rfl) rfl _ _ rfl rfl
                  have e54 := Wi.getq hu
                  refine ⟨rfl, Wi.goes_value (v := u) ?_ ⟨ho1, hf1⟩⟩
                  simp [go_sem, e54]
                refine ⟨?_, ?_⟩
                · intro hp A w1 hb ho hd
                  clear hp
                  obtain ⟨u, hu, ho1, hf1⟩ := hd _ (Array.mem_of_getElem? (i := 0) rfl) rfl _ _ rfl rfl
                  have e54 := Wi.getq hu
                  refine ⟨rfl, Wi.goes_value (v := .int .i64 er) ?_ rfl⟩
                  simp [go_sem, e54]
                refine ⟨?_, ?_⟩
                · exact not_needed (by kernel_rfl)
                refine ⟨?_, ?_⟩
                · exact not_needed (by kernel_rfl)
                refine ⟨?_, ?_⟩
                · intro hp A w1 hb ho hd
                  have hx := hd _ (Array.mem_of_getElem? (i := 0) rfl) rfl _ _ rfl rfl
                  refine ⟨rfl, Wi.goes_value (v := A.tmps.getD 62 undef) ?_ hx⟩
                  simp [go_sem]
                refine ⟨?_, ?_⟩
                · intro hp A w1 hb ho hd
                  clear hp
                  have e63 : A.tmps[63]?.getD undef = .int .i64 er := Wi.getq (hd _ (Array.mem_of_getElem? (i := 0) rfl) rfl _ _ rfl rfl)
                  refine ⟨rfl, Wi.goes_value (v := .int .i64 er) ?_ rfl⟩
                  simp [go_sem, e63]
                trivial
              · intro A w1 hb ho hd
                obtain ⟨b, hbv, hbB, hblk⟩ := hd _ (Array.mem_of_getElem? (i := 0) rfl) rfl _ _ rfl rfl
                obtain ⟨w2, hr2, hb2, hR2, hO2⟩ := ring_store hbB hb hblk (S : Nat) ((H + X : Nat) : Int) (T : Nat) (A := A) (x := .tmp 9) (y := .tmp 61) hbv (hd _ (Array.mem_of_getElem? (i := 1) rfl) rfl _ _ rfl rfl)
                refine ⟨w2, hr2 _ rfl, hb2, fun j o d hj hdj hs => ?_⟩
                rcases j with _ | _ | _ | _ | _ | _ | _ | _ | _ | _ | _ | _ | _ | _ | j
                all_goals (first | exact hs | skip)
                · obtain ⟨u, h1, h2, h3⟩ := hs
                  exact ⟨u, h1, hO2 _ _ h2, h3⟩
                · obtain ⟨u, h1, h2, h3⟩ := hs
                  exact ⟨u, h1, hO2 _ _ h2, h3⟩
                · exact ⟨hO2 _ _ hs.1, hs.2⟩
                · have hj2 := Option.some.inj hj
                  subst hj2
                  cases hdj
                  exact ⟨b, hbv, hbB, hR2⟩
                · exact ⟨hO2 _ _ hs.1, hs.2⟩
              · intro A w9 hb9 hdf hsz hol hft
                have m55 : A.tmps.getD 55 undef = .agg #[.int .i64 (S : Nat), .int .i64 (H : Nat), .int .i64 (T : Nat)] := hft 0 _ 55 rfl rfl
                have m56 : A.tmps.getD 56 undef = .slice (some ⟨ga, off, none⟩) n cap := hft 1 _ 56 rfl rfl
                have m57 : A.tmps.getD 57 undef = .int .i64 (k : Nat) := hft 2 _ 57 rfl rfl
                have m58 : A.tmps.getD 58 undef = .pointer (some ⟨ga, off + k, none⟩) := hft 3 _ 58 rfl rfl
                have m59 : A.tmps.getD 59 undef = .int .i64 x := hft 4 _ 59 rfl rfl
                have m61 : A.tmps.getD 61 undef = .agg #[.int .i64 (S : Nat), .int .i64 ((H + X : Nat) : Int), .int .i64 (T : Nat)] := hft 7 _ 61 rfl rfl
                have m63 : A.tmps.getD 63 undef = .int .i64 er := hft 9 _ 63 rfl rfl
                have m11 : A.tmps.getD 11 undef = .int .i64 er := hft 13 _ 11 rfl rfl
                obtain ⟨b, m9, hbB, hR9⟩ := hft 10 _ 9 rfl rfl
                have hO9 : Own w9 (A.tmps.getD 10 undef) (secL S H X) ∧ From wr.heap.size (A.tmps.getD 10 undef) := hft 12 _ 10 rfl rfl
                rename_i KK hKK
                refine hKK _ _ ?_
                show Code.wp _ _ _ A w9
                rw [Wi.frame_puts hdf hsz hol]
                simp only [List.foldl_cons, List.foldl_nil, Act.put, Option.getD_some, m55, m56, m57, m58, m59, m61, m63, m11, m9, List.setIfInBounds_toArray, List.set_cons_succ, List.set_cons_zero]
                generalize A.tmps.getD 10 undef = v2 at *
                generalize A.tmps.getD 60 undef = z1 at *
                generalize A.tmps.getD 54 undef = z2 at *
                generalize A.tmps.getD 62 undef = z3 at *
                clear m55 m56 m57 m58 m59 m61 m63 m11 m9 hft hol hsz hdf hKK
                have HB9 := hide (HKB.out.trans (hb9.mono HKB.out.size))
                have hgb := lt_of_block HK.out.box
                have hblk : w9.heap[g]? = _ := (hb9.block g hgb).trans HK.out.box
                have hfz := fun j => frozen_of_row w9 g j _ _ hblk
                obtain ⟨c0, c1, c2, _⟩ := Rc.of_blk hblk
                obtain ⟨r0, r1, r2, _⟩ := hR9
                have hne : ¬ b = g := by omega
                obtain ⟨hkp, hblk2⟩ := put3 hblk (.int .i64 (S : Nat)) (.int .i64 ((H : Int) + (X : Int))) (.int .i64 (T : Nat))
                have HBK := hide hblk2
                have HB10 := hide (HB9.out.trans (hkp.below HB9.out.size fun k hk e => by have := HG.out; omega))
                have HR10 := hide ((HK.out.row.later hb9).keep hkp fun i hi e => by have := HK.out.fr i hi; omega)
                have HO10 := hide (hO9.1.keep hkp fun i hi e => by have := hO9.2 i hi; omega)
                have HAP : Hid (∀ i, v2.ownBlock = some i → ¬ u7.ownBlock = some i) := fun i hi e => by have := hO9.2 i hi; have := HK.out.row.lt i e; omega
                have HMAY := hide HK.out.may
                have HFR := hide HK.out.fr
                rcases her with rfl | her
                · clear hblk hblk2 hkp hO9 hgb HK
                  go_wp2
                  generalize (((w9.setCell ⟨g, 0, none⟩ (.int .i64 (S : Nat))).setCell ⟨g, 1, none⟩ (.int .i64 ((H : Int) + (X : Int)))).setCell ⟨g, 2, none⟩ (.int .i64 (T : Nat))) = w10 at *
                  clear hfz c0 c1 c2 r0 r1 r2 hne
                  obtain ⟨a2, cp2, rfl⟩ := own_form' HO10.out
                  generalize u7 = V0 at *
                  have HP : Hid (∀ (k : Nat) (x : Int × Int), (secL S H X)[k]? = some x → _) := fun k x h => sec_posn (s := S) (p := H) (n := X) (k := k) (x := x) (by have := HS.out; omega) (by have := HXX.out; omega) h
                  have HCL : Hid (∀ w', Wi.Keep (fun j => V0.ownBlock = some j) w10 w' → ∀ (k : Nat) (x : Int × Int), (secL S H X)[k]? = some x → ∃ g2, a2 = some ⟨g2, 0, none⟩ ∧ g2 < w'.heap.size ∧ w'.cell? ⟨g2, k * 2, none⟩ = some (.int .i64 x.1) ∧ w'.cell? ⟨g2, k * 2 + 1, none⟩ = some (.int .i64 x.2)) := fun w' hk => own_cells (HO10.out.keep hk HAP.out)
                  have HT0 := hide (TK.start HR10.out)
                  obtain ⟨NL, hNL⟩ : ∃ NL, NL = (secL S H X).length := ⟨_, rfl⟩
                  have HNL := hide hNL
                  have hNLs : NL ≤ 2 := by rw [hNL]; exact sec_len S H X
                  rw [← hNL]
                  clear hNL
                  go_loopw [7, 12] (fun v i wr2 => ∃ kk : Nat, kk ≤ NL ∧ i = .int .i64 kk ∧ Hid (TK w10 V0 S T v (H - T + cN (secL S H X) kk) wr2)) (fun _ i _ => NL - (intOf i).toNat)
                  case atStart => exact ⟨0, Nat.zero_le _, rfl, by rw [cN_zero]; exact HT0.out⟩
                  case round =>
                    obtain ⟨kk, hkk, rfl, HTK⟩ := hrel
                    by_cases hlt2 : kk < NL
                    · obtain ⟨x2, hx2⟩ : ∃ x2, (secL S H X)[kk]? = some x2 := ⟨_, List.getElem?_eq_getElem (by rw [← HNL.out]; exact hlt2)⟩
                      obtain ⟨A0, L0, rfl, hL1, hAL, hcn, hcs, hat⟩ := HP.out kk _ hx2
                      have HCX : Hid (∀ w', Wi.Keep (fun j => V0.ownBlock = some j) w10 w' → ∃ g2, a2 = some ⟨g2, 0, none⟩ ∧ g2 < w'.heap.size ∧ w'.cell? ⟨g2, kk * 2, none⟩ = some (.int .i64 (A0 : Nat)) ∧ w'.cell? ⟨g2, kk * 2 + 1, none⟩ = some (.int .i64 (L0 : Nat))) := fun w' hk => HCL.out w' hk kk _ hx2
                      obtain ⟨g2, rfl, hg2, q0, q1⟩ := HCX.out _ HTK.out.keep
                      have HAT := hide hat
                      have HCN2 := hide hcn
                      have HCS := hide hcs
                      clear hx2 hcn hcs hat hg2
                      have h17 : A0 + L0 ≤ 300 := by have := HS.out; omega
                      go_wp2
                      go_loopw [7, 13] (fun v i wr3 => ∃ jj : Nat, jj ≤ L0 ∧ i = .int .i64 jj ∧ Hid (TK w10 V0 S T v (H - T + cN (secL S H X) kk + jj) wr3)) (fun _ i _ => L0 - (intOf i).toNat)
                      case atStart => exact ⟨0, Nat.zero_le _, rfl, HTK.out⟩
                      case round =>
                        clear q0 q1 HTK
                        obtain ⟨jj, hjj, rfl, HTJ⟩ := hrel
                        obtain ⟨g3, hg3, _, q0, q1⟩ := HCX.out _ HTJ.out.keep
                        cases hg3
                        by_cases hlt3 : jj < L0
                        · obtain ⟨M, hM⟩ : ∃ M, M = H - T + cN (secL S H X) kk + jj := ⟨_, rfl⟩
                          have HM1 : Hid (M + 1 = H - T + cN (secL S H X) kk + (jj + 1)) := by show _ = _; omega
                          rw [← hM] at HTJ
                          have HAT2 : Hid (((A0 : Int) + (jj : Int)) = (((T + M) % S : Nat) : Int)) := by
                            show _ = _
                            have := HAT.out jj hlt3
                            have hmy := HMAY.out
                            rw [show T + M = H + cN (secL S H X) kk + jj by omega]
                            omega
                          have hMS : M < S := by have := HCN2.out; have := HXX.out; have := HMAY.out; omega
                          have HMS := hide hMS
                          have hwa : IntKind.i64.wrap ((A0 : Int) + (jj : Int)) = (A0 : Int) + (jj : Int) := by rw [IntKind.wrap_i64]; omega
                          have HROW := hide HTJ.out.row
                          have HM3 : Hid (M ≤ 300) := by show _ ≤ _; have := HS.out; omega
                          obtain ⟨va, vc, hv⟩ := HTJ.out.row.form
                          subst hv
                          clear hM hMS
                          go_wp2
                          go_loop [15] (fun i => ∃ hh : Nat, hh ≤ M ∧ i = .int .i64 hh) (fun i => M - (intOf i).toNat)
                          case atStart => exact ⟨0, Nat.zero_le _, rfl⟩
                          case round =>
                            obtain ⟨hh, hhh, rfl⟩ := hrel
                            by_cases hlt4 : hh < M
                            · have hM3 : M ≤ 300 := HM3.out
                              obtain ⟨g4, off4, cap4, hv4, hg4, _⟩ := HROW.out.pos (by omega)
                              injection hv4 with e1 e2 e3
                              subst e1
                              obtain ⟨y, hy⟩ : ∃ y : Int, y = (((T + hh) % S : Nat) : Int) := ⟨_, rfl⟩
                              have hcell := (HROW.out.cell (j := hh) (tkV_get hlt4)).1
                              rw [← hy] at hcell
                              have hd5 : decide (y = (A0 : Int) + (jj : Int)) = false := decide_eq_false (by rw [HAT2.out, hy]; exact mod_ne hlt4 HMS.out)
                              have hn5 : ¬ y = (A0 : Int) + (jj : Int) := of_decide_eq_false hd5
                              clear hy e2 e3
                              go_wp2
                              go_round
                              case rel => exact ⟨hh + 1, by omega, by go_num⟩
                              case measure => simp [intOf]; omega
                            · have hhe := hide (show hh = M by omega)
                              clear q0 q1
                              have HNB := hide (below_alloc wr (.cells #[.int .i64 ((A0 : Int) + (jj : Int))] 3))
                              have HRW2 := hide (HROW.out.later HNB.out)
                              have HCN := hide (cell_one_new wr (.int .i64 ((A0 : Int) + (jj : Int))) 3)
                              have hmx : M + 1 ≤ maxLen := by have := HM3.out; unfold maxLen; omega
                              have hby : (M + 1) * 8 ≤ 140737488355328 := by have := HM3.out; omega
                              go_wp2_with (at_builtin; refine Wi.wpList_append_rw rfl (.tmp 106) (.tmp 108) 41 rfl 3 i0 _ 1 8 Try.underlying41 hi hz0 hz1 hz2 rfl (by decide) _ _ _ rfl HRW2.out ⟨wr.heap.size, 0, none⟩ 1 1 [.int .i64 ((A0 : Int) + (jj : Int))] rfl rfl HCN.out (Wi.one_oneCell _ _) hmx hby ?_; intro v3 w5 f1 f2 f3; replace f1 := hide f1; replace f2 := hide f2; replace f3 := hide f3)
                              have HF : Hid (TK w10 V0 S T v3 (H - T + cN (secL S H X) kk + (jj + 1)) w5) := by
                                show TK _ _ _ _ _ _ _
                                rw [← HM1.out]
                                exact HTJ.out.push HNB.out (by have := f1.out; rw [HAT2.out] at this; exact this) f2.out f3.out
                              clear f1 f2 f3
                              go_roundw
                              case rel => first | exact ⟨jj + 1, by omega, by go_num, HF.out⟩ | exact ⟨_, _, _, ⟨jj + 1, by omega, by go_num, HF.out⟩, rfl, rfl, rfl⟩
                              case measure => simp [intOf]; omega
                        · have hje : jj = L0 := by omega
                          have HF : Hid (TK w10 V0 S T u7 (H - T + cN (secL S H X) (kk + 1)) wr) := by
                            show TK _ _ _ _ _ _ _
                            rw [HCS.out, ← Nat.add_assoc, ← hje]
                            exact HTJ.out
                          clear hje
                          go_wp2
                          go_roundw
                          case rel => first | exact ⟨kk + 1, by omega, by go_num, HF.out⟩ | exact ⟨_, _, _, ⟨kk + 1, by omega, by go_num, HF.out⟩, rfl, rfl, rfl⟩
                          case measure => simp [intOf]; omega
                    · obtain ⟨m, hm⟩ : ∃ m, m = H + X - T := ⟨_, rfl⟩
                      have HBF : Hid (BK W g S (k + 1) (H + X) T u7 wr) := by
                        have hmy := HMAY.out
                        have hxx := HXX.out
                        have hss := HS.out
                        have h1 : cN (secL S H X) kk = X := cN_all hss.1 (by omega) (by have := HNL.out; omega)
                        have h2 := HTK.out
                        rw [h1] at h2
                        exact h2.bk (by omega) ⟨by omega, by omega, by omega⟩ HFR.out (by omega) HBK.out HB10.out HG.out
                      have hmS : m ≤ S := by have := HBF.out.may; omega
                      have hrc := Rc.of_blk HBF.out.box
                      have HE0 : ∀ P : Later wr, _ := fun P => (P.below.cell (p := ⟨g, 0, none⟩) hrc.lt).trans hrc.c0
                      have HE1 : ∀ P : Later wr, _ := fun P => (P.below.cell (p := ⟨g, 1, none⟩) hrc.lt).trans hrc.c1
                      have HE2 : ∀ P : Later wr, _ := fun P => (P.below.cell (p := ⟨g, 2, none⟩) hrc.lt).trans hrc.c2
                      have hne := later_ne wr
                      obtain ⟨HH, hHH⟩ : ∃ HH : Int, HH = ((H + X : Nat) : Int) := ⟨_, rfl⟩
                      rw [← hHH] at HE1
                      have hmr : mayR S HH T = true := decide_eq_true (by have := HBF.out.may; have := HS.out; have := HXX.out; have hk60 := hlt; omega)
                      have CU : ∀ P : Later wr, _ := fun P => used_any S HH T ⟨by omega, by have := of_decide_eq_true hmr; omega⟩ ⟨by omega, by have := of_decide_eq_true hmr; omega⟩ P.val
                      have CF : ∀ P : Later wr, _ := fun P => free_any S HH T ⟨by omega, by have := of_decide_eq_true hmr; omega⟩ ⟨by omega, by have := of_decide_eq_true hmr; omega⟩ P.val
                      obtain ⟨F, hF⟩ : ∃ F : Int, F = (S : Int) - (m : Int) := ⟨_, rfl⟩
                      have hwF : IntKind.i64.wrap ((m : Int) + F) = (S : Int) := by rw [IntKind.wrap_i64]; have := HS.out; omega
                      rw [show usedR S HH T = (m : Int) by unfold usedR; rw [if_pos hmr]; have := HBF.out.may; omega] at CU
                      rw [show freeR S HH T = F by unfold freeR; rw [if_pos hmr]; have := HBF.out.may; omega] at CF
                      have hdm : decide ((S : Int) < (m : Int)) = false := decide_eq_false (by omega)
                      obtain ⟨va, vc, hv⟩ := HBF.out.row.form
                      rw [← hm] at hv
                      subst hv
                      clear hF hHH hmr hm hrc HTK
                      go_wp2
                      refine wp_region_later (by kernel_rfl) (by kernel_rfl) ?_
                      (repeat (first | go_big_quiet_skip | (go_big_quiet_want; go_big_quiet_op; go_big_quiet_on)))
                      (go_big_quiet_want; go_big_quiet_op; apply Exists.intro; refine ⟨fun p => ?_, ?_⟩; (· exact later_of (CU p)); go_big_quiet_on)
                      (repeat (first | go_big_quiet_skip | (go_big_quiet_want; go_big_quiet_op; go_big_quiet_on)))
                      (go_big_quiet_want; go_big_quiet_op; apply Exists.intro; refine ⟨fun p => ?_, ?_⟩; (· exact later_of (CU p)); go_big_quiet_on)
                      (repeat (first | go_big_quiet_skip | (go_big_quiet_want; go_big_quiet_op; go_big_quiet_on)))
                      (go_big_quiet_want; go_big_quiet_op; apply Exists.intro; refine ⟨fun p => ?_, ?_⟩; (· exact later_of (CF p)); go_big_quiet_on)
                      (repeat (first | go_big_quiet_skip | (go_big_quiet_want; go_big_quiet_op; go_big_quiet_on)))
                      refine wpQuiet_nil ?_
                      rintro _ ⟨p, rfl⟩
                      have HBF2 := hide (HBF.out.later p.below)
                      clear HE0 HE1 HE2 hne CU CF
                      generalize p.val = w11 at *
                      have hn60 : n ≤ 60 := HS.out.2.2
                      go_wp2
                      go_roundw
                      case rel => first | exact ⟨k + 1, H + X, T, by omega, by go_num, HBF2.out⟩ | exact ⟨_, _, _, ⟨k + 1, H + X, T, by omega, by go_num, HBF2.out⟩, rfl, rfl, rfl⟩
                      case measure => simp [intOf]; omega
                · have HX0 := hide her.2
                  have hbne : (er != 0) = true := by simpa using her.1
                  clear hblk hblk2 hkp hO9 hgb HK
                  obtain ⟨a2, cp2, rfl⟩ := own_form' HO10.out
                  rw [show (secL S H X).length = 0 by rw [her.2, sec_zero]; rfl]
                  clear her
                  go_wp2
                  generalize (((w9.setCell ⟨g, 0, none⟩ (.int .i64 (S : Nat))).setCell ⟨g, 1, none⟩ (.int .i64 ((H : Int) + (X : Int)))).setCell ⟨g, 2, none⟩ (.int .i64 (T : Nat))) = w10 at *
                  clear hfz c0 c1 c2 r0 r1 r2 hne
                  have HT0 := hide (TK.start HR10.out)
                  generalize u7 = V0 at *
                  go_loopw [7, 12] (fun v i wr2 => i = .int .i64 0 ∧ Hid (TK w10 V0 S T v (H - T) wr2)) (fun _ _ _ => 0)
                  case atStart => exact ⟨rfl, HT0.out⟩
                  case round =>
                    obtain ⟨rfl, HTK⟩ := hrel
                    obtain ⟨m, hm⟩ : ∃ m, m = H + X - T := ⟨_, rfl⟩
                    have HBF : Hid (BK W g S (k + 1) (H + X) T u7 wr) := by
                      have hmy := HMAY.out
                      have hxx := HXX.out
                      have hss := HS.out
                      have h1 := HX0.out
                      have h2 := HTK.out
                      exact h2.bk (by omega) ⟨by omega, by omega, by omega⟩ HFR.out (by omega) HBK.out HB10.out HG.out
                    have hmS : m ≤ S := by have := HBF.out.may; omega
                    have hrc := Rc.of_blk HBF.out.box
                    have HE0 : ∀ P : Later wr, _ := fun P => (P.below.cell (p := ⟨g, 0, none⟩) hrc.lt).trans hrc.c0
                    have HE1 : ∀ P : Later wr, _ := fun P => (P.below.cell (p := ⟨g, 1, none⟩) hrc.lt).trans hrc.c1
                    have HE2 : ∀ P : Later wr, _ := fun P => (P.below.cell (p := ⟨g, 2, none⟩) hrc.lt).trans hrc.c2
                    have hne := later_ne wr
                    obtain ⟨HH, hHH⟩ : ∃ HH : Int, HH = ((H + X : Nat) : Int) := ⟨_, rfl⟩
                    rw [← hHH] at HE1
                    have hmr : mayR S HH T = true := decide_eq_true (by have := HBF.out.may; have := HS.out; have := HXX.out; have hk60 := hlt; omega)
                    have CU : ∀ P : Later wr, _ := fun P => used_any S HH T ⟨by omega, by have := of_decide_eq_true hmr; omega⟩ ⟨by omega, by have := of_decide_eq_true hmr; omega⟩ P.val
                    have CF : ∀ P : Later wr, _ := fun P => free_any S HH T ⟨by omega, by have := of_decide_eq_true hmr; omega⟩ ⟨by omega, by have := of_decide_eq_true hmr; omega⟩ P.val
                    obtain ⟨F, hF⟩ : ∃ F : Int, F = (S : Int) - (m : Int) := ⟨_, rfl⟩
                    have hwF : IntKind.i64.wrap ((m : Int) + F) = (S : Int) := by rw [IntKind.wrap_i64]; have := HS.out; omega
                    rw [show usedR S HH T = (m : Int) by unfold usedR; rw [if_pos hmr]; have := HBF.out.may; omega] at CU
                    rw [show freeR S HH T = F by unfold freeR; rw [if_pos hmr]; have := HBF.out.may; omega] at CF
                    have hdm : decide ((S : Int) < (m : Int)) = false := decide_eq_false (by omega)
                    obtain ⟨va, vc, hv⟩ := HBF.out.row.form
                    rw [← hm] at hv
                    subst hv
                    clear hF hHH hmr hm hrc HTK
                    go_wp2
                    refine wp_region_later (by kernel_rfl) (by kernel_rfl) ?_
                    (repeat (first | go_big_quiet_skip | (go_big_quiet_want; go_big_quiet_op; go_big_quiet_on)))
                    (go_big_quiet_want; go_big_quiet_op; apply Exists.intro; refine ⟨fun p => ?_, ?_⟩; (· exact later_of (CU p)); go_big_quiet_on)
                    (repeat (first | go_big_quiet_skip | (go_big_quiet_want; go_big_quiet_op; go_big_quiet_on)))
                    (go_big_quiet_want; go_big_quiet_op; apply Exists.intro; refine ⟨fun p => ?_, ?_⟩; (· exact later_of (CU p)); go_big_quiet_on)
                    (repeat (first | go_big_quiet_skip | (go_big_quiet_want; go_big_quiet_op; go_big_quiet_on)))
                    (go_big_quiet_want; go_big_quiet_op; apply Exists.intro; refine ⟨fun p => ?_, ?_⟩; (· exact later_of (CF p)); go_big_quiet_on)
                    (repeat (first | go_big_quiet_skip | (go_big_quiet_want; go_big_quiet_op; go_big_quiet_on)))
                    refine wpQuiet_nil ?_
                    rintro _ ⟨p, rfl⟩
                    have HBF2 := hide (HBF.out.later p.below)
                    clear HE0 HE1 HE2 hne CU CF
                    generalize p.val = w11 at *
                    have hn60 : n ≤ 60 := HS.out.2.2
                    go_wp2
                    go_roundw
                    case rel => first | exact ⟨k + 1, H + X, T, by omega, by go_num, HBF2.out⟩ | exact ⟨_, _, _, ⟨k + 1, H + X, T, by omega, by go_num, HBF2.out⟩, rfl, rfl, rfl⟩
                    case measure => simp [intOf]; omega
                
            · have hr : ((k : Nat) : Int).tmod 2 = 1 := by rw [Int.tmod_eq_emod_of_nonneg (by omega)]; omega
              have hm : mayR S H T = true := decide_eq_true (by have := HK.out.may; have := HS.out; omega)
              obtain ⟨X, er, hX, her, hpu⟩ := pop_fix S H T x hm
              have HPU := hide hpu
              have HXX := hide hX
              have HKB := hide HK.out.below
              have HBX : Hid (∀ w', Below wr.heap.size wr w' → Rc w' g S H T) := fun w' hb => (Rc.of_blk HK.out.box).later hb
              clear hm hx hca hpu hX
              go_wp2_with fail
              refine Wi.wp_region_specs_mid (n := 11) [.val (.agg #[.int .i64 (S : Nat), .int .i64 (H : Nat), .int .i64 (T : Nat)]), .val (.slice (some ⟨ga, off, none⟩) n cap), .val (.int .i64 (k : Nat)), .val (.pointer (some ⟨ga, off + k, none⟩)), .val (.int .i64 x), tupS wr.heap.size (secL S T X) (.agg #[.int .i64 (S : Nat), .int .i64 (H : Nat), .int .i64 ((T + X : Nat) : Int)]) er, tupS wr.heap.size (secL S T X) (.agg #[.int .i64 (S : Nat), .int .i64 (H : Nat), .int .i64 ((T + X : Nat) : Int)]) er, .val (.agg #[.int .i64 (S : Nat), .int .i64 (H : Nat), .int .i64 ((T + X : Nat) : Int)]), ownS wr.heap.size (secL S T X), .val (.int .i64 er), boxS wr.heap.size, .val undef, ownS wr.heap.size (secL S T X), .val (.int .i64 er)]
                [.val (.agg #[.int .i64 (S : Nat), .int .i64 (H : Nat), .int .i64 (T : Nat)]), .val (.slice (some ⟨ga, off, none⟩) n cap), .val (.int .i64 (k : Nat)), .val (.pointer (some ⟨ga, off + k, none⟩)), .val (.int .i64 x), tupS wr.heap.size (secL S T X) (.agg #[.int .i64 (S : Nat), .int .i64 (H : Nat), .int .i64 ((T + X : Nat) : Int)]) er, tupS wr.heap.size (secL S T X) (.agg #[.int .i64 (S : Nat), .int .i64 (H : Nat), .int .i64 ((T + X : Nat) : Int)]) er, .val (.agg #[.int .i64 (S : Nat), .int .i64 (H : Nat), .int .i64 ((T + X : Nat) : Int)]), ownS wr.heap.size (secL S T X), .val (.int .i64 er), ringS wr.heap.size (S : Nat) (H : Nat) ((T + X : Nat) : Int), .val undef, ownS wr.heap.size (secL S T X), .val (.int .i64 er)] (by kernel_rfl) (by kernel_rfl) rfl rfl rfl ?_ ?_ ?_ ?_
              · refine ⟨?_, ?_⟩
                · intro hp A w1 hb ho hd
                  clear hp
                  have e5 : A.tmps[5]?.getD undef = .pointer (some ⟨g, 0, none⟩) := Wi.olds_get ho 5 (by kernel_rfl)
                  obtain ⟨y0, y1, y2, _⟩ := HBX.out w1 hb
                  refine ⟨rfl, Wi.goes_value (v := .agg #[.int .i64 (S : Nat), .int .i64 (H : Nat), .int .i64 (T : Nat)]) ?_ rfl⟩
                  simp [go_sem, e5, y0, y1, y2]
                refine ⟨?_, ?_⟩
                · intro hp A w1 hb ho hd
                  clear hp
                  have e1 : A.tmps[1]?.getD undef = .slice (some ⟨ga, off, none⟩) n cap := Wi.olds_get ho 1 (by kernel_rfl)
                  refine ⟨rfl, Wi.goes_value (v := .slice (some ⟨ga, off, none⟩) n cap) ?_ rfl⟩
                  simp [go_sem, e1]
                refine ⟨?_, ?_⟩
                · intro hp A w1 hb ho hd
                  clear hp
                  have e8 : A.tmps[8]?.getD undef = .int .i64 (k : Nat) := Wi.olds_get ho 8 (by kernel_rfl)
                  refine ⟨rfl, Wi.goes_value (v := .int .i64 (k : Nat)) ?_ rfl⟩
                  simp [go_sem, e8]
                refine ⟨?_, ?_⟩
                · intro hp A w1 hb ho hd
                  clear hp
                  have e112 : A.tmps[112]?.getD undef = .slice (some ⟨ga, off, none⟩) n cap := Wi.getq (hd _ (Array.mem_of_getElem? (i := 0) rfl) rfl _ _ rfl rfl)
                  have e113 : A.tmps[113]?.getD undef = .int .i64 (k : Nat) := Wi.getq (hd _ (Array.mem_of_getElem? (i := 1) rfl) rfl _ _ rfl rfl)
                  refine ⟨rfl, Wi.goes_value (v := .pointer (some ⟨ga, off + k, none⟩)) ?_ rfl⟩
                  simp [go_sem, e112, e113, hlt]
                refine ⟨?_, ?_⟩
                · intro hp A w1 hb ho hd
                  clear hp
                  have e114 : A.tmps[114]?.getD undef = .pointer (some ⟨ga, off + k, none⟩) := Wi.getq (hd _ (Array.mem_of_getElem? (i := 0) rfl) rfl _ _ rfl rfl)
                  have z := HA.out w1 (HKB.out.trans (hb.mono HKB.out.size))
                  refine ⟨rfl, Wi.goes_value (v := .int .i64 x) ?_ rfl⟩
                  simp [go_sem, e114, z]
                refine ⟨?_, ?_⟩
                · intro hp A w1 hb ho hd
                  clear hp
                  have e111 : A.tmps[111]?.getD undef = .agg #[.int .i64 (S : Nat), .int .i64 (H : Nat), .int .i64 (T : Nat)] := Wi.getq (hd _ (Array.mem_of_getElem? (i := 0) rfl) rfl _ _ rfl rfl)
                  have e115 : A.tmps[115]?.getD undef = .int .i64 x := Wi.getq (hd _ (Array.mem_of_getElem? (i := 1) rfl) rfl _ _ rfl rfl)
                  refine ⟨rfl, goes_pred (f := 19) (args := #[.agg #[.int .i64 (S : Nat), .int .i64 (H : Nat), .int .i64 (T : Nat)], .int .i64 x]) ?_ ((HPU.out w1).mono fun e w2 ⟨v, he, h1, h2, h3⟩ => ⟨_, he, ⟨v, rfl, h1, fun i hi => Nat.le_trans hb.size (h2 i hi)⟩, h3⟩)⟩
                  simp [go_sem, e111, e115]
                refine ⟨?_, ?_⟩
                · intro hp A w1 hb ho hd
                  clear hp
                  obtain ⟨u, hu, ho1, hf1⟩ := hd _ (Array.mem_of_getElem? (i := 0) rfl) rfl _ _ rfl rfl
                  have e116 := Wi.getq hu
                  refine ⟨rfl, Wi.goes_value (v := .tuple #[.agg #[.int .i64 (S : Nat), .int .i64 (H : Nat), .int .i64 ((T + X : Nat) : Int)], u, .int .i64 er]) ?_ ⟨u, rfl, ho1, hf1⟩⟩
                  simp [go_sem, e116]
                refine ⟨?_, ?_⟩
                · intro hp A w1 hb ho hd
                  clear hp
                  obtain ⟨u, hu, ho1, hf1⟩ := hd _ (Array.mem_of_getElem? (i := 0) rfl) rfl _ _ rfl rfl
                  have e110 := Wi.getq hu
                  refine ⟨rfl, Wi.goes_value (v := .agg #[.int .i64 (S : Nat), .int .i64 (H : Nat), .int .i64 ((T + X : Nat) : Int)]) ?_ rfl⟩
                  simp [go_sem, e110]
                refine ⟨?_, ?_⟩
                · intro hp A w1 hb ho hd
                  clear hp
                  obtain ⟨u, hu, ho1, hf1⟩ := hd _ (Array.mem_of_getElem? (i := 0) rfl) rfl _ _ rfl rfl
                  have e110 := Wi.getq hu
                  refine ⟨rfl, Wi.goes_value (v := u) ?_ ⟨ho1, hf1⟩⟩
                  simp [go_sem, e110]
                refine ⟨?_, ?_⟩
                · intro hp A w1 hb ho hd
                  clear hp
                  obtain ⟨u, hu, ho1, hf1⟩ := hd _ (Array.mem_of_getElem? (i := 0) rfl) rfl _ _ rfl rfl
                  have e110 := Wi.getq hu
                  refine ⟨rfl, Wi.goes_value (v := .int .i64 er) ?_ rfl⟩
                  simp [go_sem, e110]
                refine ⟨?_, ?_⟩
                · intro hp A w1 hb ho hd
                  clear hp
                  refine ⟨rfl, Wi.goes_alloc (v := .pointer (some ⟨w1.heap.size, 0, none⟩)) (o := .cells #[.int .i64 0, .int .i64 0, .int .i64 0] 23) ?_ ⟨_, rfl, hb.size, heap_alloc_new _ _⟩⟩
                  simp [go_sem]
                refine ⟨?_, ?_⟩
                · exact fun hp => absurd hp (by decide)
                refine ⟨?_, ?_⟩
                · intro hp A w1 hb ho hd
                  have hx := hd _ (Array.mem_of_getElem? (i := 0) rfl) rfl _ _ rfl rfl
                  refine ⟨rfl, Wi.goes_value (v := A.tmps.getD 118 undef) ?_ hx⟩
                  simp [go_sem]
                refine ⟨?_, ?_⟩
                · intro hp A w1 hb ho hd
                  clear hp
                  have e119 : A.tmps[119]?.getD undef = .int .i64 er := Wi.getq (hd _ (Array.mem_of_getElem? (i := 0) rfl) rfl _ _ rfl rfl)
                  refine ⟨rfl, Wi.goes_value (v := .int .i64 er) ?_ rfl⟩
                  simp [go_sem, e119]
                trivial
              · refine ⟨?_, ?_⟩
                · exact not_needed (by kernel_rfl)
                refine ⟨?_, ?_⟩
                · exact not_needed (by kernel_rfl)
                refine ⟨?_, ?_⟩
                · exact not_needed (by kernel_rfl)
                refine ⟨?_, ?_⟩
                · exact not_needed (by kernel_rfl)
                refine ⟨?_, ?_⟩
                · exact not_needed (by kernel_rfl)
                refine ⟨?_, ?_⟩
                · exact not_needed (by kernel_rfl)
                refine ⟨?_, ?_⟩
                · exact not_needed (by kernel_rfl)
                refine ⟨?_, ?_⟩
                · exact not_needed (by kernel_rfl)
                refine ⟨?_, ?_⟩
                · intro hp A w1 hb ho hd
                  clear hp
                  obtain ⟨u, hu, ho1, hf1⟩ := hd _ (Array.mem_of_getElem? (i := 0) rfl) rfl _ _ rfl rfl
                  have e110 := Wi.getq hu
                  refine ⟨rfl, Wi.goes_value (v := u) ?_ ⟨ho1, hf1⟩⟩
                  simp [go_sem, e110]
                refine ⟨?_, ?_⟩
                · intro hp A w1 hb ho hd
                  clear hp
                  obtain ⟨u, hu, ho1, hf1⟩ := hd _ (Array.mem_of_getElem? (i := 0) rfl) rfl _ _ rfl rfl
                  have e110 := Wi.getq hu
                  refine ⟨rfl, Wi.goes_value (v := .int .i64 er) ?_ rfl⟩
                  simp [go_sem, e110]
                refine ⟨?_, ?_⟩
                · exact not_needed (by kernel_rfl)
                refine ⟨?_, ?_⟩
                · exact not_needed (by kernel_rfl)
                refine ⟨?_, ?_⟩
                · intro hp A w1 hb ho hd
                  have hx := hd _ (Array.mem_of_getElem? (i := 0) rfl) rfl _ _ rfl rfl
                  refine ⟨rfl, Wi.goes_value (v := A.tmps.getD 118 undef) ?_ hx⟩
                  simp [go_sem]
                refine ⟨?_, ?_⟩
                · intro hp A w1 hb ho hd
                  clear hp
                  have e119 : A.tmps[119]?.getD undef = .int .i64 er := Wi.getq (hd _ (Array.mem_of_getElem? (i := 0) rfl) rfl _ _ rfl rfl)
                  refine ⟨rfl, Wi.goes_value (v := .int .i64 er) ?_ rfl⟩
                  simp [go_sem, e119]
                trivial
              · intro A w1 hb ho hd
                obtain ⟨b, hbv, hbB, hblk⟩ := hd _ (Array.mem_of_getElem? (i := 0) rfl) rfl _ _ rfl rfl
                obtain ⟨w2, hr2, hb2, hR2, hO2⟩ := ring_store hbB hb hblk (S : Nat) (H : Nat) ((T + X : Nat) : Int) (A := A) (x := .tmp 16) (y := .tmp 117) hbv (hd _ (Array.mem_of_getElem? (i := 1) rfl) rfl _ _ rfl rfl)
                refine ⟨w2, hr2 _ rfl, hb2, fun j o d hj hdj hs => ?_⟩
                rcases j with _ | _ | _ | _ | _ | _ | _ | _ | _ | _ | _ | _ | _ | _ | j
                all_goals (first | exact hs | skip)
                · obtain ⟨u, h1, h2, h3⟩ := hs
                  exact ⟨u, h1, hO2 _ _ h2, h3⟩
                · obtain ⟨u, h1, h2, h3⟩ := hs
                  exact ⟨u, h1, hO2 _ _ h2, h3⟩
                · exact ⟨hO2 _ _ hs.1, hs.2⟩
                · have hj2 := Option.some.inj hj
                  subst hj2
                  cases hdj
                  exact ⟨b, hbv, hbB, hR2⟩
                · exact ⟨hO2 _ _ hs.1, hs.2⟩
              · intro A w9 hb9 hdf hsz hol hft
                have m111 : A.tmps.getD 111 undef = .agg #[.int .i64 (S : Nat), .int .i64 (H : Nat), .int .i64 (T : Nat)] := hft 0 _ 111 rfl rfl
                have m112 : A.tmps.getD 112 undef = .slice (some ⟨ga, off, none⟩) n cap := hft 1 _ 112 rfl rfl
                have m113 : A.tmps.getD 113 undef = .int .i64 (k : Nat) := hft 2 _ 113 rfl rfl
                have m114 : A.tmps.getD 114 undef = .pointer (some ⟨ga, off + k, none⟩) := hft 3 _ 114 rfl rfl
                have m115 : A.tmps.getD 115 undef = .int .i64 x := hft 4 _ 115 rfl rfl
                have m117 : A.tmps.getD 117 undef = .agg #[.int .i64 (S : Nat), .int .i64 (H : Nat), .int .i64 ((T + X : Nat) : Int)] := hft 7 _ 117 rfl rfl
                have m119 : A.tmps.getD 119 undef = .int .i64 er := hft 9 _ 119 rfl rfl
                have m18 : A.tmps.getD 18 undef = .int .i64 er := hft 13 _ 18 rfl rfl
                obtain ⟨b, m16, hbB, hR9⟩ := hft 10 _ 16 rfl rfl
                have hO9 : Own w9 (A.tmps.getD 17 undef) (secL S T X) ∧ From wr.heap.size (A.tmps.getD 17 undef) := hft 12 _ 17 rfl rfl
                rename_i KK hKK
                refine hKK _ _ ?_
                show Code.wp _ _ _ A w9
                rw [Wi.frame_puts hdf hsz hol]
                simp only [List.foldl_cons, List.foldl_nil, Act.put, Option.getD_some, m111, m112, m113, m114, m115, m117, m119, m18, m16, List.setIfInBounds_toArray, List.set_cons_succ, List.set_cons_zero]
                generalize A.tmps.getD 17 undef = v2 at *
                generalize A.tmps.getD 116 undef = z1 at *
                generalize A.tmps.getD 110 undef = z2 at *
                generalize A.tmps.getD 118 undef = z3 at *
                clear m111 m112 m113 m114 m115 m117 m119 m18 m16 hft hol hsz hdf hKK
                have HB9 := hide (HKB.out.trans (hb9.mono HKB.out.size))
                have hgb := lt_of_block HK.out.box
                have hblk : w9.heap[g]? = _ := (hb9.block g hgb).trans HK.out.box
                have hfz := fun j => frozen_of_row w9 g j _ _ hblk
                obtain ⟨c0, c1, c2, _⟩ := Rc.of_blk hblk
                obtain ⟨r0, r1, r2, _⟩ := hR9
                have hne : ¬ b = g := by omega
                obtain ⟨hkp, hblk2⟩ := put3 hblk (.int .i64 (S : Nat)) (.int .i64 (H : Nat)) (.int .i64 ((T : Int) + (X : Int)))
                have HBK := hide hblk2
                have HB10 := hide (HB9.out.trans (hkp.below HB9.out.size fun k hk e => by have := HG.out; omega))
                have HR10 := hide ((HK.out.row.later hb9).keep hkp fun i hi e => by have := HK.out.fr i hi; omega)
                have HO10 := hide (hO9.1.keep hkp fun i hi e => by have := hO9.2 i hi; omega)
                have HAP : Hid (∀ i, v2.ownBlock = some i → ¬ u7.ownBlock = some i) := fun i hi e => by have := hO9.2 i hi; have := HK.out.row.lt i e; omega
                have HMAY := hide HK.out.may
                have HFR := hide HK.out.fr
                rcases her with rfl | her
                · clear hblk hblk2 hkp hO9 hgb HK
                  go_wp2
                  generalize (((w9.setCell ⟨g, 0, none⟩ (.int .i64 (S : Nat))).setCell ⟨g, 1, none⟩ (.int .i64 (H : Nat))).setCell ⟨g, 2, none⟩ (.int .i64 ((T : Int) + (X : Int)))) = w10 at *
                  clear hfz c0 c1 c2 r0 r1 r2 hne
                  obtain ⟨a2, cp2, rfl⟩ := own_form' HO10.out
                  generalize u7 = V0 at *
                  have HP : Hid (∀ (k : Nat) (x : Int × Int), (secL S T X)[k]? = some x → _) := fun k x h => sec_posn (s := S) (p := T) (n := X) (k := k) (x := x) (by have := HS.out; omega) (by have := HXX.out; have := HMAY.out; omega) h
                  have HCL : Hid (∀ w', Wi.Keep (fun j => V0.ownBlock = some j) w10 w' → ∀ (k : Nat) (x : Int × Int), (secL S T X)[k]? = some x → ∃ g2, a2 = some ⟨g2, 0, none⟩ ∧ g2 < w'.heap.size ∧ w'.cell? ⟨g2, k * 2, none⟩ = some (.int .i64 x.1) ∧ w'.cell? ⟨g2, k * 2 + 1, none⟩ = some (.int .i64 x.2)) := fun w' hk => own_cells (HO10.out.keep hk HAP.out)
                  have HT0 := hide (TK.start HR10.out)
                  obtain ⟨NL, hNL⟩ : ∃ NL, NL = (secL S T X).length := ⟨_, rfl⟩
                  have HNL := hide hNL
                  have hNLs : NL ≤ 2 := by rw [hNL]; exact sec_len S T X
                  rw [← hNL]
                  clear hNL
                  go_loopw [7, 19] (fun v i wr2 => ∃ kk : Nat, kk ≤ NL ∧ i = .int .i64 kk ∧ Hid (TK w10 V0 S (T + cN (secL S T X) kk) v (H - T - cN (secL S T X) kk) wr2)) (fun _ i _ => NL - (intOf i).toNat)
                  case atStart => exact ⟨0, Nat.zero_le _, rfl, by rw [cN_zero]; exact HT0.out⟩
                  case round =>
                    obtain ⟨kk, hkk, rfl, HTK⟩ := hrel
                    by_cases hlt2 : kk < NL
                    · obtain ⟨x2, hx2⟩ : ∃ x2, (secL S T X)[kk]? = some x2 := ⟨_, List.getElem?_eq_getElem (by rw [← HNL.out]; exact hlt2)⟩
                      obtain ⟨A0, L0, rfl, hL1, hAL, hcn, hcs, hat⟩ := HP.out kk _ hx2
                      have HCX : Hid (∀ w', Wi.Keep (fun j => V0.ownBlock = some j) w10 w' → ∃ g2, a2 = some ⟨g2, 0, none⟩ ∧ g2 < w'.heap.size ∧ w'.cell? ⟨g2, kk * 2, none⟩ = some (.int .i64 (A0 : Nat)) ∧ w'.cell? ⟨g2, kk * 2 + 1, none⟩ = some (.int .i64 (L0 : Nat))) := fun w' hk => HCL.out w' hk kk _ hx2
                      obtain ⟨g2, rfl, hg2, q0, q1⟩ := HCX.out _ HTK.out.keep
                      have HAT := hide hat
                      have HCN2 := hide hcn
                      have HCS := hide hcs
                      clear hx2 hcn hcs hat hg2
                      have h17 : A0 + L0 ≤ 300 := by have := HS.out; omega
                      go_wp2
                      go_loopw [7, 20] (fun v i wr3 => ∃ jj : Nat, jj ≤ L0 ∧ i = .int .i64 jj ∧ Hid (TK w10 V0 S (T + cN (secL S T X) kk + jj) v (H - T - cN (secL S T X) kk - jj) wr3)) (fun _ i _ => L0 - (intOf i).toNat)
                      case atStart => exact ⟨0, Nat.zero_le _, rfl, HTK.out⟩
                      case round =>
                        clear q0 q1 HTK
                        obtain ⟨jj, hjj, rfl, HTJ⟩ := hrel
                        obtain ⟨g3, hg3, hgq, q0, q1⟩ := HCX.out _ HTJ.out.keep
                        cases hg3
                        by_cases hlt3 : jj < L0
                        · have HNE := hide (show L0 ≤ H - T - cN (secL S T X) kk by have := HCN2.out; have := HXX.out; omega)
                          obtain ⟨M, hM⟩ : ∃ M, M + 1 = H - T - cN (secL S T X) kk - jj := ⟨H - T - cN (secL S T X) kk - jj - 1, by have := HNE.out; omega⟩
                          have HM1 : Hid (M = H - T - cN (secL S T X) kk - (jj + 1)) := by show _ = _; omega
                          rw [← hM] at HTJ
                          have HM3 : Hid (M ≤ 300) := by show _ ≤ _; have := HS.out; have := HMAY.out; omega
                          have hM3 : M ≤ 300 := HM3.out
                          have hwa : IntKind.i64.wrap ((A0 : Int) + (jj : Int)) = (A0 : Int) + (jj : Int) := by rw [IntKind.wrap_i64]; omega
                          obtain ⟨g4, off4, cap4, hv4, hg4, hc4, _⟩ := HTJ.out.row.pos (by omega)
                          subst hv4
                          have hcell := (HTJ.out.row.cell (j := 0) (tkV_get (by omega))).1
                          rw [show (((T + cN (secL S T X) kk + jj + 0) % S : Nat) : Int) = (A0 : Int) + (jj : Int) by have := HAT.out jj hlt3; rw [Nat.add_zero]; omega, Nat.add_zero] at hcell
                          obtain ⟨a3, ha3⟩ : ∃ a3, a3 = (if cap4 = 1 then some (⟨g4, off4, none⟩ : Addr) else (some (⟨g4, off4, none⟩ : Addr)).map (·.add (1 * 1))) := ⟨_, rfl⟩
                          have hsl : ∀ w, (Instr.slice 41 (.slice (some ⟨g4, off4, none⟩) (M + 1) cap4) (some (.int .i64 1)) none none).run Try.prog w = .ok (.slice a3 M (cap4 - 1)) w := fun w => by
                            have b3 : ¬ (M : Int) + 1 < 1 := by omega
                            simp [Instr.slice, Instr.sliceBounds, Instr.sliceBound, run_underlying Try.underlying41, asIntOf, b3, ha3]
                          have HPOP := hide HTJ.out.pop
                          rw [← ha3] at HPOP
                          have HE0 : ∀ P : Later wr, _ := fun P => (P.below.cell (p := ⟨g4, off4, none⟩) hg4).trans hcell
                          have HE1 : ∀ P : Later wr, _ := fun P => (P.below.cell (p := ⟨g2, kk * 2, none⟩) hgq).trans q0
                          have hne := later_ne wr
                          have hd6 : (((M : Int) + 1) == 0) = false := by simpa using (show ¬ ((M : Int) + 1) = 0 by omega)
                          have hd7 : decide (((M : Int) + 1) = 0) = false := decide_eq_false (by omega)
                          have hd8 : decide (((M + 1 : Nat) : Int) = 0) = false := decide_eq_false (by omega)
                          have hn6 : ¬ ((M : Int) + 1) = 0 := by omega
                          clear hM hcell ha3
                          go_wp2
                          refine wp_region_later (by kernel_rfl) (by kernel_rfl) ?_
                          (repeat (first | go_big_quiet_skip | (go_big_quiet_want; go_big_quiet_op; go_big_quiet_on)))
                          refine wpQuiet_nil ?_
                          rintro _ ⟨p, rfl⟩
                          have HF : Hid (TK w10 V0 S (T + cN (secL S T X) kk + (jj + 1)) (.slice a3 M (cap4 - 1)) (H - T - cN (secL S T X) kk - (jj + 1)) p.val) := by
                            show TK _ _ _ _ _ _ _
                            rw [← HM1.out]
                            exact HPOP.out.later p.below
                          clear HE0 HE1 hne q0 q1
                          generalize p.val = w5 at *
                          go_wp2
                          go_roundw
                          case rel => first | exact ⟨jj + 1, by omega, by go_num, HF.out⟩ | exact ⟨_, _, _, ⟨jj + 1, by omega, by go_num, HF.out⟩, rfl, rfl, rfl⟩
                          case measure => simp [intOf]; omega
                        · have hje : jj = L0 := by omega
                          have HF : Hid (TK w10 V0 S (T + cN (secL S T X) (kk + 1)) u7 (H - T - cN (secL S T X) (kk + 1)) wr) := by
                            show TK _ _ _ _ _ _ _
                            rw [HCS.out, ← Nat.add_assoc, ← Nat.sub_sub, ← hje]
                            exact HTJ.out
                          clear hje
                          go_wp2
                          go_roundw
                          case rel => first | exact ⟨kk + 1, by omega, by go_num, HF.out⟩ | exact ⟨_, _, _, ⟨kk + 1, by omega, by go_num, HF.out⟩, rfl, rfl, rfl⟩
                          case measure => simp [intOf]; omega
                    · obtain ⟨m, hm⟩ : ∃ m, m = H - (T + X) := ⟨_, rfl⟩
                      have HBF : Hid (BK W g S (k + 1) H (T + X) u7 wr) := by
                        have hmy := HMAY.out
                        have hxx := HXX.out
                        have hss := HS.out
                        have h1 : cN (secL S T X) kk = X := cN_all hss.1 (by omega) (by have := HNL.out; omega)
                        have h2 := HTK.out
                        rw [h1] at h2
                        exact TK.bk2 h2 ⟨by omega, by omega⟩ ⟨by omega, by omega, by omega⟩ HFR.out (by omega) HBK.out HB10.out HG.out
                      have hmS : m ≤ S := by have := HBF.out.may; omega
                      have hrc := Rc.of_blk HBF.out.box
                      have HE0 : ∀ P : Later wr, _ := fun P => (P.below.cell (p := ⟨g, 0, none⟩) hrc.lt).trans hrc.c0
                      have HE1 : ∀ P : Later wr, _ := fun P => (P.below.cell (p := ⟨g, 1, none⟩) hrc.lt).trans hrc.c1
                      have HE2 : ∀ P : Later wr, _ := fun P => (P.below.cell (p := ⟨g, 2, none⟩) hrc.lt).trans hrc.c2
                      have hne := later_ne wr
                      obtain ⟨TT, hHH⟩ : ∃ TT : Int, TT = ((T + X : Nat) : Int) := ⟨_, rfl⟩
                      rw [← hHH] at HE2
                      have hmr : mayR S H TT = true := decide_eq_true (by have := HBF.out.may; have := HS.out; have := HXX.out; have hk60 := hlt; omega)
                      have CU : ∀ P : Later wr, _ := fun P => used_any S H TT ⟨by omega, by have := of_decide_eq_true hmr; omega⟩ ⟨by omega, by have := of_decide_eq_true hmr; omega⟩ P.val
                      have CF : ∀ P : Later wr, _ := fun P => free_any S H TT ⟨by omega, by have := of_decide_eq_true hmr; omega⟩ ⟨by omega, by have := of_decide_eq_true hmr; omega⟩ P.val
                      obtain ⟨F, hF⟩ : ∃ F : Int, F = (S : Int) - (m : Int) := ⟨_, rfl⟩
                      have hwF : IntKind.i64.wrap ((m : Int) + F) = (S : Int) := by rw [IntKind.wrap_i64]; have := HS.out; omega
                      rw [show usedR S H TT = (m : Int) by unfold usedR; rw [if_pos hmr]; have := HBF.out.may; omega] at CU
                      rw [show freeR S H TT = F by unfold freeR; rw [if_pos hmr]; have := HBF.out.may; omega] at CF
                      have hdm : decide ((S : Int) < (m : Int)) = false := decide_eq_false (by omega)
                      obtain ⟨va, vc, hv⟩ := HBF.out.row.form
                      rw [← hm] at hv
                      subst hv
                      clear hF hHH hmr hm hrc HTK
                      go_wp2
                      refine wp_region_later (by kernel_rfl) (by kernel_rfl) ?_
                      (repeat (first | go_big_quiet_skip | (go_big_quiet_want; go_big_quiet_op; go_big_quiet_on)))
                      (go_big_quiet_want; go_big_quiet_op; apply Exists.intro; refine ⟨fun p => ?_, ?_⟩; (· exact later_of (CU p)); go_big_quiet_on)
                      (repeat (first | go_big_quiet_skip | (go_big_quiet_want; go_big_quiet_op; go_big_quiet_on)))
                      (go_big_quiet_want; go_big_quiet_op; apply Exists.intro; refine ⟨fun p => ?_, ?_⟩; (· exact later_of (CU p)); go_big_quiet_on)
                      (repeat (first | go_big_quiet_skip | (go_big_quiet_want; go_big_quiet_op; go_big_quiet_on)))
                      (go_big_quiet_want; go_big_quiet_op; apply Exists.intro; refine ⟨fun p => ?_, ?_⟩; (· exact later_of (CF p)); go_big_quiet_on)
                      (repeat (first | go_big_quiet_skip | (go_big_quiet_want; go_big_quiet_op; go_big_quiet_on)))
                      refine wpQuiet_nil ?_
                      rintro _ ⟨p, rfl⟩
                      have HBF2 := hide (HBF.out.later p.below)
                      clear HE0 HE1 HE2 hne CU CF
                      generalize p.val = w11 at *
                      have hn60 : n ≤ 60 := HS.out.2.2
                      go_wp2
                      go_roundw
                      case rel => first | exact ⟨k + 1, H, T + X, by omega, by go_num, HBF2.out⟩ | exact ⟨_, _, _, ⟨k + 1, H, T + X, by omega, by go_num, HBF2.out⟩, rfl, rfl, rfl⟩
                      case measure => simp [intOf]; omega
                · have HX0 := hide her.2
                  have hbne : (er != 0) = true := by simpa using her.1
                  clear hblk hblk2 hkp hO9 hgb HK
                  obtain ⟨a2, cp2, rfl⟩ := own_form' HO10.out
                  rw [show (secL S T X).length = 0 by rw [her.2, sec_zero]; rfl]
                  clear her
                  go_wp2
                  generalize (((w9.setCell ⟨g, 0, none⟩ (.int .i64 (S : Nat))).setCell ⟨g, 1, none⟩ (.int .i64 (H : Nat))).setCell ⟨g, 2, none⟩ (.int .i64 ((T : Int) + (X : Int)))) = w10 at *
                  clear hfz c0 c1 c2 r0 r1 r2 hne
                  have HT0 := hide (TK.start HR10.out)
                  generalize u7 = V0 at *
                  go_loopw [7, 19] (fun v i wr2 => i = .int .i64 0 ∧ Hid (TK w10 V0 S T v (H - T) wr2)) (fun _ _ _ => 0)
                  case atStart => exact ⟨rfl, HT0.out⟩
                  case round =>
                    obtain ⟨rfl, HTK⟩ := hrel
                    obtain ⟨m, hm⟩ : ∃ m, m = H - (T + X) := ⟨_, rfl⟩
                    have HBF : Hid (BK W g S (k + 1) H (T + X) u7 wr) := by
                      have hmy := HMAY.out
                      have hxx := HXX.out
                      have hss := HS.out
                      have h1 := HX0.out
                      have h2 := HTK.out
                      exact TK.bk2 h2 ⟨by omega, by omega⟩ ⟨by omega, by omega, by omega⟩ HFR.out (by omega) HBK.out HB10.out HG.out
                    have hmS : m ≤ S := by have := HBF.out.may; omega
                    have hrc := Rc.of_blk HBF.out.box
                    have HE0 : ∀ P : Later wr, _ := fun P => (P.below.cell (p := ⟨g, 0, none⟩) hrc.lt).trans hrc.c0
                    have HE1 : ∀ P : Later wr, _ := fun P => (P.below.cell (p := ⟨g, 1, none⟩) hrc.lt).trans hrc.c1
                    have HE2 : ∀ P : Later wr, _ := fun P => (P.below.cell (p := ⟨g, 2, none⟩) hrc.lt).trans hrc.c2
                    have hne := later_ne wr
                    obtain ⟨TT, hHH⟩ : ∃ TT : Int, TT = ((T + X : Nat) : Int) := ⟨_, rfl⟩
                    rw [← hHH] at HE2
                    have hmr : mayR S H TT = true := decide_eq_true (by have := HBF.out.may; have := HS.out; have := HXX.out; have hk60 := hlt; omega)
                    have CU : ∀ P : Later wr, _ := fun P => used_any S H TT ⟨by omega, by have := of_decide_eq_true hmr; omega⟩ ⟨by omega, by have := of_decide_eq_true hmr; omega⟩ P.val
                    have CF : ∀ P : Later wr, _ := fun P => free_any S H TT ⟨by omega, by have := of_decide_eq_true hmr; omega⟩ ⟨by omega, by have := of_decide_eq_true hmr; omega⟩ P.val
                    obtain ⟨F, hF⟩ : ∃ F : Int, F = (S : Int) - (m : Int) := ⟨_, rfl⟩
                    have hwF : IntKind.i64.wrap ((m : Int) + F) = (S : Int) := by rw [IntKind.wrap_i64]; have := HS.out; omega
                    rw [show usedR S H TT = (m : Int) by unfold usedR; rw [if_pos hmr]; have := HBF.out.may; omega] at CU
                    rw [show freeR S H TT = F by unfold freeR; rw [if_pos hmr]; have := HBF.out.may; omega] at CF
                    have hdm : decide ((S : Int) < (m : Int)) = false := decide_eq_false (by omega)
                    obtain ⟨va, vc, hv⟩ := HBF.out.row.form
                    rw [← hm] at hv
                    subst hv
                    clear hF hHH hmr hm hrc HTK
                    go_wp2
                    refine wp_region_later (by kernel_rfl) (by kernel_rfl) ?_
                    (repeat (first | go_big_quiet_skip | (go_big_quiet_want; go_big_quiet_op; go_big_quiet_on)))
                    (go_big_quiet_want; go_big_quiet_op; apply Exists.intro; refine ⟨fun p => ?_, ?_⟩; (· exact later_of (CU p)); go_big_quiet_on)
                    (repeat (first | go_big_quiet_skip | (go_big_quiet_want; go_big_quiet_op; go_big_quiet_on)))
                    (go_big_quiet_want; go_big_quiet_op; apply Exists.intro; refine ⟨fun p => ?_, ?_⟩; (· exact later_of (CU p)); go_big_quiet_on)
                    (repeat (first | go_big_quiet_skip | (go_big_quiet_want; go_big_quiet_op; go_big_quiet_on)))
                    (go_big_quiet_want; go_big_quiet_op; apply Exists.intro; refine ⟨fun p => ?_, ?_⟩; (· exact later_of (CF p)); go_big_quiet_on)
                    (repeat (first | go_big_quiet_skip | (go_big_quiet_want; go_big_quiet_op; go_big_quiet_on)))
                    refine wpQuiet_nil ?_
                    rintro _ ⟨p, rfl⟩
                    have HBF2 := hide (HBF.out.later p.below)
                    clear HE0 HE1 HE2 hne CU CF
                    generalize p.val = w11 at *
                    have hn60 : n ≤ 60 := HS.out.2.2
                    go_wp2
                    go_roundw
                    case rel => first | exact ⟨k + 1, H, T + X, by omega, by go_num, HBF2.out⟩ | exact ⟨_, _, _, ⟨k + 1, H, T + X, by omega, by go_num, HBF2.out⟩, rfl, rfl, rfl⟩
                    case measure => simp [intOf]; omega
                
          · have hmy := HK.out.may
            have hss := HS.out
            obtain ⟨U, hU⟩ : ∃ U, U = H - T := ⟨_, rfl⟩
            have hm : mayR S H T = true := decide_eq_true (by omega)
            have HATC : Hid (∀ w' : World, _) := fun w' => at_ok S H T T U hm (by omega) (by omega) w'
            have HUS : Hid (∀ w' : World, _) := fun w' => used_any S H T ⟨by omega, by omega⟩ ⟨by omega, by omega⟩ w'
            have HH1 : Hid (∀ w' : World, _) := fun w' => holds_any S H T T U ⟨by omega, by omega⟩ ⟨by omega, by omega⟩ ⟨by omega, by omega⟩ ⟨by omega, by omega⟩ w'
            have HH2 : Hid (∀ w' : World, _) := fun w' => holds_any S H T T ((U : Int) + 1) ⟨by omega, by omega⟩ ⟨by omega, by omega⟩ ⟨by omega, by omega⟩ ⟨by omega, by omega⟩ w'
            rw [show usedR S H T = (U : Int) by unfold usedR; rw [if_pos hm]; omega] at HUS
            rw [show holdsB S H T T U = true by unfold holdsB; rw [hm, Bool.true_and]; exact decide_eq_true (by omega)] at HH1
            rw [show holdsB S H T T ((U : Int) + 1) = false by unfold holdsB; rw [hm, Bool.true_and]; exact decide_eq_false (by omega)] at HH2
            have HKB := hide HK.out.below
            have HBX : Hid (∀ w', Below wr.heap.size wr w' → Rc w' g S H T) := fun w' hb => (Rc.of_blk HK.out.box).later hb
            have HROW := hide HK.out.row
            rw [← hU] at HROW
            have HUL : Hid (U ≤ S) := by show _ ≤ _; omega
            clear hm hmy hU
            go_wp2_with fail
            refine Wi.wp_region_specs [.val (.agg #[.int .i64 (S : Nat), .int .i64 (H : Nat), .int .i64 (T : Nat)]), .val (.pointer (some ⟨g, 2, none⟩)), .val (.int .i64 (T : Nat)), .val (.agg #[.int .i64 (S : Nat), .int .i64 (H : Nat), .int .i64 (T : Nat)]), .val (.int .i64 (U : Nat)), tup2S wr.heap.size (secL S T U), tup2S wr.heap.size (secL S T U), ownS wr.heap.size (secL S T U), .val (.int .i64 0), ownS wr.heap.size (secL S T U), .val (.int .i64 0)] (by kernel_rfl) (by kernel_rfl) ?_ ?_
            · refine ⟨?_, ?_⟩
              · intro A w1 hb ho hd
                have e5 : A.tmps[5]?.getD undef = .pointer (some ⟨g, 0, none⟩) := Wi.olds_get ho 5 (by kernel_rfl)
                obtain ⟨y0, y1, y2, _⟩ := HBX.out w1 hb
                refine ⟨rfl, Wi.goes_value (v := .agg #[.int .i64 (S : Nat), .int .i64 (H : Nat), .int .i64 (T : Nat)]) ?_ rfl⟩
                simp [go_sem, e5, y0, y1, y2]
              refine ⟨?_, ?_⟩
              · intro A w1 hb ho hd
                have e5 : A.tmps[5]?.getD undef = .pointer (some ⟨g, 0, none⟩) := Wi.olds_get ho 5 (by kernel_rfl)
                refine ⟨rfl, Wi.goes_value (v := .pointer (some ⟨g, 2, none⟩)) ?_ rfl⟩
                simp [go_sem, e5]
              refine ⟨?_, ?_⟩
              · intro A w1 hb ho hd
                have e183 : A.tmps[183]?.getD undef = .pointer (some ⟨g, 2, none⟩) := Wi.getq (hd _ (Array.mem_of_getElem? (i := 0) rfl) rfl _ _ rfl rfl)
                obtain ⟨y0, y1, y2, _⟩ := HBX.out w1 hb
                refine ⟨rfl, Wi.goes_value (v := .int .i64 (T : Nat)) ?_ rfl⟩
                simp [go_sem, e183, y2]
              refine ⟨?_, ?_⟩
              · intro A w1 hb ho hd
                have e5 : A.tmps[5]?.getD undef = .pointer (some ⟨g, 0, none⟩) := Wi.olds_get ho 5 (by kernel_rfl)
                obtain ⟨y0, y1, y2, _⟩ := HBX.out w1 hb
                refine ⟨rfl, Wi.goes_value (v := .agg #[.int .i64 (S : Nat), .int .i64 (H : Nat), .int .i64 (T : Nat)]) ?_ rfl⟩
                simp [go_sem, e5, y0, y1, y2]
              refine ⟨?_, ?_⟩
              · intro A w1 hb ho hd
                have e185 : A.tmps[185]?.getD undef = .agg #[.int .i64 (S : Nat), .int .i64 (H : Nat), .int .i64 (T : Nat)] := Wi.getq (hd _ (Array.mem_of_getElem? (i := 0) rfl) rfl _ _ rfl rfl)
                refine ⟨rfl, Wi.goes_call (f := 12) (args := #[.agg #[.int .i64 (S : Nat), .int .i64 (H : Nat), .int .i64 (T : Nat)]]) ?_ (HUS.out w1)⟩
                simp [go_sem, e185]
              refine ⟨?_, ?_⟩
              · intro A w1 hb ho hd
                have e182 : A.tmps[182]?.getD undef = .agg #[.int .i64 (S : Nat), .int .i64 (H : Nat), .int .i64 (T : Nat)] := Wi.getq (hd _ (Array.mem_of_getElem? (i := 0) rfl) rfl _ _ rfl rfl)
                have e184 : A.tmps[184]?.getD undef = .int .i64 (T : Nat) := Wi.getq (hd _ (Array.mem_of_getElem? (i := 1) rfl) rfl _ _ rfl rfl)
                have e186 : A.tmps[186]?.getD undef = .int .i64 (U : Nat) := Wi.getq (hd _ (Array.mem_of_getElem? (i := 2) rfl) rfl _ _ rfl rfl)
                refine ⟨rfl, goes_pred (f := 10) (args := #[.agg #[.int .i64 (S : Nat), .int .i64 (H : Nat), .int .i64 (T : Nat)], .int .i64 (T : Nat), .int .i64 (U : Nat)]) ?_ ((HATC.out w1).mono fun e w2 ⟨v, he, h1, h2, h3⟩ => ⟨_, he, ⟨v, rfl, h1, fun i hi => Nat.le_trans hb.size (h2 i hi)⟩, h3⟩)⟩
                simp [go_sem, e182, e184, e186]
              refine ⟨?_, ?_⟩
              · intro A w1 hb ho hd
                obtain ⟨u, hu, ho1, hf1⟩ := hd _ (Array.mem_of_getElem? (i := 0) rfl) rfl _ _ rfl rfl
                have e187 := Wi.getq hu
                refine ⟨rfl, Wi.goes_value (v := .tuple #[u, .int .i64 0]) ?_ ⟨u, rfl, ho1, hf1⟩⟩
                simp [go_sem, e187]
              refine ⟨?_, ?_⟩
              · intro A w1 hb ho hd
                obtain ⟨u, hu, ho1, hf1⟩ := hd _ (Array.mem_of_getElem? (i := 0) rfl) rfl _ _ rfl rfl
                have e181 := Wi.getq hu
                refine ⟨rfl, Wi.goes_value (v := u) ?_ ⟨ho1, hf1⟩⟩
                simp [go_sem, e181]
              refine ⟨?_, ?_⟩
              · intro A w1 hb ho hd
                obtain ⟨u, hu, ho1, hf1⟩ := hd _ (Array.mem_of_getElem? (i := 0) rfl) rfl _ _ rfl rfl
                have e181 := Wi.getq hu
                refine ⟨rfl, Wi.goes_value (v := .int .i64 0) ?_ rfl⟩
                simp [go_sem, e181]
              refine ⟨?_, ?_⟩
              · intro A w1 hb ho hd
                have hx := hd _ (Array.mem_of_getElem? (i := 0) rfl) rfl _ _ rfl rfl
                refine ⟨rfl, Wi.goes_value (v := A.tmps.getD 188 undef) ?_ hx⟩
                simp [go_sem]
              refine ⟨?_, ?_⟩
              · intro A w1 hb ho hd
                have e189 : A.tmps[189]?.getD undef = .int .i64 0 := Wi.getq (hd _ (Array.mem_of_getElem? (i := 0) rfl) rfl _ _ rfl rfl)
                refine ⟨rfl, Wi.goes_value (v := .int .i64 0) ?_ rfl⟩
                simp [go_sem, e189]
              trivial
            intro A w9 hb9 hdf hsz hol hft
            have m182 : A.tmps.getD 182 undef = .agg #[.int .i64 (S : Nat), .int .i64 (H : Nat), .int .i64 (T : Nat)] := hft 0 _ 182 rfl rfl
            have m183 : A.tmps.getD 183 undef = .pointer (some ⟨g, 2, none⟩) := hft 1 _ 183 rfl rfl
            have m184 : A.tmps.getD 184 undef = .int .i64 (T : Nat) := hft 2 _ 184 rfl rfl
            have m185 : A.tmps.getD 185 undef = .agg #[.int .i64 (S : Nat), .int .i64 (H : Nat), .int .i64 (T : Nat)] := hft 3 _ 185 rfl rfl
            have m186 : A.tmps.getD 186 undef = .int .i64 (U : Nat) := hft 4 _ 186 rfl rfl
            have m189 : A.tmps.getD 189 undef = .int .i64 0 := hft 8 _ 189 rfl rfl
            have m22 : A.tmps.getD 22 undef = .int .i64 0 := hft 10 _ 22 rfl rfl
            have hO9 : Own w9 (A.tmps.getD 21 undef) (secL S T U) ∧ From wr.heap.size (A.tmps.getD 21 undef) := hft 9 _ 21 rfl rfl
            rename_i KK hKK
            refine hKK _ _ ?_
            show Code.wp _ _ _ A w9
            rw [Wi.frame_puts hdf hsz hol]
            simp only [List.foldl_cons, List.foldl_nil, Act.put, Option.getD_some, m182, m183, m184, m185, m186, m189, m22, List.setIfInBounds_toArray, List.set_cons_succ, List.set_cons_zero]
            generalize A.tmps.getD 21 undef = v2 at *
            generalize A.tmps.getD 181 undef = z1 at *
            generalize A.tmps.getD 187 undef = z2 at *
            generalize A.tmps.getD 188 undef = z3 at *
            clear m182 m183 m184 m185 m186 m189 m22 hft hol hsz hdf hKK
            obtain ⟨a2, cp2, rfl⟩ := own_form' hO9.1
            have HB9 := hide (HKB.out.trans (hb9.mono HKB.out.size))
            have HBX9 : Hid (∀ w', Below w9.heap.size w9 w' → Rc w' g S H T) := fun w' hb => (HBX.out w9 hb9).later hb
            have HRW9 := hide (HROW.out.later hb9)
            have HP : Hid (∀ (k : Nat) (x : Int × Int), (secL S T U)[k]? = some x → _) := fun k x h => sec_posn (s := S) (p := T) (n := U) (k := k) (x := x) hss.1 HUL.out h
            have HCL : Hid (∀ w', Below w9.heap.size w9 w' → ∀ (k : Nat) (x : Int × Int), (secL S T U)[k]? = some x → ∃ g2, a2 = some ⟨g2, 0, none⟩ ∧ g2 < w'.heap.size ∧ w'.cell? ⟨g2, k * 2, none⟩ = some (.int .i64 x.1) ∧ w'.cell? ⟨g2, k * 2 + 1, none⟩ = some (.int .i64 x.2)) := fun w' hb => own_cells (hO9.1.later hb)
            obtain ⟨va, vc, hv⟩ := HRW9.out.form
            subst hv
            obtain ⟨NL, hNL⟩ : ∃ NL, NL = (secL S T U).length := ⟨_, rfl⟩
            have HNL := hide hNL
            have hNLs : NL ≤ 2 := by rw [hNL]; exact sec_len S T U
            have hU3 : U ≤ 300 := by have := HUL.out; omega
            rw [← hNL]
            clear hNL hO9 hb9
            go_wp2
            go_loopw [23, 24] (fun q' i wr2 => ∃ kk q : Nat, kk ≤ NL ∧ i = .int .i64 kk ∧ q' = .int .i64 q ∧ Hid (q = cN (secL S T U) kk) ∧ Hid (Below w9.heap.size w9 wr2)) (fun _ i _ => NL - (intOf i).toNat)
            case atStart => exact ⟨0, 0, Nat.zero_le _, rfl, rfl, (cN_zero _).symm, Below.refl _ _⟩
            case round =>
              obtain ⟨kk, q, hkk, rfl, rfl, HQ, HW⟩ := hrel
              by_cases hlt2 : kk < NL
              · obtain ⟨x2, hx2⟩ : ∃ x2, (secL S T U)[kk]? = some x2 := ⟨_, List.getElem?_eq_getElem (by rw [← HNL.out]; exact hlt2)⟩
                obtain ⟨A0, L0, rfl, hL1, hAL, hcn, hcs, hat⟩ := HP.out kk _ hx2
                have HCX : Hid (∀ w', Below w9.heap.size w9 w' → ∃ g2, a2 = some ⟨g2, 0, none⟩ ∧ g2 < w'.heap.size ∧ w'.cell? ⟨g2, kk * 2, none⟩ = some (.int .i64 (A0 : Nat)) ∧ w'.cell? ⟨g2, kk * 2 + 1, none⟩ = some (.int .i64 (L0 : Nat))) := fun w' hk => HCL.out w' hk kk _ hx2
                obtain ⟨g2, rfl, hg2, q0, q1⟩ := HCX.out _ HW.out
                have HAT := hide hat
                have HCN2 := hide hcn
                have HCS := hide hcs
                clear hx2 hcn hcs hat hg2
                have h17 : A0 + L0 ≤ 300 := by omega
                go_wp2
                go_loopw [23, 25] (fun q' i wr3 => ∃ jj r : Nat, jj ≤ L0 ∧ i = .int .i64 jj ∧ q' = .int .i64 r ∧ Hid (r = cN (secL S T U) kk + jj) ∧ Hid (Below w9.heap.size w9 wr3)) (fun _ i _ => L0 - (intOf i).toNat)
                case atStart => exact ⟨0, q, Nat.zero_le _, rfl, rfl, HQ.out, HW.out⟩
                case round =>
                  clear q0 q1 HW
                  obtain ⟨jj, r, hjj, rfl, rfl, HR, HW⟩ := hrel
                  obtain ⟨g3, hg3, hgq, q0, q1⟩ := HCX.out _ HW.out
                  cases hg3
                  by_cases hlt3 : jj < L0
                  · have hrU : r < U := by have := HR.out; have := HCN2.out; omega
                    have hwa : IntKind.i64.wrap ((A0 : Int) + (jj : Int)) = (A0 : Int) + (jj : Int) := by rw [IntKind.wrap_i64]; omega
                    have HRWJ := hide (HRW9.out.later HW.out)
                    obtain ⟨g4, off4, cap4, hv4, hg4, hc4, _⟩ := HRWJ.out.pos (by omega)
                    injection hv4 with e1 e2 e3
                    subst e1
                    have hcell := (HRWJ.out.cell (j := r) (tkV_get hrU)).1
                    rw [show (((T + r) % S : Nat) : Int) = (A0 : Int) + (jj : Int) by have := HAT.out jj hlt3; rw [HR.out, ← Nat.add_assoc]; omega] at hcell
                    have HE0 : ∀ P : Later wr, _ := fun P => (P.below.cell (p := ⟨g4, off4 + r, none⟩) hg4).trans hcell
                    have HE1 : ∀ P : Later wr, _ := fun P => (P.below.cell (p := ⟨g2, kk * 2, none⟩) hgq).trans q0
                    have hne := later_ne wr
                    have hd6 : decide ((U : Int) ≤ (r : Int)) = false := decide_eq_false (by omega)
                    have hd7 : decide ((r : Int) ≥ (U : Int)) = false := decide_eq_false (by omega)
                    have hd8 : decide ((r : Int) < (U : Int)) = true := decide_eq_true (by omega)
                    have hd9 : decide (U ≤ r) = false := decide_eq_false (by omega)
                    have hn9 : ¬ U ≤ r := by omega
                    have hn8 : ¬ (U : Int) ≤ (r : Int) := by omega
                    clear hcell e2 e3
                    go_wp2
                    refine wp_region_later (by kernel_rfl) (by kernel_rfl) ?_
                    (repeat (first | go_big_quiet_skip | (go_big_quiet_want; go_big_quiet_op; go_big_quiet_on)))
                    refine wpQuiet_nil ?_
                    rintro _ ⟨p, rfl⟩
                    have HF := hide (HW.out.trans (p.below.mono HW.out.size))
                    have HR2 : Hid (r + 1 = cN (secL S T U) kk + (jj + 1)) := by have := HR.out; show _ = _; omega
                    clear HE0 HE1 hne q0 q1
                    generalize p.val = w5 at *
                    go_wp2
                    go_roundw
                    case rel => first | exact ⟨jj + 1, r + 1, by omega, by go_num, by go_num, HR2.out, HF.out⟩ | exact ⟨_, _, _, ⟨jj + 1, r + 1, by omega, by go_num, by go_num, HR2.out, HF.out⟩, rfl, rfl, rfl⟩
                    case measure => simp [intOf]; omega
                  · have hje : jj = L0 := by omega
                    have HR2 : Hid (r = cN (secL S T U) (kk + 1)) := by
                      show _ = _
                      rw [HCS.out, ← hje]
                      exact HR.out
                    clear hje
                    go_wp2
                    go_roundw
                    case rel => first | exact ⟨kk + 1, r, by omega, by go_num, by go_num, HR2.out, HW.out⟩ | exact ⟨_, _, _, ⟨kk + 1, r, by omega, by go_num, by go_num, HR2.out, HW.out⟩, rfl, rfl, rfl⟩
                    case measure => simp [intOf]; omega
              · obtain rfl : q = U := by
                  have h1 : cN (secL S T U) kk = U := cN_all hss.1 HUL.out (by have := HNL.out; omega)
                  have := HQ.out
                  omega
                have hrc := HBX9.out wr HW.out
                have HE0 : ∀ P : Later wr, _ := fun P => (P.below.cell (p := ⟨g, 0, none⟩) hrc.lt).trans hrc.c0
                have HE1 : ∀ P : Later wr, _ := fun P => (P.below.cell (p := ⟨g, 1, none⟩) hrc.lt).trans hrc.c1
                have HE2 : ∀ P : Later wr, _ := fun P => (P.below.cell (p := ⟨g, 2, none⟩) hrc.lt).trans hrc.c2
                have hne := later_ne wr
                have CU : ∀ P : Later wr, _ := fun P => HUS.out P.val
                have CH : ∀ P : Later wr, _ := fun P => HH1.out P.val
                have CI : ∀ P : Later wr, _ := fun P => HH2.out P.val
                have CA : ∀ P : Later wr, _ := fun P => awake_any P.val
                have hwq : IntKind.i64.wrap ((q : Int) + 1) = (q : Int) + 1 := by rw [IntKind.wrap_i64]; omega
                go_wp2
                refine wp_region_later (by kernel_rfl) (by kernel_rfl) ?_
                (repeat (first | go_big_quiet_skip | (go_big_quiet_want; go_big_quiet_op; go_big_quiet_on)))
                (go_big_quiet_want; go_big_quiet_op; apply Exists.intro; refine ⟨fun p => ?_, ?_⟩; (· exact later_of (CU p)); go_big_quiet_on)
                (repeat (first | go_big_quiet_skip | (go_big_quiet_want; go_big_quiet_op; go_big_quiet_on)))
                (go_big_quiet_want; go_big_quiet_op; apply Exists.intro; refine ⟨fun p => ?_, ?_⟩; (· exact later_of (CH p)); go_big_quiet_on)
                (repeat (first | go_big_quiet_skip | (go_big_quiet_want; go_big_quiet_op; go_big_quiet_on)))
                (go_big_quiet_want; go_big_quiet_op; apply Exists.intro; refine ⟨fun p => ?_, ?_⟩; (· exact later_of (CU p)); go_big_quiet_on)
                (repeat (first | go_big_quiet_skip | (go_big_quiet_want; go_big_quiet_op; go_big_quiet_on)))
                (go_big_quiet_want; go_big_quiet_op; apply Exists.intro; refine ⟨fun p => ?_, ?_⟩; (· exact later_of (CI p)); go_big_quiet_on)
                (repeat (first | go_big_quiet_skip | (go_big_quiet_want; go_big_quiet_op; go_big_quiet_on)))
                (go_big_quiet_want; go_big_quiet_op; apply Exists.intro; refine ⟨fun p => ?_, ?_⟩; (· exact later_of (CA p)); go_big_quiet_on)
                (repeat (first | go_big_quiet_skip | (go_big_quiet_want; go_big_quiet_op; go_big_quiet_on)))
                refine wpQuiet_nil ?_
                rintro _ ⟨p, rfl⟩
                have HF := hide (HB9.out.trans ((HW.out.trans (p.below.mono HW.out.size)).mono HB9.out.size))
                clear HE0 HE1 HE2 hne CU CH CI CA
                generalize p.val = w11 at *
                go_wp2
                go_ret
                exact ⟨rfl, HF.out⟩

end Sp
end Go.Proofs.Ytbgadcofjhgmiaa
