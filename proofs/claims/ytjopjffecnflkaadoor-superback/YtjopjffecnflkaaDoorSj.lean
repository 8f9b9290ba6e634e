/- A part of the proofs about package super: the document's answer, call by call. -/
import Derived.Test.YtjopjffecnflkaaDoorSi
import Derived.Test.YtjopjffecnflkaaDoorRq
import Derived.Laws.OwnMore
import Derived.Laws.MakeOwn
namespace Go.Proofs.YtjopjffecnflkaaDoor
open Go.RowKit
namespace Su
open Cr
theorem madeCells_u8 (N : Nat) : madeCells (Value.int .u8 0).cells N = Array.replicate N (.int .u8 0) := by
  apply Array.toList_inj.1
  rw [show (Value.int .u8 0).cells = #[.int .u8 0] from rfl, toList_madeCells_one]
  simp
theorem sec_app (key ep siz ser tail num : Nat) : ({ data := #[76, 83, 85, 80] } : ByteArray) ++ str (be key 8) ++ str (be ep 4) ++ str (be siz 4) ++ str (be ser 8) ++ str (be tail 8) ++ str (be num 8) ++ str (List.replicate 8 0) ++ str (be ser 8) = str (secN key ep siz ser tail num) := by
  rw [show ({ data := #[76, 83, 85, 80] } : ByteArray) = str [76, 83, 85, 80] from rfl]
  simp only [← str_append, secN, List.append_assoc]
  rfl
theorem make_bytes {N : Nat} (h : N ≤ 1000000) (w : World) : (Instr.makeSlice 47 (.int .i64 (N : Int)) (.int .i64 (N : Int))).run Tryd.prog w = .ok (.slice (some ⟨w.heap.size, 0, none⟩) N N) (w.alloc (.cells (zs N) 5)) := by
  obtain ⟨i0, hi, hz0, hz1, hz2⟩ := info_parts info5
  have hr := run_make (P := Tryd.prog) w 47 5 i0 (.int .u8 0) Tryd.underlying47 hi hz0 .i64 .i64 (N : Int) (N : Int) (by omega) (by omega) (by rw [hz2]; omega) (by omega)
  rw [hz1] at hr
  simpa [zs, madeCells_u8] using hr
theorem conv_rep {w : World} {g N : Nat} (h : ∀ i, i < N → w.cell? ⟨g, i, none⟩ = some (.int .u8 0)) : (convert 47 9 (.slice (some ⟨g, 0, none⟩) N N)).run Tryd.prog w = .ok (.string (str (List.replicate N 0))) w :=
  conv_bytes _ _ 0 N N (List.replicate N 0) (by simp) fun i x hx => by
    have hi : i < N := by simpa using (List.getElem?_eq_some_iff.1 hx).1
    simp [hi] at hx
    subst hx
    rw [Nat.zero_add]
    exact h i hi
/-- A slice of N bytes 0 that are new. -/
def Spec.zer (N : Nat) : Spec := ⟨fun v w => ∃ g, v = .slice (some ⟨g, 0, none⟩) N N ∧ g < w.heap.size ∧ ∀ i, i < N → w.cell? ⟨g, i, none⟩ = some (.int .u8 0), fun _v _w _w' ⟨g, h1, h2, h3⟩ hb => ⟨g, h1, Nat.lt_of_lt_of_le h2 hb.size, fun i hi => (hb.cell h2).trans (h3 i hi)⟩⟩
set_option maxHeartbeats 4000000 in
theorem rsecN (key ep siz ser tail num : Nat) (h0 : key < 18446744073709551616) (h1 : ep < 4294967296) (h2 : siz ≤ 65536) (h3 : ser < 1099511627776) (h4 : tail < 1099511627776) (h5 : num < 1099511627776) (w : World) : Calls Tryd.prog 14 #[.agg #[.int .u64 (key : Nat), .int .i64 (ep : Nat), .int .i64 (ser : Nat), .int .i64 (siz : Nat), .int .i64 (tail : Nat), .int .i64 (num : Nat)]] w fun e w' => e = .returned (.string (sealOf (str (secN key ep siz ser tail num)))) ∧ Below w.heap.size w w' := by
  have X := boxS w key ep ser siz tail num 27
  have BB := below_alloc w (.cells #[.int .u64 (key : Nat), .int .i64 (ep : Nat), .int .i64 (ser : Nat), .int .i64 (siz : Nat), .int .i64 (tail : Nat), .int .i64 (num : Nat)] 27)
  have rkey := fun w => rfixed_any key 8 (by omega) (by omega) w
  have zkey : (str (be key 8)).size = 8 := by rw [str_size, be_length]
  have rep := fun w => rfixed_any ep 4 (by omega) (by omega) w
  have zep : (str (be ep 4)).size = 4 := by rw [str_size, be_length]
  have rsiz := fun w => rfixed_any siz 4 (by omega) (by omega) w
  have zsiz : (str (be siz 4)).size = 4 := by rw [str_size, be_length]
  have rser := fun w => rfixed_any ser 8 (by omega) (by omega) w
  have zser : (str (be ser 8)).size = 8 := by rw [str_size, be_length]
  have rtail := fun w => rfixed_any tail 8 (by omega) (by omega) w
  have ztail : (str (be tail 8)).size = 8 := by rw [str_size, be_length]
  have rnum := fun w => rfixed_any num 8 (by omega) (by omega) w
  have znum : (str (be num 8)).size = 8 := by rw [str_size, be_length]
  have hA : ({ data := #[76, 83, 85, 80] } : ByteArray) ++ str (be key 8) ++ str (be ep 4) ++ str (be siz 4) ++ str (be ser 8) ++ str (be tail 8) ++ str (be num 8) ++ str (List.replicate 8 0) ++ str (be ser 8) = str (secN key ep siz ser tail num) := sec_app key ep siz ser tail num
  have hm := rmore0 (str (secN key ep siz ser tail num)) (by rw [str_size, len_sec]; omega)
  have hml := more_lt 0 (bs (str (secN key ep siz ser tail num)))
  have hz : (str (secN key ep siz ser tail num)).size = 60 := by rw [str_size, len_sec]
  have hF := fun w => rfour_any (more 0 (bs (str (secN key ep siz ser tail num)))) hml w
  have hfz : (str (four (more 0 (bs (str (secN key ep siz ser tail num)))))).size = 4 := by rw [str_size]; rfl
  unfold sealOf
  generalize more 0 (bs (str (secN key ep siz ser tail num))) = M at *
  generalize str (four M) = FF at *
  generalize str (secN key ep siz ser tail num) = S at *
  have zr : (str (List.replicate 8 0)).size = 8 := by rw [str_size]; rfl
  replace hA := hide hA
  generalize str (be key 8) = bkey at *
  generalize str (be ep 4) = bep at *
  generalize str (be siz 4) = bsiz at *
  generalize str (be ser 8) = bser at *
  generalize str (be tail 8) = btail at *
  generalize str (be num 8) = bnum at *
  generalize hR : str (List.replicate 8 0) = bz at *
  replace hR := hide hR
  have hne := later_ne (w.alloc (.cells #[.int .u64 (key : Nat), .int .i64 (ep : Nat), .int .i64 (ser : Nat), .int .i64 (siz : Nat), .int .i64 (tail : Nat), .int .i64 (num : Nat)] 27))
  have c0 : ∀ p : Later (w.alloc (.cells #[.int .u64 (key : Nat), .int .i64 (ep : Nat), .int .i64 (ser : Nat), .int .i64 (siz : Nat), .int .i64 (tail : Nat), .int .i64 (num : Nat)] 27)), p.val.cell? ⟨w.heap.size, 0, none⟩ = some (.int .u64 (key : Nat)) := fun p => (X.later (p.below.mono X.lt)).c0
  have c1 : ∀ p : Later (w.alloc (.cells #[.int .u64 (key : Nat), .int .i64 (ep : Nat), .int .i64 (ser : Nat), .int .i64 (siz : Nat), .int .i64 (tail : Nat), .int .i64 (num : Nat)] 27)), p.val.cell? ⟨w.heap.size, 1, none⟩ = some (.int .i64 (ep : Nat)) := fun p => (X.later (p.below.mono X.lt)).c1
  have c2 : ∀ p : Later (w.alloc (.cells #[.int .u64 (key : Nat), .int .i64 (ep : Nat), .int .i64 (ser : Nat), .int .i64 (siz : Nat), .int .i64 (tail : Nat), .int .i64 (num : Nat)] 27)), p.val.cell? ⟨w.heap.size, 2, none⟩ = some (.int .i64 (ser : Nat)) := fun p => (X.later (p.below.mono X.lt)).c2
  have c3 : ∀ p : Later (w.alloc (.cells #[.int .u64 (key : Nat), .int .i64 (ep : Nat), .int .i64 (ser : Nat), .int .i64 (siz : Nat), .int .i64 (tail : Nat), .int .i64 (num : Nat)] 27)), p.val.cell? ⟨w.heap.size, 3, none⟩ = some (.int .i64 (siz : Nat)) := fun p => (X.later (p.below.mono X.lt)).c3
  have c4 : ∀ p : Later (w.alloc (.cells #[.int .u64 (key : Nat), .int .i64 (ep : Nat), .int .i64 (ser : Nat), .int .i64 (siz : Nat), .int .i64 (tail : Nat), .int .i64 (num : Nat)] 27)), p.val.cell? ⟨w.heap.size, 4, none⟩ = some (.int .i64 (tail : Nat)) := fun p => (X.later (p.below.mono X.lt)).c4
  have c5 : ∀ p : Later (w.alloc (.cells #[.int .u64 (key : Nat), .int .i64 (ep : Nat), .int .i64 (ser : Nat), .int .i64 (siz : Nat), .int .i64 (tail : Nat), .int .i64 (num : Nat)] 27)), p.val.cell? ⟨w.heap.size, 5, none⟩ = some (.int .i64 (num : Nat)) := fun p => (X.later (p.below.mono X.lt)).c5
  go_enter Tryd.func14, Tryd.ntmps14
  go_wp2
  refine wp_region_later (by kernel_rfl) (by kernel_rfl) ?_
  (repeat (first | go_big_quiet_skip | (go_big_quiet_want; go_big_quiet_op; go_big_quiet_on)))
  (go_big_quiet_want; go_big_quiet_op; apply Exists.intro; refine ⟨fun p => ?_, ?_⟩; (· exact later_of (rkey _)); go_big_quiet_on)
  (repeat (first | go_big_quiet_skip | (go_big_quiet_want; go_big_quiet_op; go_big_quiet_on)))
  (go_big_quiet_want; go_big_quiet_op; apply Exists.intro; refine ⟨fun p => ?_, ?_⟩; (· exact later_of (rep _)); go_big_quiet_on)
  (repeat (first | go_big_quiet_skip | (go_big_quiet_want; go_big_quiet_op; go_big_quiet_on)))
  (go_big_quiet_want; go_big_quiet_op; apply Exists.intro; refine ⟨fun p => ?_, ?_⟩; (· exact later_of (rsiz _)); go_big_quiet_on)
  (repeat (first | go_big_quiet_skip | (go_big_quiet_want; go_big_quiet_op; go_big_quiet_on)))
  (go_big_quiet_want; go_big_quiet_op; apply Exists.intro; refine ⟨fun p => ?_, ?_⟩; (· exact later_of (rser _)); go_big_quiet_on)
  (repeat (first | go_big_quiet_skip | (go_big_quiet_want; go_big_quiet_op; go_big_quiet_on)))
  (go_big_quiet_want; go_big_quiet_op; apply Exists.intro; refine ⟨fun p => ?_, ?_⟩; (· exact later_of (rtail _)); go_big_quiet_on)
  (repeat (first | go_big_quiet_skip | (go_big_quiet_want; go_big_quiet_op; go_big_quiet_on)))
  (go_big_quiet_want; go_big_quiet_op; apply Exists.intro; refine ⟨fun p => ?_, ?_⟩; (· exact later_of (rnum _)); go_big_quiet_on)
  (repeat (first | go_big_quiet_skip | (go_big_quiet_want; go_big_quiet_op; go_big_quiet_on)))
  refine wpQuiet_nil ?_
  rintro _ ⟨p, rfl⟩
  replace X := X.later (p.below.mono X.lt)
  replace BB := BB.trans (p.below.mono (by simp))
  clear c0 c1 c2 c3 c4 c5 hne rkey rep rsiz rtail rnum
  have zV : (({ data := #[76, 83, 85, 80] } : ByteArray) ++ bkey ++ bep ++ bsiz ++ bser ++ btail ++ bnum).size = 44 := by simp only [ByteArray.size_append, zkey, zep, zsiz, zser, ztail, znum]; rfl
  generalize ({ data := #[76, 83, 85, 80] } : ByteArray) ++ bkey ++ bep ++ bsiz ++ bser ++ btail ++ bnum = VV at *
  have hw8 : IntKind.i64.wrap 8 = 8 := by decide
  have hws : IntKind.u64.wrap ((ser : Nat) : Int) = (ser : Nat) := by simp only [IntKind.wrap_u64]; omega
  go_wp2
  refine wp_region_specs_end (n := 12) [.val (.string VV), .val (.string VV), .val (.int .i64 44), .val (.int .i64 8), .zer 8, .val (.string bz), .val (.string (VV ++ bz)), .val (.pointer (some ⟨w.heap.size, 2, none⟩)), .val (.int .i64 (ser : Nat)), .val (.int .u64 (ser : Nat)), .val (.string bser), .val (.string (VV ++ bz ++ bser))] (by kernel_rfl) (by kernel_rfl) rfl rfl rfl (by kernel_rfl) ?_ ?_
  · simp only [List.take]
    refine ⟨?_, ?_⟩
    · intro A w1 hb ho hd
      have e3 : A.tmps[3]?.getD undef = .string VV := oldsN_get ho 3 (by kernel_rfl)
      refine ⟨rfl, goes_value (v := .string VV) ?_ rfl⟩
      simp [go_sem, e3]
    refine ⟨?_, ?_⟩
    · intro A w1 hb ho hd
      have e3 : A.tmps[3]?.getD undef = .string VV := oldsN_get ho 3 (by kernel_rfl)
      refine ⟨rfl, goes_value (v := .string VV) ?_ rfl⟩
      simp [go_sem, e3]
    refine ⟨?_, ?_⟩
    · intro A w1 hb ho hd
      have e34 : A.tmps[34]?.getD undef = .string VV := getq (hd _ (Array.mem_of_getElem? (i := 0) rfl) rfl _ _ rfl rfl)
      have zz : (VV.size : Int) = 44 := by rw [zV]; rfl
      refine ⟨rfl, goes_value (v := .int .i64 44) ?_ rfl⟩
      simp [go_sem, e34, zz]
    refine ⟨?_, ?_⟩
    · intro A w1 hb ho hd
      have e35 : A.tmps[35]?.getD undef = .int .i64 44 := getq (hd _ (Array.mem_of_getElem? (i := 0) rfl) rfl _ _ rfl rfl)
      refine ⟨rfl, goes_value (v := .int .i64 8) ?_ rfl⟩
      simp [go_sem, e35, hw8]
    refine ⟨?_, ?_⟩
    · intro A w1 hb ho hd
      have e36 : A.tmps[36]?.getD undef = .int .i64 8 := getq (hd _ (Array.mem_of_getElem? (i := 0) rfl) rfl _ _ rfl rfl)
      have hmk : (Instr.makeSlice 47 (.int .i64 8) (.int .i64 8)).run Tryd.prog w1 = .ok (.slice (some ⟨w1.heap.size, 0, none⟩) 8 8) (w1.alloc (.cells (zs 8) 5)) := make_bytes (N := 8) (by omega) w1
      refine ⟨rfl, goes_alloc (v := .slice (some ⟨w1.heap.size, 0, none⟩) 8 8) (o := .cells (zs 8) 5) ?_ ⟨_, rfl, by simp, fun i hi => by simp [zs_get hi]⟩⟩
      simp [go_sem, e36, hmk]
    refine ⟨?_, ?_⟩
    · intro A w1 hb ho hd
      obtain ⟨g, hg, hgl, hcg⟩ := hd _ (Array.mem_of_getElem? (i := 0) rfl) rfl _ _ rfl rfl
      have e37 := getq hg
      have hcv := conv_rep hcg
      rw [hR.out] at hcv
      refine ⟨rfl, goes_value (v := .string bz) ?_ rfl⟩
      simp [go_sem, e37, hcv]
    refine ⟨?_, ?_⟩
    · intro A w1 hb ho hd
      have e33 : A.tmps[33]?.getD undef = .string VV := getq (hd _ (Array.mem_of_getElem? (i := 0) rfl) rfl _ _ rfl rfl)
      have e38 : A.tmps[38]?.getD undef = .string bz := getq (hd _ (Array.mem_of_getElem? (i := 1) rfl) rfl _ _ rfl rfl)
      refine ⟨rfl, goes_value (v := .string (VV ++ bz)) ?_ rfl⟩
      simp [go_sem, e33, e38, zV, zr]
    refine ⟨?_, ?_⟩
    · intro A w1 hb ho hd
      have e1 : A.tmps[1]?.getD undef = .pointer (some ⟨w.heap.size, 0, none⟩) := oldsN_get ho 1 (by kernel_rfl)
      refine ⟨rfl, goes_value (v := .pointer (some ⟨w.heap.size, 2, none⟩)) ?_ rfl⟩
      simp [go_sem, e1]
    refine ⟨?_, ?_⟩
    · intro A w1 hb ho hd
      have e40 : A.tmps[40]?.getD undef = .pointer (some ⟨w.heap.size, 2, none⟩) := getq (hd _ (Array.mem_of_getElem? (i := 0) rfl) rfl _ _ rfl rfl)
      have cz := (X.later (hb.mono X.lt)).c2
      refine ⟨rfl, goes_value (v := .int .i64 (ser : Nat)) ?_ rfl⟩
      simp [go_sem, e40, cz]
    refine ⟨?_, ?_⟩
    · intro A w1 hb ho hd
      have e41 : A.tmps[41]?.getD undef = .int .i64 (ser : Nat) := getq (hd _ (Array.mem_of_getElem? (i := 0) rfl) rfl _ _ rfl rfl)
      refine ⟨rfl, goes_value (v := .int .u64 (ser : Nat)) ?_ rfl⟩
      simp [go_sem, e41, hws]
    refine ⟨?_, ?_⟩
    · intro A w1 hb ho hd
      have e42 : A.tmps[42]?.getD undef = .int .u64 (ser : Nat) := getq (hd _ (Array.mem_of_getElem? (i := 0) rfl) rfl _ _ rfl rfl)
      refine ⟨rfl, goes_call (f := 24) (args := #[.int .u64 (ser : Nat), .int .i64 8]) ?_ (rser w1)⟩
      simp [go_sem, e42]
    refine ⟨?_, ?_⟩
    · intro A w1 hb ho hd
      have e39 : A.tmps[39]?.getD undef = .string (VV ++ bz) := getq (hd _ (Array.mem_of_getElem? (i := 0) rfl) rfl _ _ rfl rfl)
      have e43 : A.tmps[43]?.getD undef = .string bser := getq (hd _ (Array.mem_of_getElem? (i := 1) rfl) rfl _ _ rfl rfl)
      refine ⟨rfl, goes_value (v := .string (VV ++ bz ++ bser)) ?_ rfl⟩
      simp [go_sem, e39, e43, zV, zr, zser]
    trivial

  intro A w9 hb9 hdf hsz hol hft
  have m33 : A.tmps.getD 33 undef = .string VV := hft 0 _ 33 (by omega) rfl rfl
  have m34 : A.tmps.getD 34 undef = .string VV := hft 1 _ 34 (by omega) rfl rfl
  have m35 : A.tmps.getD 35 undef = .int .i64 44 := hft 2 _ 35 (by omega) rfl rfl
  have m36 : A.tmps.getD 36 undef = .int .i64 8 := hft 3 _ 36 (by omega) rfl rfl
  have m38 : A.tmps.getD 38 undef = .string bz := hft 5 _ 38 (by omega) rfl rfl
  have m44 : A.tmps.getD 44 undef = .string (VV ++ bz ++ bser) := hft 11 _ 44 (by omega) rfl rfl
  rw [hA.out] at m44
  have e44 := getq m44
  refine ⟨.string S, w9, by simp [go_sem, e44], ?_⟩
  rename_i KK hKK
  refine hKK _ _ ?_
  show Code.wp _ _ _ (A.put (some 3) (.string S)) w9
  rw [frame_putsN hdf hsz hol]
  simp only [List.take, List.foldl_cons, List.foldl_nil, Act.put, Option.getD_some, m33, m34, m35, m36, m38, m44, List.setIfInBounds_toArray, List.set_cons_succ, List.set_cons_zero]
  generalize A.tmps.getD 37 undef = z1 at *
  generalize A.tmps.getD 39 undef = z2 at *
  generalize A.tmps.getD 40 undef = z3 at *
  generalize A.tmps.getD 41 undef = z4 at *
  generalize A.tmps.getD 42 undef = z5 at *
  generalize A.tmps.getD 43 undef = z6 at *
  have BF := BB.trans (hb9.mono BB.size)
  clear m33 m34 m35 m36 m38 m44 e44 hft hol hsz hdf hKK hb9 X hA hR zV hw8 hws rser
  go_wp2_with fail
  refine (hm _).mono ?_
  rintro e w10 ⟨rfl, b10⟩
  replace BF := BF.trans (b10.mono BF.size)
  clear hm b10
  go_wp2_with fail
  refine (hF _).mono ?_
  rintro e w11 ⟨rfl, b11⟩
  replace BF := BF.trans (b11.mono BF.size)
  clear hF b11
  go_wp2
  go_ret
  exact ⟨rfl, BF⟩
theorem rsec_any (s : Sb) (hs : s.Fit) (hc : chk s = 0) (w : World) : Calls Tryd.prog 14 #[s.val] w fun e w' => e = .returned (.string s.sec) ∧ Below w.heap.size w w' := by
  obtain ⟨key, ep, ser, siz, tail, num⟩ := s
  have hk := hs.k
  obtain ⟨e1, e2, r1, r2, n1, n2, z1, z2, t1, t2⟩ := chk_ok hc
  simp only at hk e1 e2 r1 r2 n1 n2 z1 z2 t1 t2
  obtain ⟨ep, rfl⟩ := Int.eq_ofNat_of_zero_le e1
  obtain ⟨ser, rfl⟩ := Int.eq_ofNat_of_zero_le r1
  obtain ⟨siz, rfl⟩ := Int.eq_ofNat_of_zero_le (show 0 ≤ siz by omega)
  obtain ⟨tail, rfl⟩ := Int.eq_ofNat_of_zero_le t1
  obtain ⟨num, rfl⟩ := Int.eq_ofNat_of_zero_le n1
  exact rsecN key ep siz ser tail num hk (by omega) (by omega) (by omega) (by omega) (by omega) w
end Su
end Go.Proofs.YtjopjffecnflkaaDoor
