/- A part of the proofs about package super: the chapter's examples. -/
import Derived.Test.YtjopjffecnflkaaDoorSm
import Derived.Test.YtjopjffecnflkaaDoorRm
namespace Go.Proofs.YtjopjffecnflkaaDoor
open Go.RowKit
namespace Su
open Cr
theorem not_needed {b : Bool} {p : Prop} (h : b = false) : b = true → p := fun h2 => by rw [h] at h2; cases h2
def Spec.any : Spec := ⟨fun _ _ => True, fun _ _ _ _ _ => trivial⟩
/-- A new superblock's box. -/
def Spec.nbox (B : Nat) : Spec := ⟨fun v w => ∃ g, v = .pointer (some ⟨g, 0, none⟩) ∧ B ≤ g ∧ BoxC w g 0 0 0 0 0 0, fun _ _ _ ⟨g, h1, h2, h3⟩ hb => ⟨g, h1, h2, h3.later (hb.mono h3.lt)⟩⟩
theorem zero_get {l : List Nat} (h : ∀ b ∈ l, b = 0) : num l = 0 := by
  have : ∀ l : List Nat, (∀ b ∈ l, b = 0) → l.foldl (fun a b => 256 * a + b) 0 = 0 := by
    intro l
    induction l with
    | nil => intro _; rfl
    | cons b r ih =>
      intro h
      rw [List.foldl_cons, h b (by simp)]
      exact ih fun c hc => h c (by simp [hc])
  exact this l h
theorem dec_zero : ¬ (decS (str (List.replicate 64 0))).2 = 0 := by
  intro h
  obtain ⟨-, hc, -, -, -⟩ := dec_ok h
  have hk := chk_ok hc
  have hz : nAt (str (List.replicate 64 0)) 16 4 = 0 := by
    refine zero_get fun b hb => ?_
    have h1 := List.mem_of_mem_take hb
    have h2 : b ∈ bs (str (List.replicate 64 0)) := by
      simp only [bs, ByteArray.data_extract, Array.toList_extract, List.mem_map] at h1 ⊢
      obtain ⟨a, ha, e⟩ := h1
      rw [List.extract_eq_take_drop] at ha
      exact ⟨a, List.mem_of_mem_drop (List.mem_of_mem_take ha), e⟩
    rw [bs_str (by intro b hb; rw [List.eq_of_mem_replicate hb]; omega)] at h2
    exact List.eq_of_mem_replicate h2
  have hs : (readS (str (List.replicate 64 0))).siz = ((nAt (str (List.replicate 64 0)) 16 4 : Nat) : Int) := rfl
  rw [hz] at hs
  generalize (readS (str (List.replicate 64 0))).siz = q at *
  omega
theorem pick_zero : pickS (str (List.replicate 64 0)) (str (List.replicate 64 0)) = (Sb.zero, 0, 15) := by
  rw [pick_ref]
  have h := dec_zero
  generalize decS (str (List.replicate 64 0)) = D at *
  unfold rpick
  rw [if_neg (fun h2 => h h2.1.1), if_neg (fun h2 => h h2.1)]
theorem next_s : nextS ⟨0, 0, 3, 4, 0, 0⟩ 0 0 = (⟨0, 0, 4, 4, 0, 0⟩, 0) := by
  have h1 : chk ⟨0, 0, 3, 4, 0, 0⟩ = 0 := chk_is (by simp)
  have h2 : chk ⟨0, 0, 4, 4, 0, 0⟩ = 0 := chk_is (by simp)
  have hf : Sb.follow ⟨0, 0, 3, 4, 0, 0⟩ 0 0 = ⟨0, 0, 4, 4, 0, 0⟩ := rfl
  unfold nextS
  rw [hf, h1, h2, if_neg (by simp), if_neg (by simp), if_neg (by simp)]
theorem fit_s : Sb.Fit ⟨0, 0, 3, 4, 0, 0⟩ := fit_of (by omega) (by unfold I64; omega) (by unfold I64; omega) (by unfold I64; omega) (by unfold I64; omega) (by unfold I64; omega)
set_option maxHeartbeats 4000000 in
theorem awake_any (w : World) (T : Tab w) : Calls Tryd.prog 13 #[] w fun e w' => e = .returned (.bool true) ∧ Below w.heap.size w w' := by
  have hN := fun w => next_any ⟨0, 0, 3, 4, 0, 0⟩ fit_s 0 0 (by unfold I64; omega) (by unfold I64; omega) w
  rw [next_s] at hN
  have hz : (str (List.replicate 64 0)).size ≤ 1000 := by rw [str_size]; simp
  have hP := fun w T => pick_any (str (List.replicate 64 0)) (str (List.replicate 64 0)) hz hz w T
  rw [pick_zero] at hP
  have hS0 := fun w => slot_any ⟨0, 0, 3, 4, 0, 0⟩ w
  have hS1 := fun w => slot_any ⟨0, 0, 4, 4, 0, 0⟩ w
  simp only [Sb.val, Sb.zero] at hN hP hS0 hS1
  generalize hR : str (List.replicate 64 0) = S at *
  replace hR := hide hR
  have X := boxC w 0 0 3 4 0 0 24
  have B0 := below_alloc w (.cells #[.int .u64 (0 : Nat), .int .i64 0, .int .i64 3, .int .i64 4, .int .i64 0, .int .i64 0] 24)
  go_enter Tryd.func13, Tryd.ntmps13
  go_wp2_with fail
  refine (hN _).mono ?_
  rintro e w1 ⟨rfl, b1⟩
  replace X := X.later (b1.mono X.lt)
  replace B0 := B0.trans (b1.mono B0.size)
  have Y := boxC w1 0 0 4 4 0 0 24
  have b2 := below_alloc w1 (.cells #[.int .u64 (0 : Nat), .int .i64 0, .int .i64 4, .int .i64 4, .int .i64 0, .int .i64 0] 24)
  replace X := X.later (b2.mono X.lt)
  replace B0 := B0.trans (b2.mono B0.size)
  clear b1 b2 hN
  replace T := T.later B0
  go_wp2
  generalize World.alloc w1 _ = w0 at *
  refine wp_region_specs_mid (n := 10) [.zer 64, .val (.string S), .zer 64, .val (.string S), .val (.tuple #[.agg #[.int .u64 ((0 : Nat) : Int), .int .i64 0, .int .i64 0, .int .i64 0, .int .i64 0, .int .i64 0], .int .i64 0, .int .i64 15]), .val (.tuple #[.agg #[.int .u64 ((0 : Nat) : Int), .int .i64 0, .int .i64 0, .int .i64 0, .int .i64 0, .int .i64 0], .int .i64 0, .int .i64 15]), .val (.agg #[.int .u64 ((0 : Nat) : Int), .int .i64 0, .int .i64 0, .int .i64 0, .int .i64 0, .int .i64 0]), .val (.int .i64 0), .val (.int .i64 15), .nbox w0.heap.size, .val (undef), .val (.int .i64 0), .val (.int .i64 15)] [.any, .val (.string S), .any, .val (.string S), .val (.tuple #[.agg #[.int .u64 ((0 : Nat) : Int), .int .i64 0, .int .i64 0, .int .i64 0, .int .i64 0, .int .i64 0], .int .i64 0, .int .i64 15]), .val (.tuple #[.agg #[.int .u64 ((0 : Nat) : Int), .int .i64 0, .int .i64 0, .int .i64 0, .int .i64 0, .int .i64 0], .int .i64 0, .int .i64 15]), .val (.agg #[.int .u64 ((0 : Nat) : Int), .int .i64 0, .int .i64 0, .int .i64 0, .int .i64 0, .int .i64 0]), .val (.int .i64 0), .val (.int .i64 15), .any, .val (undef), .val (.int .i64 0), .val (.int .i64 15)] (by kernel_rfl) (by kernel_rfl) rfl rfl rfl ?_ ?_ ?_ ?_
  · refine ⟨?_, ?_⟩
    · intro hp A w1 hb ho hd
      clear hp
      have hmk : (Instr.makeSlice 47 (.int .i64 64) (.int .i64 64)).run Tryd.prog w1 = .ok (.slice (some ⟨w1.heap.size, 0, none⟩) 64 64) (w1.alloc (.cells (zs 64) 5)) := make_bytes (N := 64) (by omega) w1
      refine ⟨rfl, goes_alloc (v := .slice (some ⟨w1.heap.size, 0, none⟩) 64 64) (o := .cells (zs 64) 5) ?_ ⟨_, rfl, by simp, fun i hi => by simp [zs_get hi]⟩⟩
      simp [go_sem, hmk]
    refine ⟨?_, ?_⟩
    · intro hp A w1 hb ho hd
      clear hp
      obtain ⟨g, hg, hgl, hcg⟩ := hd _ (Array.mem_of_getElem? (i := 0) rfl) rfl _ _ rfl rfl
      have e14 := getq hg
      have hcv := conv_rep hcg
      rw [hR.out] at hcv
      refine ⟨rfl, goes_value (v := .string S) ?_ rfl⟩
      simp [go_sem, e14, hcv]
    refine ⟨?_, ?_⟩
    · intro hp A w1 hb ho hd
      clear hp
      have hmk : (Instr.makeSlice 47 (.int .i64 64) (.int .i64 64)).run Tryd.prog w1 = .ok (.slice (some ⟨w1.heap.size, 0, none⟩) 64 64) (w1.alloc (.cells (zs 64) 5)) := make_bytes (N := 64) (by omega) w1
      refine ⟨rfl, goes_alloc (v := .slice (some ⟨w1.heap.size, 0, none⟩) 64 64) (o := .cells (zs 64) 5) ?_ ⟨_, rfl, by simp, fun i hi => by simp [zs_get hi]⟩⟩
      simp [go_sem, hmk]
    refine ⟨?_, ?_⟩
    · intro hp A w1 hb ho hd
      clear hp
      obtain ⟨g, hg, hgl, hcg⟩ := hd _ (Array.mem_of_getElem? (i := 0) rfl) rfl _ _ rfl rfl
      have e16 := getq hg
      have hcv := conv_rep hcg
      rw [hR.out] at hcv
      refine ⟨rfl, goes_value (v := .string S) ?_ rfl⟩
      simp [go_sem, e16, hcv]
    refine ⟨?_, ?_⟩
    · intro hp A w1 hb ho hd
      clear hp
      have e15 : A.tmps[15]?.getD undef = .string S := getq (hd _ (Array.mem_of_getElem? (i := 0) rfl) rfl _ _ rfl rfl)
      have e17 : A.tmps[17]?.getD undef = .string S := getq (hd _ (Array.mem_of_getElem? (i := 1) rfl) rfl _ _ rfl rfl)
      refine ⟨rfl, goes_call (f := 18) (args := #[.string S, .string S]) ?_ (hP w1 (T.later hb))⟩
      simp [go_sem, e15, e17]
    refine ⟨?_, ?_⟩
    · intro hp A w1 hb ho hd
      clear hp
      have e18 : A.tmps[18]?.getD undef = .tuple #[.agg #[.int .u64 ((0 : Nat) : Int), .int .i64 0, .int .i64 0, .int .i64 0, .int .i64 0, .int .i64 0], .int .i64 0, .int .i64 15] := getq (hd _ (Array.mem_of_getElem? (i := 0) rfl) rfl _ _ rfl rfl)
      refine ⟨rfl, goes_value (v := .tuple #[.agg #[.int .u64 ((0 : Nat) : Int), .int .i64 0, .int .i64 0, .int .i64 0, .int .i64 0, .int .i64 0], .int .i64 0, .int .i64 15]) ?_ rfl⟩
      simp [go_sem, e18]
    refine ⟨?_, ?_⟩
    · intro hp A w1 hb ho hd
      clear hp
      have e13 : A.tmps[13]?.getD undef = .tuple #[.agg #[.int .u64 ((0 : Nat) : Int), .int .i64 0, .int .i64 0, .int .i64 0, .int .i64 0, .int .i64 0], .int .i64 0, .int .i64 15] := getq (hd _ (Array.mem_of_getElem? (i := 0) rfl) rfl _ _ rfl rfl)
      refine ⟨rfl, goes_value (v := .agg #[.int .u64 ((0 : Nat) : Int), .int .i64 0, .int .i64 0, .int .i64 0, .int .i64 0, .int .i64 0]) ?_ rfl⟩
      simp [go_sem, e13]
    refine ⟨?_, ?_⟩
    · intro hp A w1 hb ho hd
      clear hp
      have e13 : A.tmps[13]?.getD undef = .tuple #[.agg #[.int .u64 ((0 : Nat) : Int), .int .i64 0, .int .i64 0, .int .i64 0, .int .i64 0, .int .i64 0], .int .i64 0, .int .i64 15] := getq (hd _ (Array.mem_of_getElem? (i := 0) rfl) rfl _ _ rfl rfl)
      refine ⟨rfl, goes_value (v := .int .i64 0) ?_ rfl⟩
      simp [go_sem, e13]
    refine ⟨?_, ?_⟩
    · intro hp A w1 hb ho hd
      clear hp
      have e13 : A.tmps[13]?.getD undef = .tuple #[.agg #[.int .u64 ((0 : Nat) : Int), .int .i64 0, .int .i64 0, .int .i64 0, .int .i64 0, .int .i64 0], .int .i64 0, .int .i64 15] := getq (hd _ (Array.mem_of_getElem? (i := 0) rfl) rfl _ _ rfl rfl)
      refine ⟨rfl, goes_value (v := .int .i64 15) ?_ rfl⟩
      simp [go_sem, e13]
    refine ⟨?_, ?_⟩
    · intro hp A w1 hb ho hd
      clear hp
      refine ⟨rfl, goes_alloc (v := .pointer (some ⟨w1.heap.size, 0, none⟩)) (o := .cells #[.int .u64 ((0 : Nat) : Int), .int .i64 0, .int .i64 0, .int .i64 0, .int .i64 0, .int .i64 0] 24) ?_ ⟨_, rfl, hb.size, boxC _ 0 0 0 0 0 0 24⟩⟩
      simp [go_sem]
    refine ⟨?_, ?_⟩
    · exact fun hp => absurd hp (by decide)
    refine ⟨?_, ?_⟩
    · intro hp A w1 hb ho hd
      clear hp
      have e20 : A.tmps[20]?.getD undef = .int .i64 0 := getq (hd _ (Array.mem_of_getElem? (i := 0) rfl) rfl _ _ rfl rfl)
      refine ⟨rfl, goes_value (v := .int .i64 0) ?_ rfl⟩
      simp [go_sem, e20]
    refine ⟨?_, ?_⟩
    · intro hp A w1 hb ho hd
      clear hp
      have e21 : A.tmps[21]?.getD undef = .int .i64 15 := getq (hd _ (Array.mem_of_getElem? (i := 0) rfl) rfl _ _ rfl rfl)
      refine ⟨rfl, goes_value (v := .int .i64 15) ?_ rfl⟩
      simp [go_sem, e21]
    trivial
  · refine ⟨?_, ?_⟩
    · exact not_needed (by kernel_rfl)
    refine ⟨?_, ?_⟩
    · exact not_needed (by kernel_rfl)
    refine ⟨?_, ?_⟩
    · exact not_needed (by kernel_rfl)
    refine ⟨?_, ?_⟩
    · exact not_needed (by kernel_rfl)
    refine ⟨?_, ?_⟩
    · exact not_needed (by kernel_rfl)
    refine ⟨?_, ?_⟩
    · exact not_needed (by kernel_rfl)
    refine ⟨?_, ?_⟩
    · exact not_needed (by kernel_rfl)
    refine ⟨?_, ?_⟩
    · intro hp A w1 hb ho hd
      clear hp
      have e13 : A.tmps[13]?.getD undef = .tuple #[.agg #[.int .u64 ((0 : Nat) : Int), .int .i64 0, .int .i64 0, .int .i64 0, .int .i64 0, .int .i64 0], .int .i64 0, .int .i64 15] := getq (hd _ (Array.mem_of_getElem? (i := 0) rfl) rfl _ _ rfl rfl)
      refine ⟨rfl, goes_value (v := .int .i64 0) ?_ rfl⟩
      simp [go_sem, e13]
    refine ⟨?_, ?_⟩
    · intro hp A w1 hb ho hd
      clear hp
      have e13 : A.tmps[13]?.getD undef = .tuple #[.agg #[.int .u64 ((0 : Nat) : Int), .int .i64 0, .int .i64 0, .int .i64 0, .int .i64 0, .int .i64 0], .int .i64 0, .int .i64 15] := getq (hd _ (Array.mem_of_getElem? (i := 0) rfl) rfl _ _ rfl rfl)
      refine ⟨rfl, goes_value (v := .int .i64 15) ?_ rfl⟩
      simp [go_sem, e13]
    refine ⟨?_, ?_⟩
    · exact not_needed (by kernel_rfl)
    refine ⟨?_, ?_⟩
    · exact not_needed (by kernel_rfl)
    refine ⟨?_, ?_⟩
    · intro hp A w1 hb ho hd
      clear hp
      have e20 : A.tmps[20]?.getD undef = .int .i64 0 := getq (hd _ (Array.mem_of_getElem? (i := 0) rfl) rfl _ _ rfl rfl)
      refine ⟨rfl, goes_value (v := .int .i64 0) ?_ rfl⟩
      simp [go_sem, e20]
    refine ⟨?_, ?_⟩
    · intro hp A w1 hb ho hd
      clear hp
      have e21 : A.tmps[21]?.getD undef = .int .i64 15 := getq (hd _ (Array.mem_of_getElem? (i := 0) rfl) rfl _ _ rfl rfl)
      refine ⟨rfl, goes_value (v := .int .i64 15) ?_ rfl⟩
      simp [go_sem, e21]
    trivial
  · intro A w2 hb ho hd
    obtain ⟨g, hg, hge, Z⟩ := hd _ (Array.mem_of_getElem? (i := 0) rfl) rfl _ _ rfl rfl
    have e4 := getq hg
    have e19 : A.tmps[19]?.getD undef = .agg #[.int .u64 ((0 : Nat) : Int), .int .i64 0, .int .i64 0, .int .i64 0, .int .i64 0, .int .i64 0] := getq (hd _ (Array.mem_of_getElem? (i := 1) rfl) rfl _ _ rfl rfl)
    have c0 := Z.c0
    have c1 := Z.c1
    have c2 := Z.c2
    have c3 := Z.c3
    have c4 := Z.c4
    have c5 := Z.c5
    have f0 := Z.fr 0 (by omega)
    have f1 := Z.fr 1 (by omega)
    have f2 := Z.fr 2 (by omega)
    have f3 := Z.fr 3 (by omega)
    have f4 := Z.fr 4 (by omega)
    have f5 := Z.fr 5 (by omega)
    refine ⟨_, by simp [go_sem, e4, e19, c0, c1, c2, c3, c4, c5, f0, f1, f2, f3, f4, f5]; rfl, ?_, ?_⟩
    · exact BoxC.below Z hb hge 0 0 0 0 0 0
    · intro j o d hj hdst h
      match j, hj, h with
      | 0, _, _ => exact trivial
      | 1, _, h => exact h
      | 2, _, _ => exact trivial
      | 3, _, h => exact h
      | 4, _, h => exact h
      | 5, _, h => exact h
      | 6, _, h => exact h
      | 7, _, h => exact h
      | 8, _, h => exact h
      | 9, _, _ => exact trivial
      | 10, _, h => exact h
      | 11, _, h => exact h
      | 12, _, h => exact h
      | j + 13, hj, _ => simp at hj
  · intro A w9 hb9 hdf hsz hol hft
    have m15 : A.tmps.getD 15 undef = .string S := hft 1 _ 15 rfl rfl
    have m17 : A.tmps.getD 17 undef = .string S := hft 3 _ 17 rfl rfl
    have m18 : A.tmps.getD 18 undef = .tuple #[.agg #[.int .u64 ((0 : Nat) : Int), .int .i64 0, .int .i64 0, .int .i64 0, .int .i64 0, .int .i64 0], .int .i64 0, .int .i64 15] := hft 4 _ 18 rfl rfl
    have m13 : A.tmps.getD 13 undef = .tuple #[.agg #[.int .u64 ((0 : Nat) : Int), .int .i64 0, .int .i64 0, .int .i64 0, .int .i64 0, .int .i64 0], .int .i64 0, .int .i64 15] := hft 5 _ 13 rfl rfl
    have m19 : A.tmps.getD 19 undef = .agg #[.int .u64 ((0 : Nat) : Int), .int .i64 0, .int .i64 0, .int .i64 0, .int .i64 0, .int .i64 0] := hft 6 _ 19 rfl rfl
    have m20 : A.tmps.getD 20 undef = .int .i64 0 := hft 7 _ 20 rfl rfl
    have m21 : A.tmps.getD 21 undef = .int .i64 15 := hft 8 _ 21 rfl rfl
    have m5 : A.tmps.getD 5 undef = .int .i64 0 := hft 11 _ 5 rfl rfl
    have m6 : A.tmps.getD 6 undef = .int .i64 15 := hft 12 _ 6 rfl rfl
    rename_i KK hKK
    refine hKK _ _ ?_
    show Code.wp _ _ _ A w9
    rw [frame_puts hdf hsz hol]
    simp only [List.foldl_cons, List.foldl_nil, Act.put, Option.getD_some, m15, m17, m18, m13, m19, m20, m21, m5, m6, List.setIfInBounds_toArray, List.set_cons_succ, List.set_cons_zero]
    generalize A.tmps.getD 14 undef = z1 at *
    generalize A.tmps.getD 16 undef = z2 at *
    generalize A.tmps.getD 4 undef = z3 at *
    replace X := X.later (hb9.mono X.lt)
    replace Y := Y.later (hb9.mono Y.lt)
    replace B0 := B0.trans (hb9.mono B0.size)
    clear m15 m17 m18 m13 m19 m20 m21 m5 m6 hft hol hsz hdf hKK hb9 T hP
    have c0 := X.c0
    have c1 := X.c1
    have c2 := X.c2
    have c3 := X.c3
    have c4 := X.c4
    have c5 := X.c5
    go_wp2_with fail
    refine (hS0 _).mono ?_
    rintro e w10 ⟨rfl, b10⟩
    replace Y := Y.later (b10.mono Y.lt)
    replace B0 := B0.trans (b10.mono B0.size)
    clear c0 c1 c2 c3 c4 c5 X b10 hS0
    have c0 := Y.c0
    have c1 := Y.c1
    have c2 := Y.c2
    have c3 := Y.c3
    have c4 := Y.c4
    have c5 := Y.c5
    go_wp2_with fail
    refine (hS1 _).mono ?_
    rintro e w11 ⟨rfl, b11⟩
    replace B0 := B0.trans (b11.mono B0.size)
    clear c0 c1 c2 c3 c4 c5 Y b11 hS1
    go_wp2
    go_ret
    exact ⟨rfl, B0⟩
end Su
end Go.Proofs.YtjopjffecnflkaaDoor
