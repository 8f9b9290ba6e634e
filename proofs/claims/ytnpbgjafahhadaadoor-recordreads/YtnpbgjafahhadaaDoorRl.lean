/- Which bytes a record is. -/
import Derived.Test.YtnpbgjafahhadaaDoorRk
namespace Go.Proofs.YtnpbgjafahhadaaDoor
open Go.RowKit
namespace Re
open Cr
open Su
set_option maxHeartbeats 4000000 in
set_option maxRecDepth 20000 in
theorem encode_rec_any (ep nu ki : Int) (a : Option Addr) (n cap : Nat) (xs : List (Int × Int)) (da tx : ByteArray) (w : World) (T : Tab w) (h : Sl w a n xs) (ht : tx.size ≤ 9223372036854775807) (hd : da.size ≤ 9223372036854775807) :
    Calls Tryd.prog 13 #[.agg #[.int .i64 ep, .int .i64 nu, .int .i64 ki, .slice a n cap, .string da, .string tx]] w fun e w' => e = .returned (.tuple #[.string (encR ⟨ep, nu, ki, xs, da, tx⟩), .int .i64 (chk ⟨ep, nu, ki, xs, da, tx⟩)]) ∧ Below w.heap.size w w' := by
  by_cases hz : chk ⟨ep, nu, ki, xs, da, tx⟩ = 0
  · skip
    have hh := chk_head hz
    have hdt := chk_data hz
    simp only at hdt
    have e1 : Hid (encR ⟨ep, nu, ki, xs, da, tx⟩ = enc ⟨ep, nu, ki, xs, da, tx⟩) := if_pos hz
    obtain ⟨XF, hXF⟩ : ∃ X, Hid (X = encR ⟨ep, nu, ki, xs, da, tx⟩) := ⟨_, rfl⟩
    rw [← hXF.out]
    replace e1 : Hid (XF = str (hdB (body ⟨ep, nu, ki, xs, da, tx⟩ (more 0 (bs da)))) ++ da) := hXF.out.trans e1.out
    clear hXF
    have hM := more_lt' (bs da)
    have hcl := fun w T (h : Sl w a n xs) => tellHead_any ep nu ki a n cap xs da tx (more 0 (bs da)) w T h hh hM
    have hsz0 : (str (hdB (body ⟨ep, nu, ki, xs, da, tx⟩ (more 0 (bs da))))).size = 64 * hn (body ⟨ep, nu, ki, xs, da, tx⟩ (more 0 (bs da))).length := by rw [str_size, hdB_length]
    have hHn := body_hn hh (more 0 (bs da))
    have hnl := need_le hh
    rw [hz]
    have hsum0 := fun g (w : World) (T : Tab w) (hc : Ss w (some ⟨g, 0, none⟩) 1 [da]) => sum_any (some ⟨g, 0, none⟩) 1 1 [da] w T hc
    rw [show jn [da] = bs da by simp [jn]] at hsum0
    generalize str (hdB (body ⟨ep, nu, ki, xs, da, tx⟩ (more 0 (bs da)))) = HS at *
    generalize more 0 (bs da) = M at *
    generalize hn (body ⟨ep, nu, ki, xs, da, tx⟩ M).length = k at *
    generalize need ⟨ep, nu, ki, xs, da, tx⟩ = d at *
    have hc := fun w (h : Sl w a n xs) => check_any ep nu ki a n cap xs da tx w h ht hd
    have hS := h.later (below_alloc w (.cells #[.int .i64 ep, .int .i64 nu, .int .i64 ki, .slice a n cap, .string da, .string tx] 24))
    rw [hz] at hc
    go_enter Tryd.func13, Tryd.ntmps13
    go_wp2_with fail
    refine (hc _ hS).mono ?_
    rintro e w1 ⟨rfl, b1⟩
    have BB := (below_alloc w _).trans (b1.mono (by simp))
    have X0 := (boxR w ep nu ki (.slice a n cap) da tx 24).later (b1.mono (by simp))
    have hS1 := hS.later b1
    have T1 := T.later BB
    clear hc hS b1 h
    have hsum : ∀ (w2 : World) {g : Nat}, Below w1.heap.size w1 w2 → Ss w2 (some ⟨g, 0, none⟩) 1 [da] → Calls Tryd.prog 27 #[.slice (some ⟨g, 0, none⟩) 1 1] w2 fun e w' => e = .returned (.int .u32 (M : Nat)) ∧ Below w2.heap.size w2 w' := fun w2 g hb hc => same_b (hsum0 g w2 (T1.later hb) hc)
    have hsz : HS.size + da.size ≤ 9223372036854775807 := by omega
    clear hsz0 hdt hh
    go_wp2
    refine wp_region_specs [.val (.agg #[.int .i64 ep, .int .i64 nu, .int .i64 ki, .slice a n cap, .string da, .string tx]), .val (.pointer (some ⟨w.heap.size, 4, none⟩)), .val (.string da), sOne da, .val (.int .u32 (M : Nat)), .val (.agg #[.int .i64 ep, .int .i64 nu, .int .i64 ki, .slice a n cap, .string da, .string tx, .int .u32 (M : Nat)]), .val (.string HS), .val (.pointer (some ⟨w.heap.size, 4, none⟩)), .val (.string da), .val (.string (HS ++ da)), .val (.string (HS ++ da)), .val (.int .i64 0)] (by kernel_rfl) (by kernel_rfl) ?_ ?_
    · skip
      refine ⟨?_, ?_⟩
      · intro A w1 hb ho hd
        have e1 : A.tmps[1]?.getD undef = .pointer (some ⟨w.heap.size, 0, none⟩) := olds_get ho 1 (by kernel_rfl)
        have c0 := (X0.later (hb.mono X0.lt)).c0
        have c1 := (X0.later (hb.mono X0.lt)).c1
        have c2 := (X0.later (hb.mono X0.lt)).c2
        have c3 := (X0.later (hb.mono X0.lt)).c3
        have c4 := (X0.later (hb.mono X0.lt)).c4
        have c5 := (X0.later (hb.mono X0.lt)).c5
        refine ⟨rfl, goes_value (v := .agg #[.int .i64 ep, .int .i64 nu, .int .i64 ki, .slice a n cap, .string da, .string tx]) ?_ rfl⟩
        simp [go_sem, e1, c0, c1, c2, c3, c4, c5]
      refine ⟨?_, ?_⟩
      · intro A w1 hb ho hd
        have e1 : A.tmps[1]?.getD undef = .pointer (some ⟨w.heap.size, 0, none⟩) := olds_get ho 1 (by kernel_rfl)
        refine ⟨rfl, goes_value (v := .pointer (some ⟨w.heap.size, 4, none⟩)) ?_ rfl⟩
        simp [go_sem, e1]
      refine ⟨?_, ?_⟩
      · intro A w1 hb ho hd
        have e11 : A.tmps[11]?.getD undef = .pointer (some ⟨w.heap.size, 4, none⟩) := getq (hd _ (Array.mem_of_getElem? (i := 0) rfl) rfl _ _ rfl rfl)
        have c4 := (X0.later (hb.mono X0.lt)).c4
        refine ⟨rfl, goes_value (v := .string da) ?_ rfl⟩
        simp [go_sem, e11, c4]
      refine ⟨?_, ?_⟩
      · intro A w1 hb ho hd
        have e12 : A.tmps[12]?.getD undef = .string da := getq (hd _ (Array.mem_of_getElem? (i := 0) rfl) rfl _ _ rfl rfl)
        refine ⟨rfl, goes_alloc (v := .slice (some ⟨w1.heap.size, 0, none⟩) 1 1) (o := .cells #[.string da] 9) ?_ ⟨_, rfl, by simp, Ss.one w1 da (by omega) 9⟩⟩
        simp [go_sem, e12]
      refine ⟨?_, ?_⟩
      · intro A w1 hb ho hd
        obtain ⟨g, hg, hgl, hcg⟩ := hd _ (Array.mem_of_getElem? (i := 0) rfl) rfl _ _ rfl rfl
        have e13 := getq hg
        refine ⟨rfl, goes_call (f := 27) (args := #[.slice (some ⟨g, 0, none⟩) 1 1]) ?_ (hsum w1 hb hcg)⟩
        simp [go_sem, e13]
      refine ⟨?_, ?_⟩
      · intro A w1 hb ho hd
        have e10 : A.tmps[10]?.getD undef = .agg #[.int .i64 ep, .int .i64 nu, .int .i64 ki, .slice a n cap, .string da, .string tx] := getq (hd _ (Array.mem_of_getElem? (i := 0) rfl) rfl _ _ rfl rfl)
        have e14 : A.tmps[14]?.getD undef = .int .u32 (M : Nat) := getq (hd _ (Array.mem_of_getElem? (i := 1) rfl) rfl _ _ rfl rfl)
        refine ⟨rfl, goes_value (v := .agg #[.int .i64 ep, .int .i64 nu, .int .i64 ki, .slice a n cap, .string da, .string tx, .int .u32 (M : Nat)]) ?_ rfl⟩
        simp [go_sem, e10, e14]
      refine ⟨?_, ?_⟩
      · intro A w1 hb ho hd
        have e15 : A.tmps[15]?.getD undef = .agg #[.int .i64 ep, .int .i64 nu, .int .i64 ki, .slice a n cap, .string da, .string tx, .int .u32 (M : Nat)] := getq (hd _ (Array.mem_of_getElem? (i := 0) rfl) rfl _ _ rfl rfl)
        refine ⟨rfl, goes_call (f := 26) (args := #[.agg #[.int .i64 ep, .int .i64 nu, .int .i64 ki, .slice a n cap, .string da, .string tx, .int .u32 (M : Nat)]]) ?_ (hcl w1 (T1.later hb) (hS1.later hb))⟩
        simp [go_sem, e15]
      refine ⟨?_, ?_⟩
      · intro A w1 hb ho hd
        have e1 : A.tmps[1]?.getD undef = .pointer (some ⟨w.heap.size, 0, none⟩) := olds_get ho 1 (by kernel_rfl)
        refine ⟨rfl, goes_value (v := .pointer (some ⟨w.heap.size, 4, none⟩)) ?_ rfl⟩
        simp [go_sem, e1]
      refine ⟨?_, ?_⟩
      · intro A w1 hb ho hd
        have e17 : A.tmps[17]?.getD undef = .pointer (some ⟨w.heap.size, 4, none⟩) := getq (hd _ (Array.mem_of_getElem? (i := 0) rfl) rfl _ _ rfl rfl)
        have c4 := (X0.later (hb.mono X0.lt)).c4
        refine ⟨rfl, goes_value (v := .string da) ?_ rfl⟩
        simp [go_sem, e17, c4]
      refine ⟨?_, ?_⟩
      · intro A w1 hb ho hd
        have e16 : A.tmps[16]?.getD undef = .string HS := getq (hd _ (Array.mem_of_getElem? (i := 0) rfl) rfl _ _ rfl rfl)
        have e18 : A.tmps[18]?.getD undef = .string da := getq (hd _ (Array.mem_of_getElem? (i := 1) rfl) rfl _ _ rfl rfl)
        refine ⟨rfl, goes_value (v := .string (HS ++ da)) ?_ rfl⟩
        simp [go_sem, e16, e18, hsz]
      refine ⟨?_, ?_⟩
      · intro A w1 hb ho hd
        have e19 : A.tmps[19]?.getD undef = .string (HS ++ da) := getq (hd _ (Array.mem_of_getElem? (i := 0) rfl) rfl _ _ rfl rfl)
        refine ⟨rfl, goes_value (v := .string (HS ++ da)) ?_ rfl⟩
        simp [go_sem, e19]
      refine ⟨?_, ?_⟩
      · intro A w1 hb ho hd
        refine ⟨rfl, goes_value (v := .int .i64 0) ?_ rfl⟩
        simp [go_sem, ]
      trivial
    intro A w9 hb9 hdf hsz9 hol hft
    have m2 : A.tmps.getD 2 undef = .string (HS ++ da) := hft 10 _ 2 rfl rfl
    have m3 : A.tmps.getD 3 undef = .int .i64 0 := hft 11 _ 3 rfl rfl
    rename_i KK hKK
    refine hKK A w9 (wp_ret ?_)
    refine bodyPost_ret (v := .tuple #[.string XF, .int .i64 0]) (by rw [e1.out]; exact (results_tmp2 (t := 2) (u := 3) rfl _ _ _).trans (by rw [m2, m3])) hdf ⟨rfl, BB.trans (hb9.mono BB.size)⟩
  · skip
    have e1 : encR ⟨ep, nu, ki, xs, da, tx⟩ = ⟨#[]⟩ := if_neg hz
    rw [e1]
    have hc := fun w (h : Sl w a n xs) => check_any ep nu ki a n cap xs da tx w h ht hd
    have hS := h.later (below_alloc w (.cells #[.int .i64 ep, .int .i64 nu, .int .i64 ki, .slice a n cap, .string da, .string tx] 24))
    clear e1
    generalize chk ⟨ep, nu, ki, xs, da, tx⟩ = c at *
    go_enter Tryd.func13, Tryd.ntmps13
    go_wp2_with fail
    refine (hc _ hS).mono ?_
    rintro e w1 ⟨rfl, b1⟩
    have BB := (below_alloc w _).trans (b1.mono (by simp))
    clear hc hS b1
    go_wp2
    go_ret2
    exact ⟨rfl, BB⟩
end Re
end Go.Proofs.YtnpbgjafahhadaaDoor
