/- Names as texts: Print. -/
import Derived.Test.YtnfakgdgjkgekaaDoorWj
import Derived.Test.YtnfakgdgjkgekaaDoorSh
namespace Go.Proofs.YtnfakgdgjkgekaaDoor
open Go.RowKit
namespace Wi

def prnE (v : ByteArray) (z q : Int) : Int := if preE v z = 0 then (if 0 ≤ q ∧ q < 1099511627776 then 0 else 31) else preE v z
def prnL (v : ByteArray) (z q : Int) : List Nat := preL (bs v) z.toNat ++ dgs 10 q.toNat
def prnS (v : ByteArray) (z q : Int) : ByteArray := if prnE v z q = 0 then str (prnL v z q) else { data := #[] }
theorem rep_zero : ∀ c, Lib.repeatL ({ data := #[48] } : ByteArray).data.toList c = List.replicate c (48 : UInt8)
  | 0 => rfl
  | c + 1 => by
    have := rep_zero c
    simp only [Lib.repeatL, List.replicate_succ] at this ⊢
    rw [this]
    rfl
theorem rep_str (c : Nat) : (⟨(Lib.repeatL ({ data := #[48] } : ByteArray).data.toList c).toArray⟩ : ByteArray) = str (List.replicate c 48) := by
  rw [rep_zero]
  simp [str]
theorem prn_cat (P : List Nat) (n : Nat) (hn : n < 1099511627776) : str P ++ str (List.replicate (10 - (hexL n).length) 48) ++ str (hexL n) = str (P ++ dgs 10 n) := by
  rw [← str_append, ← str_append, List.append_assoc, (hexL_dgs 10 n (by omega) (by omega)).2]
theorem pre_num (v : ByteArray) (z : Int) : preE v z = 0 ∨ preE v z = 1 ∨ preE v z = 14 := by
  unfold preE
  repeat' split
  all_goals omega
set_option maxHeartbeats 4000000 in
theorem print_any (v : ByteArray) (hv : v.size ≤ 9223372036854775807) (z q : Int) (hz : Num z) (hq : Num q) (w : World) (T : Tz w) : Calls Tryd.prog 11 #[.agg #[.string v, .int .i64 z, .int .i64 q]] w fun e w' => e = .returned (.tuple #[.string (prnS v z q), .int .i64 (prnE v z q)]) ∧ Below w.heap.size w w' := by
  have hb0 := below_alloc w (.cells #[.string v, .int .i64 z, .int .i64 q] 23)
  have hN0 := heap_alloc_new w (.cells #[.string v, .int .i64 z, .int .i64 q] 23)
  obtain ⟨w0, hw0⟩ : ∃ w0, w0 = w.alloc (.cells #[.string v, .int .i64 z, .int .i64 q] 23) := ⟨_, rfl⟩
  rw [← hw0] at hb0 hN0
  have r2 := cell_of_row w0 w.heap.size 2 _ _ _ hN0
  simp only [List.getElem?_toArray, List.getElem?_cons_zero, List.getElem?_cons_succ] at r2
  have lR : w.heap.size < w0.heap.size := lt_of_block hN0
  have HW0 := hide hw0
  have HB0 := hide hb0
  have T0 := T.later hb0
  have hpr := prefix_any v hv z hz w0
  obtain ⟨q1, q2⟩ := hq
  clear hw0 hb0 hN0
  by_cases hE : preE v z = 0
  · have hS : preS v z = str (preL (bs v) z.toNat) := by simp [preS, hE]
    rw [hE, hS] at hpr
    have hvs : v.size ≤ 32 := vol_size (by
      cases hb : volB v with
      | true => rfl
      | false => simp [preE, hb] at hE)
    by_cases hr : 0 ≤ q ∧ q < 1099511627776
    · have e1 : prnE v z q = 0 := by simp [prnE, hE, hr]
      have e2 : prnS v z q = str (preL (bs v) z.toNat ++ dgs 10 q.toNat) := by simp [prnS, e1, prnL]
      rw [e1, e2]
      obtain ⟨hr1, hr2⟩ := hr
      obtain ⟨n, rfl⟩ := Int.eq_ofNat_of_zero_le hr1
      rw [show ((n : Int)).toNat = n by omega]
      have hn : n < 1099511627776 := by omega
      have HC := hide (prn_cat (preL (bs v) z.toNat) n hn)
      have hln := (hexL_dgs 10 n (by omega) (by omega)).1
      have hsz : (str (hexL n)).size = (hexL n).length := str_size _
      have hpz : (str (preL (bs v) z.toNat)).size ≤ 35 := by
        rw [str_size, preL, List.length_append, bs_length]
        show v.size + 3 ≤ 35
        omega
      have HREP := hide (rep_str (10 - (hexL n).length))
      have hrz : (str (List.replicate (10 - (hexL n).length) 48)).size ≤ 10 := by rw [str_size, List.length_replicate]; omega
      clear e1 e2 hE hS hr1 hr2
      have hfm : ∀ w', Below w0.heap.size w0 w' → Calls Tryd.prog 23 #[.int .i64 (n : Nat), .int .i64 16] w' fun e w'' => e = .returned (.string (str (hexL n))) ∧ Below w'.heap.size w' w'' := fun w' hb => format_any n hn w' (T0.later hb)
      have HFM := hide hfm
      clear hfm
      generalize str (preL (bs v) z.toNat) = PS at *
      generalize preL (bs v) z.toNat = PL at *
      generalize str (hexL n) = HS at *
      generalize (hexL n).length = LN at *
      go_enter Tryd.func11, Tryd.ntmps11
      go_wp2_with fail
      rw [← HW0.out]
      refine hpr.mono ?_
      rintro e w1 ⟨rfl, hb1⟩
      have r2' := (hb1.cell (p := ⟨w.heap.size, 2, none⟩) lR).trans r2
      have HB1 := hide (HB0.out.trans (hb1.mono HB0.out.size))
      clear hpr
      have hfm := HFM.out _ hb1
      clear HFM hb1
      go_wp2_with fail
      refine hfm.mono ?_
      rintro e w2 ⟨rfl, hb2⟩
      have HB2 := hide (HB1.out.trans (hb2.mono HB1.out.size))
      clear hfm hb2 r2'
      have hrp := Tryd.strings_Repeat { data := #[48] } (10 - LN) w2 (by omega) (by show 1 * _ ≤ _; omega)
      rw [HREP.out] at hrp
      have hcast : ((10 - LN : Nat) : Int) = 10 - (LN : Int) := by omega
      rw [hcast] at hrp
      generalize str (List.replicate (10 - LN) 48) = RS at *
      go_wp2_with fail
      refine hrp.mono ?_
      rintro e w3 ⟨rfl, hb3⟩
      have HB3 := hide (HB2.out.trans (hb3.mono HB2.out.size))
      clear hrp hb3
      go_wp2
      go_ret2
      exact ⟨by rw [← HC.out]; rfl, HB3.out⟩
    · have e1 : prnE v z q = 31 := by simp [prnE, hE, hr]
      have e2 : prnS v z q = { data := #[] } := by simp [prnS, e1]
      rw [e1, e2]
      clear e1 e2 hE hS
      by_cases hq0 : q < 0
      · clear hr
        go_enter Tryd.func11, Tryd.ntmps11
        go_wp2_with fail
        rw [← HW0.out]
        refine hpr.mono ?_
        rintro e w1 ⟨rfl, hb1⟩
        have r2' := (hb1.cell (p := ⟨w.heap.size, 2, none⟩) lR).trans r2
        have HB1 := hide (HB0.out.trans (hb1.mono HB0.out.size))
        clear hpr
        clear hb1
        go_wp2
        go_ret2
        exact ⟨rfl, HB1.out⟩
      · have hq1 : 1099511627776 ≤ q := by omega
        clear hr
        go_enter Tryd.func11, Tryd.ntmps11
        go_wp2_with fail
        rw [← HW0.out]
        refine hpr.mono ?_
        rintro e w1 ⟨rfl, hb1⟩
        have r2' := (hb1.cell (p := ⟨w.heap.size, 2, none⟩) lR).trans r2
        have HB1 := hide (HB0.out.trans (hb1.mono HB0.out.size))
        clear hpr
        clear hb1
        go_wp2
        go_ret2
        exact ⟨rfl, HB1.out⟩
  · have e1 : prnE v z q = preE v z := by simp [prnE, hE]
    have e2 : prnS v z q = { data := #[] } := by simp [prnS, e1, hE]
    rw [e1, e2]
    have hS : preS v z = { data := #[] } := by simp [preS, hE]
    rw [hS] at hpr
    have hor := pre_num v z
    clear e1 e2 hS
    generalize preE v z = E at *
    have b0 : (E == 0) = false := by simp; omega
    have b1 : (E != 0) = true := by simp; omega
    clear hE hor
    go_enter Tryd.func11, Tryd.ntmps11
    go_wp2_with fail
    rw [← HW0.out]
    refine hpr.mono ?_
    rintro e w1 ⟨rfl, hb1⟩
    have r2' := (hb1.cell (p := ⟨w.heap.size, 2, none⟩) lR).trans r2
    have HB1 := hide (HB0.out.trans (hb1.mono HB0.out.size))
    clear hpr
    clear hb1
    go_wp2
    go_ret2
    exact ⟨rfl, HB1.out⟩

end Wi
end Go.Proofs.YtnfakgdgjkgekaaDoor
