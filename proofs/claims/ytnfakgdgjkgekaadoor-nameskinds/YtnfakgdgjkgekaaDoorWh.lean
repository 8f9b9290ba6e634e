/- The library's FormatInt at base 16. -/
import Derived.Test.YtnfakgdgjkgekaaDoorWg
namespace Go.Proofs.YtnfakgdgjkgekaaDoor
open Go.RowKit
namespace Wi

/-- The table that TrailingZeros64 reads, as far as it is read here. -/
structure Tz (w : World) : Prop where
  lt : 3 < w.heap.size
  cell : w.cell? ⟨3, 15, none⟩ = some (.int .u8 4)
theorem Tz.later {w w' : World} (h : Tz w) (hb : Below w.heap.size w w') : Tz w' := ⟨Nat.lt_of_lt_of_le h.lt hb.size, (hb.cell (p := ⟨3, 15, none⟩) h.lt).trans h.cell⟩
theorem tz64_any (w : World) (T : Tz w) : Calls Tryd.prog 76 #[.int .u64 16] w fun e w' => e = .returned (.int .i64 4) ∧ w' = w := by
  have c := T.cell
  have h1 : IntKind.u64.wrap (-16) = 18446744073709551600 := by kernel_rfl
  have h2 : bits .and .u64 16 18446744073709551600 = 16 := by kernel_rfl
  have h3 : IntKind.u64.wrap (16 * 285870213051353865) = 4573923408821661840 := by kernel_rfl
  have h4 : (4573923408821661840 : Int) / 288230376151711744 = 15 := by decide
  go_enter Tryd.func76, Tryd.ntmps76
  go_wp2
  go_ret
  exact ⟨rfl, rfl⟩
theorem tz_any (w : World) (T : Tz w) : Calls Tryd.prog 63 #[.int .u64 16] w fun e w' => e = .returned (.int .i64 4) ∧ w' = w := by
  have hc := tz64_any w T
  go_enter Tryd.func63, Tryd.ntmps63
  go_wp2_with fail
  refine hc.mono ?_
  rintro e w' ⟨rfl, rfl⟩
  go_wp2
  go_ret
  exact ⟨rfl, rfl⟩
theorem pow2_any (w : World) : Calls Tryd.prog 62 #[.int .i64 16] w fun e w' => e = .returned (.bool true) ∧ w' = w := by
  go_enter Tryd.func62, Tryd.ntmps62
  go_wp2
  go_ret
  exact ⟨rfl, rfl⟩
set_option maxRecDepth 20000 in
theorem conv_bytes (w : World) (b off len cap : Nat) (l : List Nat) (hl : l.length = len) (hcell : ∀ i x, l[i]? = some x → w.cell? ⟨b, off + i, none⟩ = some (.int .u8 (x : Nat))) :
    (convert 66 9 (.slice (some ⟨b, off, none⟩) len cap)).run Tryd.prog w = .ok (.string (str l)) w := by
  have h := run_convert_bytes_arg (P := Tryd.prog) w 66 5 Tryd.underlying66 Tryd.underlying5 b off len cap (l.map fun x => ((x : Nat) : Int)) (by simpa using hl) (fun i hi => by
    have hx : l[i]? = some l[i] := List.getElem?_eq_getElem (by omega)
    rw [hcell i _ hx]
    simp [List.getD, hx]) 9 Tryd.underlying9
  rw [h]
  congr 2
  apply ByteArray.ext
  simp [strOfNums, str, Function.comp_def]
def DIG : ByteArray := { data := #[48, 49, 50, 51, 52, 53, 54, 55, 56, 57, 97, 98, 99, 100, 101, 102, 103, 104, 105, 106, 107, 108, 109, 110, 111, 112, 113, 114, 115, 116, 117, 118, 119, 120, 121, 122] }
theorem dig_all : ∀ d : Fin 16, (bs DIG)[d.val]? = some (hexd d.val) := by decide
theorem dig_at {d : Nat} (h : d < 16) : ∃ h' : d < DIG.size, (DIG[d]'h').toNat = hexd d := by
  have h' : d < DIG.size := Nat.lt_trans h (by decide)
  have h1 := bs_get DIG d h'
  have h2 := dig_all ⟨d, h⟩
  rw [h1] at h2
  exact ⟨h', Option.some.inj h2⟩
theorem dig_run {d : Nat} (h : d < 16) (w : World) : (Instr.index 9 (.string DIG) (.int .u64 (d : Nat))).run Tryd.prog w = .ok (.int .u8 (hexd d : Nat)) w := by
  obtain ⟨h', e⟩ := dig_at h
  have e2 : ((DIG[d]'h').toNat : Int) = (hexd d : Nat) := by rw [e]
  simp [Instr.index, run_underlying Tryd.underlying9, asIntOf, h', e2]
theorem run_arr (R k : Nat) (hk : k ≤ 64) (w : World) : (Instr.sliceAt 96 (.pointer (some ⟨R, 0, none⟩)) (some (.int .i64 (k : Nat))) none none).run Tryd.prog w = .ok (.slice (some ⟨R, k, none⟩) (65 - k) (65 - k)) w := by
  have b3 : ¬ 65 = k := by omega
  simp [Instr.sliceAt, Instr.slice, Instr.sliceBounds, Instr.sliceBound, run_underlying Tryd.underlying96, asIntOf, b3, Instr.sureAddr, show k ≤ 65 by omega, Addr.add_mid]
theorem w64 (n : Int) (h0 : 0 ≤ n) (h1 : n < 2 ^ 64) : IntKind.u64.wrap n = n := by rw [IntKind.wrap_u64]; omega
/-- The block of 65 bytes whose last ones are these. -/
structure Tail (w : World) (R : Nat) (i : Nat) (ds : List Nat) : Prop where
  len : ds.length + i = 65
  blk : ∃ cs, w.heap[R]? = some (.cells cs 96 (0, 0)) ∧ cs.size = 65 ∧ ∀ j x, ds[j]? = some x → cs[i + j]? = some (.int .u8 (x : Nat))
theorem Tail.fr {w : World} {R i : Nat} {ds : List Nat} (h : Tail w R i ds) (j : Nat) (hj : j < 65) : (∃ v, w.cell? ⟨R, j, none⟩ = some v) ∧ w.frozen? ⟨R, j, none⟩ = false := by
  obtain ⟨cs, h1, h2, _⟩ := h.blk
  exact ⟨⟨cs[j]'(by omega), by rw [cell_of_row _ _ _ _ _ _ h1, Array.getElem?_eq_getElem (by omega)]⟩, frozen_of_row _ _ _ _ _ h1⟩
theorem Tail.push {w : World} {R i : Nat} {ds : List Nat} (h : Tail w R (i + 1) ds) (x : Nat) : Tail (w.setCell ⟨R, i, none⟩ (.int .u8 (x : Nat))) R i (x :: ds) := by
  obtain ⟨cs, h1, h2, h3⟩ := h.blk
  have hl := h.len
  refine ⟨by simp only [List.length_cons]; omega, cs.setIfInBounds i (.int .u8 (x : Nat)), setCell_blk h1 _, by simpa using h2, fun j y hj => ?_⟩
  cases j with
  | zero =>
    simp at hj
    subst hj
    simp [show i < cs.size by omega]
  | succ j =>
    rw [Array.getElem?_setIfInBounds_ne (by omega)]
    have := h3 j y (by simpa using hj)
    rw [show i + (j + 1) = i + 1 + j by omega]
    exact this
theorem Tail.conv {w : World} {R i : Nat} {ds : List Nat} (h : Tail w R i ds) (n c : Nat) (hn : n = 65 - i) : (convert 66 9 (.slice (some ⟨R, i, none⟩) n c)).run Tryd.prog w = .ok (.string (str ds)) w := by
  obtain ⟨cs, h1, h2, h3⟩ := h.blk
  refine conv_bytes w R i n c ds (by have := h.len; omega) fun j x hj => ?_
  rw [cell_of_row _ _ _ _ _ _ h1]
  exact h3 j x hj
set_option maxHeartbeats 4000000 in
set_option maxRecDepth 20000 in
theorem fbits_any (n : Nat) (hn : n < 1099511627776) (w : World) (T : Tz w) : Calls Tryd.prog 50 #[.slice none 0 0, .int .u64 (n : Nat), .int .i64 16, .bool false, .bool false] w fun e w' => e = .returned (.tuple #[.slice none 0 0, .string (str (hexL n))]) ∧ Below w.heap.size w w' := by
  have hb0 := below_alloc w (.cells Tryd.zeroCells96 96)
  have hN0 := heap_alloc_new w (.cells Tryd.zeroCells96 96)
  have HT0 : Hid (Tail (w.alloc (.cells Tryd.zeroCells96 96)) w.heap.size 65 []) := ⟨rfl, _, hN0, by kernel_rfl, by simp⟩
  have T0 := T.later hb0
  obtain ⟨w0, hw0⟩ : ∃ w0, w0 = w.alloc (.cells Tryd.zeroCells96 96) := ⟨_, rfl⟩
  rw [← hw0] at hb0 T0 HT0
  have HW0 := hide hw0
  have HB0 := hide hb0
  have hp := pow2_any w0
  have ht := tz_any w0 T0
  clear hw0 hN0 hb0
  go_enter Tryd.func50, Tryd.ntmps50
  go_wp2_with fail
  rw [← HW0.out]
  refine hp.mono ?_
  rintro e w' ⟨rfl, hww⟩
  subst hww
  clear hp
  go_wp2_with fail
  refine ht.mono ?_
  rintro e w1 ⟨rfl, hww⟩
  subst hww
  clear ht
  go_wp2
  go_loopw [1, 13] (fun x i wr => ∃ (u I : Nat) (ds : List Nat), 55 ≤ I ∧ I ≤ 65 ∧ u < 1099511627776 ∧ x = .int .u64 u ∧ i = .int .i64 I ∧ Hid (u < 16 ^ (I - 55) ∧ (I = 65 ∨ 1 ≤ u)) ∧ Hid (hexL n = hexL u ++ ds) ∧ Tail wr w.heap.size I ds ∧ Below w.heap.size w wr) (fun x _ _ => (intOf x).toNat)
  case atStart => exact ⟨n, 65, [], by omega, by omega, hn, rfl, rfl, ⟨by omega, .inl rfl⟩, by show _ = _; simp, HT0.out, HB0.out⟩
  case round =>
    clear HT0
    obtain ⟨u, I, ds, hI1, hI2, hu, rfl, rfl, HU, HX, hT, hb⟩ := hrel
    have HT := hide hT
    have HB := hide hb
    clear hb
    have hI56 : 56 ≤ I := by
      have := HU.out
      rcases Nat.lt_or_ge 55 I with h | h
      · exact h
      · obtain rfl : I = 55 := by omega
        simp at this
        omega
    obtain ⟨J, rfl⟩ : ∃ J, I = J + 1 := ⟨I - 1, by omega⟩
    obtain ⟨⟨v0, c0⟩, f0⟩ := hT.fr J (by omega)
    have hJ : J ≤ 64 := by omega
    clear hT
    by_cases hge : u < 16
    · have HF := hide (HT.out.push (hexd u))
      have HX2 : Hid (hexL n = hexd u :: ds) := by
        have := HX.out
        rw [hexL_small hge] at this
        exact this
      have hdg := dig_run hge
      have hsl := run_arr w.heap.size J (by omega)
      have hcv := HF.out.conv (65 - J) (65 - J) rfl
      have HB2 := hide (HB.out.trans ((Keep.setCell (X := fun j => j = w.heap.size) wr ⟨w.heap.size, J, none⟩ (.int .u8 (hexd u : Nat)) rfl).below HB.out.size fun k hk e => by omega))
      clear HU HX HT HB HF
      generalize hexd u = C at *
      unfold DIG at hdg
      go_wp2
      go_ret2
      exact ⟨by rw [HX2.out]; rfl, HB2.out⟩
    · have hd16 : u % 16 < 16 := by omega
      have HF := hide (HT.out.push (hexd (u % 16)))
      have HX2 : Hid (hexL n = hexL (u / 16) ++ (hexd (u % 16) :: ds)) := by
        have := HX.out
        rw [hexL_big hge, List.append_assoc] at this
        exact this
      have HU2 : Hid (u / 16 < 16 ^ (J - 55) ∧ (J = 65 ∨ 1 ≤ u / 16)) := by
        have := HU.out.1
        rw [show J + 1 - 55 = (J - 55) + 1 by omega, Nat.pow_succ] at this
        exact ⟨by omega, .inr (by omega)⟩
      have hdg := dig_run hd16
      have hand : bits .and .u64 (u : Int) 15 = ((u % 16 : Nat) : Int) := (bits_mask .u64 64 (by decide) w64 4 (by decide) (u : Int) (by omega) (by omega)).trans (by omega)
      have hdiv : (u : Int) / 16 = ((u / 16 : Nat) : Int) := by omega
      have HB2 := hide (HB.out.trans ((Keep.setCell (X := fun j => j = w.heap.size) wr ⟨w.heap.size, J, none⟩ (.int .u8 (hexd (u % 16) : Nat)) rfl).below HB.out.size fun k hk e => by omega))
      have hlt2 : u / 16 < u := by omega
      have hu2 : u / 16 < 1099511627776 := by omega
      clear HU HX HT HB
      generalize hexd (u % 16) = C at *
      generalize u % 16 = M at *
      generalize u / 16 = Q at *
      unfold DIG at hdg
      go_wp2
      go_roundw
      case rel => exact ⟨Q, J, C :: ds, by omega, by omega, hu2, rfl, by go_num, HU2, HX2, HF.out, HB2.out⟩
      case measure => simp [intOf]; omega

end Wi
end Go.Proofs.YtnfakgdgjkgekaaDoor
