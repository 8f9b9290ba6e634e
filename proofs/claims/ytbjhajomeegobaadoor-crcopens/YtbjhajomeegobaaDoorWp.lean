/- A part of the proofs about package crc: what its functions answer, call by call. -/
import Derived.Test.YtbjhajomeegobaaDoorWo
namespace Go.Proofs.YtbjhajomeegobaaDoor
open Go.RowKit
namespace Cr

/-- The check sum of bytes whose check sum is c, and n bytes 0 behind them. -/
def zer (c n : Nat) : Nat := flip32 (stN (8 * n) (flip32 c))
theorem zer_more (c n : Nat) : zer c n = more c (List.replicate n 0) := by unfold zer more; rw [reg_zeros]
theorem zer_zero {c : Nat} (h : c < 4294967296) : zer c 0 = c := flip32_flip32 h
theorem zer_lt (c n : Nat) : zer c n < 4294967296 := flip32_lt _
theorem zer_add (c m n : Nat) : zer (zer c m) n = zer c (m + n) := by
  unfold zer
  rw [flip32_flip32 (stN_lt _ (flip32_lt c)), ← stN_add, Nat.mul_add]
theorem wraps_i64 (n : Int) (h₀ : 0 ≤ n) (h₁ : n < 2 ^ 63) : IntKind.i64.wrap n = n := by rw [IntKind.wrap_i64]; omega
theorem and1_i64 {z : Int} (h0 : 0 ≤ z) (h1 : z ≤ 9223372036854775807) : bits .and .i64 z 1 = z % 2 := bits_mask .i64 63 (by decide) wraps_i64 1 (by decide) z h0 (by omega)
theorem odd_round {k R : Nat} {z : Int} (h0 : 0 < z) (hb : z % 2 = 1) : stN ((k + k) * (z / 2).toNat) (stN k R) = stN (k * z.toNat) R := by
  rw [← stN_add]
  congr 1
  obtain ⟨N, rfl⟩ := Int.eq_ofNat_of_zero_le (show 0 ≤ z by omega)
  have e1 : ((N : Int) / 2).toNat = N / 2 := by omega
  have e2 : (N : Int).toNat = 2 * (N / 2) + 1 := by omega
  rw [e1, e2, Nat.mul_add, Nat.mul_one, Nat.add_comm k, Nat.add_mul, ← Nat.mul_assoc, Nat.mul_comm k 2, Nat.mul_assoc, Nat.two_mul]
theorem even_round {k R : Nat} {z : Int} (h0 : 0 < z) (hb : z % 2 = 0) : stN ((k + k) * (z / 2).toNat) R = stN (k * z.toNat) R := by
  congr 1
  obtain ⟨N, rfl⟩ := Int.eq_ofNat_of_zero_le (show 0 ≤ z by omega)
  have e1 : ((N : Int) / 2).toNat = N / 2 := by omega
  have e2 : (N : Int).toNat = 2 * (N / 2) := by omega
  rw [e1, e2, Nat.add_mul, ← Nat.mul_assoc, Nat.mul_comm k 2, Nat.mul_assoc, Nat.two_mul]
theorem wpList_store_none {P : Program} {ops : Array Oper} {rest : List Oper} {o : Oper} {a : Act} {w : World} {Q : Exit → Act → World → Prop} (hd : o.dst = none) (hgd : o.guard = none) (ty : TypeId) (x y : Operand) (ho : o.op = .store ty x y)
    (g : Nat) (cells : Array Value) (hx : a.eval x = .pointer (some ⟨g, 0, none⟩)) (hy : a.eval y = .agg cells)
    (t : TypeId) (old : Array Value) (hg : w.heap[g]? = some (.cells old t (0, 0))) (hi : (P.info? ty).map (·.size) = some cells.size)
    (hold : old.size = cells.size) (h1 : cells.all (·.oneCell') = true)
    (h : wpList P ops Q rest a (w.setRow g cells)) : wpList P ops Q (o :: rest) a w :=
  wpList_store_row hgd ty x y ho g cells hx hy t old hg hi hold h1 (by rw [hd]; exact h)
set_option maxHeartbeats 1000000 in
theorem zeros_any (c : Nat) (hc : c < 4294967296) (n : Int) (hn : -9223372036854775808 ≤ n ∧ n ≤ 9223372036854775807) (w : World) :
    Calls Tryd.prog 19 #[.int .u32 (c : Nat), .int .i64 n] w fun e w' => e = .returned (.int .u32 (zer c n.toNat : Nat)) ∧ Below w.heap.size w w' := by
  have hx := xor_flip hc
  have hsg : IntKind.u32.signed = false := rfl
  have hmx : IntKind.u32.max = 4294967295 := rfl
  have hs8 := mt_info (Mk 8)
  go_enter Tryd.func19, Tryd.ntmps19
  go_wp2_with fail
  refine (zeroByte_any _).mono ?_
  rintro e w1 ⟨rfl, hb1⟩
  have hz : RowAt (w1.alloc (.cells (mt (fun _ => 0)) 54)) w1.heap.size (fun _ => 0) := RowAt.new w1 _
  have HZ := hide ((hz.setRow (Mk 8)))
  rw [mt_zero] at hz HZ
  have HB : Hid (∀ o r, Below w.heap.size w ((w1.alloc o).setRow w1.heap.size r)) := fun o r => below_setRow (hb1.trans ((below_alloc _ _).mono hb1.size)) hb1.size _
  have HS := hide hb1.size
  clear hb1
  go_wp2_with (refine wpList_store_none rfl rfl 54 (.tmp 6) (.tmp 9) rfl w1.heap.size (mt (Mk 8)) rfl rfl 54 _ hz hs8 (by rw [mt_size]; rfl) (mt_oneCell _) ?_)
  clear hz hx
  go_loopw [1, 5, 6] (fun v r p wr => ∃ (z : Int) (R k g : Nat), v = .int .i64 z ∧ (-9223372036854775808 ≤ z ∧ z ≤ 9223372036854775807) ∧ r = .int .u32 (R : Nat) ∧ R < 4294967296 ∧ p = .pointer (some ⟨g, 0, none⟩) ∧ w.heap.size ≤ g ∧ RowAt wr g (Mk k) ∧ Below w.heap.size w wr ∧ Hid (stN (k * z.toNat) R = stN (8 * n.toNat) (flip32 c))) (fun v _ _ _ => (intOf v).toNat)
  case atStart => exact ⟨n, flip32 c, 8, w1.heap.size, rfl, hn, rfl, flip32_lt c, rfl, HS.out, HZ.out, HB.out _ _, rfl⟩
  case round =>
    clear HZ HB HS
    obtain ⟨z, R, k, g, rfl, hzb, rfl, hR, rfl, hg, hrow, hbr, HE⟩ := hrel
    by_cases hpos : 0 < z
    · have ha := and1_i64 (z := z) (by omega) (by omega)
      have hsk := mt_info (Mk k)
      have hskk := mt_info (Mk (k + k))
      by_cases hodd : z % 2 = 1
      · have HO := hide (odd_round (k := k) (R := R) hpos hodd)
        have hlR := stN_lt k hR
        rw [hodd] at ha
        clear hodd
        go_wp2_with (refine wpList_load_row rfl 54 (.tmp 6) rfl g rfl 54 _ (0, 0) _ hrow Tryd.underlying54 rfl hsk ?_)
        refine (times_Mk k R hR _).mono ?_
        rintro e w2 ⟨rfl, hb2⟩
        have row2 := hrow.later hb2
        have bel2 := hbr.trans (hb2.mono hbr.size)
        clear hrow hbr hb2
        generalize stN k R = R2 at *
        go_wp2_with (refine wpList_load_row rfl 54 (.tmp 6) rfl g rfl 54 _ (0, 0) _ row2 Tryd.underlying54 rfl hsk ?_)
        refine (square_Mk k _).mono ?_
        rintro e w3 ⟨rfl, hb3⟩
        have row3 := row2.later hb3
        have row4 := row3.setRow (Mk (k + k))
        have hz : RowAt ((w3.setRow g (mt (Mk (k + k)))).alloc (.cells (mt (fun _ => 0)) 54)) w3.heap.size (fun _ => 0) := by
          have := RowAt.new (w3.setRow g (mt (Mk (k + k)))) (fun _ => 0)
          rwa [setRow_size] at this
        have R5 := hide (hz.setRow (Mk (k + k)))
        rw [mt_zero] at hz R5
        have B3 := bel2.trans (hb3.mono bel2.size)
        have B5 : Hid (∀ o, Below w.heap.size w (((w3.setRow g (mt (Mk (k + k)))).alloc o).setRow w3.heap.size (mt (Mk (k + k))))) := fun o => below_setRow ((below_setRow B3 hg _).trans ((below_alloc _ _).mono (by rw [setRow_size]; exact B3.size))) B3.size _
        have S3 := hide B3.size
        have HN := hide (HO.out.trans HE.out)
        clear row2 hb3 B3 bel2 HO HE
        go_wp2_with (first | (refine wpList_store_none rfl rfl 54 (.tmp 6) (.tmp 21) rfl g (mt (Mk (k + k))) rfl rfl 54 _ row3 hskk (by rw [mt_size, mt_size]) (mt_oneCell _) ?_) | (refine wpList_load_row rfl 54 (.tmp 6) rfl g rfl 54 (mt (Mk (k + k))) (0, 0) _ row4 Tryd.underlying54 rfl hskk ?_) | (refine wpList_store_none rfl rfl 54 (.tmp 6) (.tmp 22) rfl w3.heap.size (mt (Mk (k + k))) rfl rfl 54 _ hz hskk (by rw [mt_size]; rfl) (mt_oneCell _) ?_))
        go_roundw
        case rel => exact ⟨z / 2, R2, k + k, w3.heap.size, rfl, by omega, rfl, by assumption, rfl, S3.out, R5.out, B5.out _, HN⟩
        case measure => simp [intOf]; omega
      · have hev : z % 2 = 0 := by omega
        have HO := hide (even_round (k := k) (R := R) hpos hev)
        rw [hev] at ha
        clear hodd hev
        go_wp2_with (refine wpList_load_row rfl 54 (.tmp 6) rfl g rfl 54 _ (0, 0) _ hrow Tryd.underlying54 rfl hsk ?_)
        refine (square_Mk k _).mono ?_
        rintro e w3 ⟨rfl, hb3⟩
        have row3 := hrow.later hb3
        have row4 := row3.setRow (Mk (k + k))
        have hz : RowAt ((w3.setRow g (mt (Mk (k + k)))).alloc (.cells (mt (fun _ => 0)) 54)) w3.heap.size (fun _ => 0) := by
          have := RowAt.new (w3.setRow g (mt (Mk (k + k)))) (fun _ => 0)
          rwa [setRow_size] at this
        have R5 := hide (hz.setRow (Mk (k + k)))
        rw [mt_zero] at hz R5
        have B3 := hbr.trans (hb3.mono hbr.size)
        have B5 : Hid (∀ o, Below w.heap.size w (((w3.setRow g (mt (Mk (k + k)))).alloc o).setRow w3.heap.size (mt (Mk (k + k))))) := fun o => below_setRow ((below_setRow B3 hg _).trans ((below_alloc _ _).mono (by rw [setRow_size]; exact B3.size))) B3.size _
        have S3 := hide B3.size
        have HN := hide (HO.out.trans HE.out)
        clear hrow hb3 B3 hbr HO HE
        go_wp2_with (first | (refine wpList_store_none rfl rfl 54 (.tmp 6) (.tmp 21) rfl g (mt (Mk (k + k))) rfl rfl 54 _ row3 hskk (by rw [mt_size, mt_size]) (mt_oneCell _) ?_) | (refine wpList_load_row rfl 54 (.tmp 6) rfl g rfl 54 (mt (Mk (k + k))) (0, 0) _ row4 Tryd.underlying54 rfl hskk ?_) | (refine wpList_store_none rfl rfl 54 (.tmp 6) (.tmp 22) rfl w3.heap.size (mt (Mk (k + k))) rfl rfl 54 _ hz hskk (by rw [mt_size]; rfl) (mt_oneCell _) ?_))
        go_roundw
        case rel => exact ⟨z / 2, R, k + k, w3.heap.size, rfl, by omega, rfl, by assumption, rfl, S3.out, R5.out, B5.out _, HN⟩
        case measure => simp [intOf]; omega
    · have HF : Hid (flip32 R = zer c n.toNat) := by
        show _ = _
        have h0 : z.toNat = 0 := by omega
        have := HE.out
        rw [h0, Nat.mul_zero] at this
        show _ = flip32 _
        rw [← this]; rfl
      have hy := xor_flip hR
      clear HE
      go_wp2
      go_ret
      exact ⟨ret_int (by rw [HF.out]), hbr⟩

end Cr
end Go.Proofs.YtbjhajomeegobaaDoor
