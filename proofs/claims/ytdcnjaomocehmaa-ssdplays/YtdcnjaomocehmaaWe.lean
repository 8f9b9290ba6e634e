/- A part of the proofs about package ssd: what its functions answer, call by call. -/
import Derived.Test.YtdcnjaomocehmaaWd
namespace Go.Proofs.Ytdcnjaomocehmaa
open Go.RowKit
namespace Wi

theorem info5s : (Try.prog.info? 5).map (·.size) = some 1 := by kernel_rfl
/-- The row that a read fills: k sectors are there. -/
def rd (d : Dv) (a n k : Nat) : List Value := encB (d.secs a k ++ List.replicate (64 * (n - k)) 0)
theorem rd_zero (d : Dv) (a n : Nat) : rd d a n 0 = encB (List.replicate (n * 64) 0) := by
  simp [rd, Dv.secs, Nat.mul_comm]
theorem rd_all (d : Dv) (a n : Nat) : rd d a n n = encB (d.secs a n) := by simp [rd]
theorem rd_length {d : Dv} (h : d.Ok) {a n k : Nat} (hk : k ≤ n) (hn : a + n ≤ d.last.length) : (rd d a n k).length = n * 64 := by
  rw [rd, encB_length, List.length_append, Dv.secs_length h a k (by omega), List.length_replicate]; omega
theorem rd_succ {d : Dv} (h : d.Ok) {a n k : Nat} (hk : k < n) (hn : a + n ≤ d.last.length) : splice (rd d a n k) (k * 64) (encB (d.at (a + k))) = rd d a n (k + 1) := by
  have hl := Dv.secs_length h a k (by omega)
  have ha := h.at (show a + k < d.last.length by omega)
  rw [rd, encB_append, splice_mid _ _ _ _ (by rw [encB_length, hl, Nat.mul_comm]), rd, Dv.secs_succ, encB_append, encB_append]
  congr 1
  rw [encB_length, ha]
  unfold encB
  rw [← List.map_drop, List.drop_replicate, show 64 * (n - k) - 64 = 64 * (n - (k + 1)) by omega]
set_option maxHeartbeats 1000000 in
theorem read_any {w : World} {b : Nat} {X : Nat → Prop} {d : Dv} (h : Dev w b X d) (a n : Int) (ha : -9223372036854775808 ≤ a ∧ a ≤ 9223372036854775807) (hn : -9223372036854775808 ≤ n ∧ n ≤ 9223372036854775807) :
    Calls Try.prog 23 #[.pointer (some ⟨b, 0, none⟩), .int .i64 a, .int .i64 n] w fun e w' => e = .returned (.tuple #[.string (str (d.readS a n)), .int .i64 (d.readE a n)]) ∧ Below w.heap.size w w' := by
  obtain ⟨sv, pv, z, h, rfl⟩ := h
  obtain ⟨c0, c1, c2, c3⟩ := h.raw.c
  cases hg : d.gone with
  | true =>
    have e1 : d.readE a n = 17 := by simp [Dv.readE, hg]
    have e2 : d.readS a n = [] := by simp [Dv.readS, e1]
    rw [hg] at c3
    rw [e1, e2]
    go_enter Try.func23, Try.ntmps23
    go_wp2
    go_ret2
    exact ⟨rfl, Below.refl _ _⟩
  | false =>
    rw [hg] at c3
    by_cases h1 : a < 0 ∨ n < 0
    · have e1 : d.readE a n = 1 := by simp [Dv.readE, hg, h1]
      have e2 : d.readS a n = [] := by simp [Dv.readS, e1]
      rw [e1, e2]
      go_enter Try.func23, Try.ntmps23
      go_wp2
      all_goals
        go_ret2
        exact ⟨rfl, Below.refl _ _⟩
    · obtain ⟨A, rfl⟩ := Int.eq_ofNat_of_zero_le (show 0 ≤ a by omega)
      obtain ⟨N, rfl⟩ := Int.eq_ofNat_of_zero_le (show 0 ≤ n by omega)
      have hf := fits_any h.raw (A : Int) (N : Int) (by omega) (by omega)
      have hm := h.ok.most
      rw [d.now_length] at hf
      by_cases h2 : A + N ≤ d.last.length
      · have e1 : d.readE A N = 0 := by
          have : ¬ ((d.last.length : Int) - A < N) := by omega
          simp [Dv.readE, hg, Dv.beyond, this]
        have e2 : d.readS A N = d.secs A N := by simp [Dv.readS, e1]
        rw [e1, e2]
        rw [decide_eq_true (by omega)] at hf
        have hmk := make_bytes (N := N * 64) (by omega)
        have hmk2 : ∀ w, _ := fun w => by
          have := hmk w
          rw [Int.natCast_mul, show ((64 : Nat) : Int) = 64 from rfl] at this
          exact this
        clear hmk
        have R0 : (w.alloc (.cells (zs (N * 64)) 5)).heap[w.heap.size]? = some (.cells (rd d A N 0).toArray 5 (0, 0)) := by
          rw [rd_zero, ← zs_list]
          exact heap_alloc_new w _
        have R0 := hide R0
        have B0 := hide (below_alloc w (.cells (zs (N * 64)) 5))
        generalize zs (N * 64) = ZZ at *
        go_enter Try.func23, Try.ntmps23
        go_wp2_with fail
        refine hf.mono ?_
        rintro e w' ⟨rfl, rfl⟩
        go_wp2
        go_loopw [35] (fun i wr => ∃ k : Nat, k ≤ N ∧ i = .int .i64 k ∧ Hid (wr.heap[w'.heap.size]? = some (.cells (rd d A N k).toArray 5 (0, 0))) ∧ Below w'.heap.size w' wr) (fun i _ => N - (intOf i).toNat)
        case atStart => exact ⟨0, Nat.zero_le _, rfl, R0, B0.out⟩
        case round =>
          obtain ⟨k, hk, rfl, HR, hbr⟩ := hrel
          have hne := later_ne wr
          by_cases hlt : k < N
          · have hnow := Dv.now_get (d := d) (i := A + k) (by omega)
            obtain ⟨gs, cap, hsv, hgs⟩ := row_form h.raw.sec (by rw [d.now_length]; omega)
            obtain ⟨hrg, hth⟩ := h.raw.sector hsv hnow
            have hat := h.ok.at (show A + k < d.last.length by omega)
            have HS := hide (rd_succ h.ok hlt h2)
            have hrl := rd_length h.ok (a := A) (Nat.le_of_lt hlt) h2
            rw [hsv, d.now_length] at c0
            have c0' : ∀ p : Later wr, p.val.cell? ⟨b, 0, none⟩ = some (.slice (some ⟨gs, 0, none⟩) d.last.length cap) := fun p => by
              rw [p.below.cell (Nat.lt_of_lt_of_le h.raw.lt hbr.size), hbr.cell h.raw.lt]
              exact c0
            clear c0
            have HG := hide hrg
            clear hrg hth hnow
            go_wp2
            refine wp_region_later_tail 13 (by kernel_rfl) (by kernel_rfl) ?_
            simp only [List.take, List.drop]
            (repeat (first | go_big_quiet_skip | (go_big_quiet_want; go_big_quiet_op; go_big_quiet_on)))
            refine wpQuiet_nil ?_
            rintro _ ⟨p, rfl⟩
            have hbp := hbr.trans (p.below.mono hbr.size)
            refine wpList_copy_splice rfl (.tmp 41) (.tmp 50) 41 41 rfl 5 Try.underlying41 info5s _ _ _ _ _ _ rfl rfl w'.heap.size (k * 64) (rd d A N k) 5 ?hg (encB (d.at (A + k))) ?hn ?hpos ?hfit (encB_oneCell _) w'.heap.size w' hbp (Nat.le_refl _) ?next
            case hg => exact (p.below.block _ (lt_of_block HR.out)).trans HR.out
            case hn => rw [encB_length, hat]; show 64 = Nat.min 64 _; have : 64 ≤ N * 64 - k * 64 := by omega
                       exact (Nat.min_eq_left this).symm
            case hfit => rw [encB_length, hat, hrl]; omega
            case hpos =>
              intro _
              refine ⟨rfl, _, rfl, fun j v hj => ?_⟩
              have := HG.out j v hj
              rw [Addr.add_mid, p.below.cell (Nat.lt_of_lt_of_le (by exact hgs) hbr.size), hbr.cell (by exact hgs)]
              exact this
            case next =>
              intro w2 HG2 hb2
              rw [HS.out] at HG2
              go_wp2
              go_roundw
              case rel => exact ⟨k + 1, by omega, by go_num, HG2, hb2⟩
              case measure => simp [intOf]; omega
          · obtain rfl : k = N := by omega
            rw [rd_all] at HR
            have hcv := conv_bytes wr w'.heap.size 0 (k * 64) (k * 64) (d.secs A k) (by rw [Dv.secs_length h.ok A k h2, Nat.mul_comm]) (fun i x hx => by
              rw [cell_of_row wr _ _ _ _ _ HR.out, Nat.zero_add, List.getElem?_toArray, encB_get hx])
            go_wp2
            go_ret2
            exact ⟨rfl, hbr⟩
      · have e1 : d.readE A N = 31 := by
          have : ((d.last.length : Int) - A < N) := by omega
          simp [Dv.readE, hg, Dv.beyond, this]
        have e2 : d.readS A N = [] := by simp [Dv.readS, e1]
        rw [e1, e2]
        rw [decide_eq_false (by omega)] at hf
        go_enter Try.func23, Try.ntmps23
        go_wp2_with fail
        refine hf.mono ?_
        rintro e w' ⟨rfl, rfl⟩
        go_wp2
        go_ret2
        exact ⟨rfl, Below.refl _ _⟩

end Wi
end Go.Proofs.Ytdcnjaomocehmaa
