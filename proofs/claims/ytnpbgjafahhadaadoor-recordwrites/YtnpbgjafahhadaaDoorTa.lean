/- What of its data belongs to each span of a record. -/
import Derived.Test.YtnpbgjafahhadaaDoorSd
import Derived.Test.YtnpbgjafahhadaaDoorRe
namespace Go.Proofs.YtnpbgjafahhadaaDoor
open Go.RowKit
namespace Re
open Cr
def encS (l : List ByteArray) : List Value := l.map fun s => .string s
/-- The value v owns the strings l. -/
def OwnS (w : World) (v : Value) (l : List ByteArray) : Prop := w.ownsRow 0 9 1 v l.length (encS l)
theorem OwnS.nil (w : World) : OwnS w (.slice none 0 0) [] := World.ownsRow_nil w 0 9 1
theorem OwnS.kept {w w' : World} {v : Value} {xs : List ByteArray} {row : Option Nat} (h : OwnS w v xs) (hg : w.grownBy w' row) (hne : v.ownBlock = none ∨ v.ownBlock ≠ row) : OwnS w' v xs := World.ownsRow.kept h hg hne
theorem OwnS.later {w w' : World} {v : Value} {xs : List ByteArray} (h : OwnS w v xs) (hb : Below w.heap.size w w') : OwnS w' v xs :=
  h.kept (row := none) ⟨hb.os, hb.tape, hb.output, hb.size, fun k hk _ => hb.block k hk⟩ (by rcases hv : v.ownBlock with _ | k <;> simp)
theorem OwnS.ss {w : World} {v : Value} {xs : List ByteArray} (h : OwnS w v xs) (hf : ∀ s ∈ xs, s.size ≤ 9223372036854775807) : ∃ a cap, v = .slice a xs.length cap ∧ Ss w a xs.length xs := by
  obtain ⟨hl, h2⟩ := id h
  rcases h2 with ⟨hv, hn⟩ | ⟨g, cap, cur, hv, hbg, hgg, hnc, hcm, hcs, htake⟩
  · have : xs = [] := List.eq_nil_of_length_eq_zero hn
    subst this
    exact ⟨none, 0, hv, Ss.nil w none⟩
  · refine ⟨some ⟨g, 0, none⟩, cap, hv, rfl, Nat.le_trans hnc (by simpa [maxLen] using hcm), hf, fun i s hi => ⟨g, 0, rfl, (Array.getElem?_eq_some_iff.1 hgg).1, ?_⟩⟩
    have hil := (List.getElem?_eq_some_iff.1 hi).1
    have := World.ownsRow.cellAt (w := w) (base := 0) (e := 9) (size := 1) (g := g) (n := xs.length) (cap := cap) (xs := encS xs) (hv ▸ h) i (by omega)
    rw [Nat.zero_add, this]
    simp [encS, hi]
theorem info9 : (Tryd.prog.info? 9).map (fun i => (i.zero, i.size, i.bytes)) = some (some (.string ⟨#[]⟩), 1, 16) := by kernel_rfl
theorem str_oneCell (s : ByteArray) : ∀ u ∈ [Value.string s], u.oneCell' = true := by
  intro u hu
  rw [List.mem_singleton.1 hu]
  rfl
/-- What of the data belongs to a span. -/
def pt (da : ByteArray) (xs : List (Int × Int)) (k : Nat) : ByteArray := da.extract (64 * (sumTo xs k).toNat) (64 * (sumTo xs (k + 1)).toNat)
def pts (da : ByteArray) (xs : List (Int × Int)) (k : Nat) : List ByteArray := (List.range k).map (pt da xs)
theorem pts_length (da : ByteArray) (xs : List (Int × Int)) (k : Nat) : (pts da xs k).length = k := by simp [pts]
theorem pts_succ (da : ByteArray) (xs : List (Int × Int)) (k : Nat) : pts da xs (k + 1) = pts da xs k ++ [pt da xs k] := by simp [pts, List.range_succ]
theorem pts_get {da : ByteArray} {xs : List (Int × Int)} {n k : Nat} (h : k < n) : (pts da xs n)[k]? = some (pt da xs k) := by simp [pts, h]
theorem sumTo_mono {xs : List (Int × Int)} (h : allB xs = true) {k : Nat} : ∀ d, k + d ≤ xs.length → sumTo xs k ≤ sumTo xs (k + d)
  | 0, _ => Int.le_refl _
  | d + 1, hd => by
    have ih := sumTo_mono h (k := k) d (by omega)
    have := mayB_iff.1 (allB_at h (k := k + d) (by omega))
    rw [← Nat.add_assoc]
    simp only [sumTo]
    omega
set_option maxRecDepth 20000 in
set_option maxHeartbeats 2000000 in
theorem parts_any (ep nu ki : Int) (a : Option Addr) (n cap : Nat) (xs : List (Int × Int)) (da tx : ByteArray) (w : World) (h : Sl w a n xs) (ht : tx.size ≤ 9223372036854775807) (hd : da.size ≤ 9223372036854775807) :
    Calls Tryd.prog 16 #[.agg #[.int .i64 ep, .int .i64 nu, .int .i64 ki, .slice a n cap, .string da, .string tx]] w fun e w' => ∃ v, e = .returned v ∧ OwnS w' v (if ki = 1 ∧ chk ⟨ep, nu, ki, xs, da, tx⟩ = 0 then pts da xs n else []) ∧ From w.heap.size v ∧ Below w.heap.size w w' := by
  have hA := below_alloc w (.cells #[.int .i64 ep, .int .i64 nu, .int .i64 ki, .slice a n cap, .string da, .string tx] 24)
  have X0 := boxR w ep nu ki (.slice a n cap) da tx 24
  by_cases h1 : ki = 1
  · subst h1
    have hc := fun w h => check_any ep nu 1 a n cap xs da tx w h ht hd
    by_cases hz : chk ⟨ep, nu, 1, xs, da, tx⟩ = 0
    · rw [if_pos ⟨rfl, hz⟩]
      have hB := hB_ok (chk_head hz)
      have hda := chk_data hz
      have hk : 1 ≤ xs.length ∧ xs.length ≤ 64 ∧ allB xs = true ∧ total xs ≤ 512 := by
        obtain ⟨-, -, -, -, h5 | h5 | h5⟩ := hB
        · exact ⟨h5.2.2.1, h5.2.2.2.1, h5.2.2.2.2.1, h5.2.2.2.2.2⟩
        · simp only at h5
          omega
        · simp only at h5
          omega
      obtain ⟨k1, k2, hx, k4⟩ := hk
      have hda2 : (da.size : Int) = 64 * total xs := by
        rw [hda]
        show (if (1 : Int) = 1 then total xs else 0) * 64 = _
        rw [if_pos rfl]
        omega
      have HL := hide h.len
      have hn : n ≤ 64 := by have := h.len; omega
      rw [hz] at hc
      clear hB hda hd ht
      obtain ⟨i0, hi, hz0, hz1, hz2⟩ := info_parts info9
      have c2 := X0.c2
      have c4 := X0.c4
      have c3 := X0.c3
      have c0 := X0.c0
      have c1 := X0.c1
      have c5 := X0.c5
      go_enter Tryd.func16, Tryd.ntmps16
      go_wp2_with fail
      refine (hc _ (h.later hA)).mono ?_
      rintro e w1 ⟨rfl, b1⟩
      have X1 := X0.later (b1.mono X0.lt)
      have BB := hA.trans (b1.mono hA.size)
      have hS := h.later BB
      clear hc hz h b1 hA X0 c0 c1 c2 c3 c4 c5
      have c4 := X1.c4
      have c3 := X1.c3
      have c2 := X1.c2
      go_wp2
      go_loopw [3, 4, 21] (fun v l i wr => ∃ k : Nat, k ≤ n ∧ i = .int .i64 k ∧ l = .string (da.extract (64 * (sumTo xs k).toNat) da.size) ∧ OwnS wr v (pts da xs k) ∧ From w1.heap.size v ∧ Below w1.heap.size w1 wr) (fun _ _ i _ => n - (intOf i).toNat)
      case atStart => exact ⟨0, Nat.zero_le _, rfl, by simp [sumTo], OwnS.nil _, From.nil _ _ _, Below.refl _ _⟩
      case round =>
        obtain ⟨k, hk, rfl, rfl, hown, hfrom, hbr⟩ := hrel
        by_cases hlt : k < n
        · obtain ⟨b, off, rfl, hbl, d0, d1⟩ := (hS.later hbr).cells k (by have := HL.out; omega)
          have hm := mayB_iff.1 (allB_at hx (k := k) (by have := HL.out; omega))
          have hs0 := sumTo_pos hx k (by have := HL.out; omega)
          have hs1 : sumTo xs (k + 1) ≤ total xs := by
            have hL := HL.out
            have := sumTo_mono hx (k := k + 1) (xs.length - (k + 1)) (by omega)
            rw [show k + 1 + (xs.length - (k + 1)) = xs.length by omega] at this
            exact this
          have hs2 : sumTo xs (k + 1) = sumTo xs k + (nth xs k).2 := rfl
          have HP := hide (pts_succ da xs k)
          have hpl := pts_length da xs k
          have hex : pt da xs k = da.extract (64 * (sumTo xs k).toNat) (64 * (sumTo xs (k + 1)).toNat) := rfl
          generalize nth xs k = x at *
          obtain ⟨x1, x2⟩ := x
          simp only at hm d0 d1 hs2
          obtain ⟨m, rfl⟩ := Int.eq_ofNat_of_zero_le (show 0 ≤ x2 by omega)
          obtain ⟨A, hA⟩ := Int.eq_ofNat_of_zero_le (show 0 ≤ sumTo xs k by omega)
          rw [hs2, hA, show ((A : Int) + (m : Int)).toNat = A + m by omega, show ((A : Int)).toNat = A by omega] at hex
          have HN := hide (show (sumTo xs (k + 1)).toNat = A + m by omega)
          rw [hA, show ((A : Int)).toNat = A by omega]
          have hle : 64 * (A + m) ≤ da.size := by omega
          have hls : (da.extract (64 * A) da.size).size = da.size - 64 * A := by rw [ByteArray.size_extract]; omega
          have hx1 : (da.extract (64 * A) da.size).extract 0 (m * 64) = pt da xs k := by
            rw [hex, ByteArray.extract_extract, Nat.add_zero, Nat.min_eq_left (by omega), show 64 * A + m * 64 = 64 * (A + m) by omega]
          have hx2 : (da.extract (64 * A) da.size).extract (m * 64) (da.size - 64 * A) = da.extract (64 * (A + m)) da.size := by
            rw [ByteArray.extract_extract, show 64 * A + (da.size - 64 * A) = da.size by omega, Nat.min_self, show 64 * A + m * 64 = 64 * (A + m) by omega]
          replace hx2 := hide hx2
          replace hA := hide hA
          replace hs2 := hide hs2
          replace hs1 := hide hs1
          replace hex := hide hex
          replace HL := hide HL
          generalize da.extract (64 * A) da.size = L at *
          have hm1 : (m : Int) * 64 ≤ (L.size : Int) := by omega
          have hm2 : m * 64 ≤ L.size := by omega
          have hbb := (below_alloc wr (.cells #[.int .i64 x1, .int .i64 (m : Int)] 39))
          have hO2 := hown.later hbb
          have BB3 := hbr.trans (hbb.mono hbr.size)
          have hB3 := BB3.size
          have e2 : (wr.alloc (.cells #[.int .i64 x1, .int .i64 (m : Int)] 39)).cell? ⟨wr.heap.size, 1, none⟩ = some (.int .i64 (m : Int)) := by simp
          generalize hwA : wr.alloc (.cells #[.int .i64 x1, .int .i64 (m : Int)] 39) = wA at *
          have hE1 : L.extract 0 (m * 64) = pt da xs k := hx1
          have hO3 := hO2.later (below_alloc wA (.cells #[.string (pt da xs k)] 9))
          have hO4 : ∀ o, (wA.alloc o).ownsRow 0 9 1 u3 (pts da xs k).length (encS (pts da xs k)) := fun o => hO2.later (below_alloc _ _)
          go_wp2_with (at_builtin; refine wpList_append_moved rfl (.tmp 28) (.tmp 32) 35 rfl 9 i0 _ 1 16 Tryd.underlying35 hi hz0 hz1 hz2 rfl (by decide) _ _ _ rfl (hO4 _) ⟨wA.heap.size, 0, none⟩ 1 1 [.string (pt da xs k)] rfl rfl (cell_one_new _ _ _) (str_oneCell _) (by unfold maxLen; omega) (by omega) ?_; intro v' w' g1 g2 g3)
          have R2 := hide (below_grown (BB3.trans ((below_alloc wA (.cells #[.string (pt da xs k)] 9)).mono BB3.size)) g2 (by simp; omega) hfrom)
          have R3 := hide (hfrom.moved g3 (by simp; omega))
          have R4 : Hid (OwnS w' v' (pts da xs (k + 1))) := by
            show OwnS w' v' _
            unfold OwnS
            rw [HP.out, encS, List.map_append, List.length_append]
            exact g1
          clear g1 g2 g3 hO4 hO3 hO2 hpl hE1 hx1 e2 hwA
          go_wp2
          go_roundw
          case rel => exact ⟨k + 1, by omega, by go_num, by rw [HN.out, hx2.out], R4.out, R3.out, R2.out⟩
          case measure => simp [intOf]; omega
        · obtain rfl : k = n := by omega
          have B4 := BB.trans (hbr.mono BB.size)
          clear X1 c2 c3 c4 hS hbr
          go_wp2
          go_ret
          exact ⟨_, rfl, hown, fun g hg => Nat.le_trans BB.size (hfrom g hg), B4⟩
    · rw [if_neg (fun x => hz x.2)]
      have hz0 : (chk ⟨ep, nu, 1, xs, da, tx⟩ == 0) = false := by rwa [beq_eq_false_iff_ne]
      generalize chk ⟨ep, nu, 1, xs, da, tx⟩ = C at *
      have c2 := X0.c2
      have c4 := X0.c4
      have c3 := X0.c3
      have c0 := X0.c0
      have c1 := X0.c1
      have c5 := X0.c5
      go_enter Tryd.func16, Tryd.ntmps16
      go_wp2_with fail
      refine (hc _ (h.later hA)).mono ?_
      rintro e w1 ⟨rfl, b1⟩
      have BB := hA.trans (b1.mono hA.size)
      clear hc h b1 hA c0 c1 c2 c3 c4 c5 X0
      go_wp2
      go_ret
      exact ⟨_, rfl, OwnS.nil _, From.nil _ _ _, BB⟩
  · rw [if_neg (fun x => h1 x.1)]
    have h10 : (ki == 1) = false := by rwa [beq_eq_false_iff_ne]
    have c2 := X0.c2
    go_enter Tryd.func16, Tryd.ntmps16
    clear X0
    go_wp2
    go_ret
    exact ⟨_, rfl, OwnS.nil _, From.nil _ _ _, hA⟩
end Re
end Go.Proofs.YtnpbgjafahhadaaDoor
