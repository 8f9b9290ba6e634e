/- A part of the proofs about package span: what its functions answer, call by call. -/
import Derived.Test.YthbgniclplfpgaaWj
import Derived.Test.YthbgniclplfpgaaPe
import Derived.Lib.SliceRun
namespace Go.Proofs.Ythbgniclplfpgaa
open Go.RowKit
namespace Sp

/-- A row of the call's own. -/
def RowPost (xs : List (Int × Int)) (w : World) (e : Ending) (w' : World) : Prop := ∃ v, e = .returned v ∧ Own w' v xs ∧ From w.heap.size v ∧ Below w.heap.size w w'
theorem Sl.isNil {w : World} {n : Nat} {xs : List (Int × Int)} (h : Sl w none n xs) : n = 0 ∧ xs = [] := by
  have hl := h.len
  rcases Nat.eq_zero_or_pos xs.length with h0 | h0
  · exact ⟨by omega, List.eq_nil_of_length_eq_zero h0⟩
  · obtain ⟨b, off, hh, _⟩ := h.cells 0 h0
    simp at hh
theorem Sl.news {w : World} {ad : Addr} {n : Nat} {xs : List (Int × Int)} (h : Sl w (some ad) n xs) : ∀ j u, (enc2 xs)[j]? = some u → w.cell? (ad.add j) = some u := by
  intro j u hj
  have hl : j < xs.length * 2 := by
    have := (List.getElem?_eq_some_iff.1 hj).1
    rwa [enc2_length] at this
  obtain ⟨b, off, hh, _, c0, c1⟩ := h.cells (j / 2) (by omega)
  simp only [Option.some.injEq] at hh
  subst hh
  rw [Addr.add_lit]
  rcases Nat.mod_two_eq_zero_or_one j with h0 | h0
  · have := enc2_get0 xs (j / 2) (by omega)
    rw [show j / 2 * 2 = j by omega] at this c0
    rw [this] at hj
    rw [c0]; exact hj
  · have := enc2_get1 xs (j / 2) (by omega)
    rw [show j / 2 * 2 + 1 = j by omega] at this
    rw [show off + j / 2 * 2 + 1 = off + j by omega] at c1
    rw [this] at hj
    rw [c1]; exact hj

set_option maxHeartbeats 1000000 in
theorem clone_any (a : Option Addr) (n cap : Nat) (xs : List (Int × Int)) (w : World) (h : Sl w a n xs) (hn : xs.length ≤ 1000000) :
    Calls Try.prog 33 #[.slice a n cap] w (RowPost xs w) := by
  have heq := fun W => Lib.run_eql_slice_nil (P := Try.prog) W 22 27 a n cap 0 0 Try.underlying22
  cases a with
  | none =>
    obtain ⟨rfl, rfl⟩ := h.isNil
    go_enter Try.func33, Try.ntmps33
    go_wp2
    go_ret
    exact ⟨_, rfl, Own.nil w, From.nil _ _ _, Below.refl _ _⟩
  | some ad =>
    obtain ⟨i0, hi, hz0, hz1, hz2⟩ := info_parts info27
    have HL := hide h.len
    have hb0 := below_alloc w (.cells #[] 27)
    have hown : (w.alloc (.cells #[] 27)).ownsRow 0 27 2 (.slice (some ⟨w.heap.size, 0, none⟩) 0 0) 0 [] := World.ownsRow_made w #[] 0 (Nat.zero_le _) (Nat.zero_le _) rfl
    have hnews := (h.later hb0).news
    go_enter Try.func33, Try.ntmps33
    go_wp2_with (at_builtin; refine wpList_append_moved rfl (.tmp 5) (.tmp 6) 22 rfl 27 i0 _ 2 16 Try.underlying22 hi hz0 hz1 hz2 rfl (by decide) _ 0 [] rfl hown ad n cap (enc2 xs) rfl (by rw [enc2_length, HL.out]) hnews (enc2_oneCell xs) (by rw [HL.out]; unfold maxLen; omega) (by rw [HL.out]; omega) ?_; intro v' w' h1 h2 h3)
    go_ret
    have hfr : From w.heap.size (.slice (some ⟨w.heap.size, 0, none⟩) 0 0) := fun k hk => by simp [Value.ownBlock] at hk; omega
    refine ⟨v', rfl, ?_, ?_, ?_⟩
    · rw [HL.out] at h1
      simpa [Own] using h1
    · exact hfr.moved h3 (by simp)
    · exact below_grown hb0 h2 (by simp) hfr

theorem enc2_set : ∀ (zs : List (Int × Int)) (x : Int × Int) (u : Int), (enc2 (zs ++ [x])).set (zs.length * 2 + 1) (.int .i64 u) = enc2 (zs ++ [(x.1, u)])
  | [], x, u => rfl
  | z :: r, x, u => by
    have := enc2_set r x u
    rw [List.length_cons, show (r.length + 1) * 2 + 1 = r.length * 2 + 1 + 2 by omega]
    simp [enc2, this]
/-- The last span's length is set. -/
theorem Own.setLast {w : World} {g cap : Nat} {zs : List (Int × Int)} {x : Int × Int} (u : Int) (h : Own w (.slice (some ⟨g, 0, none⟩) (zs.length + 1) cap) (zs ++ [x])) :
    Own (w.setCell ⟨g, zs.length * 2 + 1, none⟩ (.int .i64 u)) (.slice (some ⟨g, 0, none⟩) (zs.length + 1) cap) (zs ++ [(x.1, u)]) ∧ w.grownBy (w.setCell ⟨g, zs.length * 2 + 1, none⟩ (.int .i64 u)) (some g) := by
  have e1 : (zs ++ [x]).length = zs.length + 1 := by simp
  unfold Own at *
  rw [e1] at h
  have := h.stored (zs.length * 2 + 1) (.int .i64 u)
  rw [enc2_set] at this
  simpa using this
/-- A slice that owns a span more than zs has a row. -/
theorem Own.snocForm {w : World} {v : Value} {zs : List (Int × Int)} {x : Int × Int} (h : Own w v (zs ++ [x])) : ∃ g cap, v = .slice (some ⟨g, 0, none⟩) (zs.length + 1) cap ∧ g < w.heap.size ∧ w.cell? ⟨g, zs.length * 2, none⟩ = some (.int .i64 x.1) ∧ w.cell? ⟨g, zs.length * 2 + 1, none⟩ = some (.int .i64 x.2) ∧ w.frozen? ⟨g, zs.length * 2 + 1, none⟩ = false := by
  rcases id h with ⟨hx, ⟨hv, hn⟩ | ⟨g, cap, cur, hv, _, hg, hnc, hcm, hcs, htake⟩⟩
  · simp at hn
  · have e1 : (zs ++ [x]).length = zs.length + 1 := by simp
    rw [e1] at hv
    refine ⟨g, cap, hv, (Array.getElem?_eq_some_iff.1 hg).1, ?_, ?_, ?_⟩
    all_goals
      unfold Own at h
      rw [e1, hv] at h
    · rw [h.cellAt _ (by omega), enc2_get0 _ _ (by simp), nth_last]
    · rw [h.cellAt _ (by omega), enc2_get1 _ _ (by simp), nth_last]
    · exact h.frozenAt _

set_option maxHeartbeats 2000000 in
theorem merge_any (a : Option Addr) (n cap : Nat) (xs : List (Int × Int)) (w : World) (h : Sl w a n xs) (hr : Rises xs) (ha : allB xs = true) :
    Calls Try.prog 37 #[.slice a n cap] w fun e w' => ∃ ys, JO xs xs.length ys ∧ RowPost ys w e w' := by
  have hn := h.most
  go_enter Try.func37, Try.ntmps37
  go_wp2
  go_loopw [3, 9] (fun v i wr => ∃ (k : Nat) (ys : List (Int × Int)), k ≤ n ∧ i = .int .i64 k ∧ Own wr v ys ∧ From w.heap.size v ∧ JO xs k ys ∧ Below w.heap.size w wr) (fun _ i _ => n - (intOf i).toNat)
  case atStart => exact ⟨0, [], Nat.zero_le _, rfl, Own.nil _, From.nil _ _ _, JO.start xs, Below.refl _ _⟩
  case round =>
    obtain ⟨k, ys, hk, rfl, hown, hfrom, hjo, hbr⟩ := hrel
    by_cases hlt : k < n
    · have HK := hide (show k < xs.length by have := h.len; omega)
      obtain ⟨ba, off, rfl, hbl, c0, c1⟩ := (h.later hbr).cells k HK.out
      have hms := allB_at ha HK.out
      have hlen := set_length hjo.set
      obtain ⟨i0, hi, hz0, hz1, hz2⟩ := info_parts info27
      have hb5 := below_alloc wr (.cells #[.int .i64 (nth xs k).1, .int .i64 (nth xs k).2] 27)
      rcases List.eq_nil_or_concat ys with rfl | ⟨zs, x, hzs⟩
      · have R1 := hide (hjo.first ha hr HK.out)
        obtain ⟨a', cp, rfl, _⟩ := hown.sl (fun x hx => by simp at hx)
        simp only [List.length_nil] at *
        generalize nth xs k = s at *
        have hne := later_ne (wr.alloc (.cells #[.int .i64 s.1, .int .i64 s.2] 27))
        have C0 : ∀ p : Later (wr.alloc (.cells #[.int .i64 s.1, .int .i64 s.2] 27)), p.val.cell? ⟨wr.heap.size, 0, none⟩ = some (.int .i64 s.1) := fun p => box0 p.below
        have C1 : ∀ p : Later (wr.alloc (.cells #[.int .i64 s.1, .int .i64 s.2] 27)), p.val.cell? ⟨wr.heap.size, 1, none⟩ = some (.int .i64 s.2) := fun p => box1 p.below
        clear h hjo
        go_wp2
        refine wp_region_later (by kernel_rfl) (by kernel_rfl) ?_
        (repeat (first | go_big_quiet_skip | (go_big_quiet_want; go_big_quiet_op; go_big_quiet_on)))
        refine wpQuiet_nil ?_
        rintro _ ⟨p, rfl⟩
        have hbp := hb5.trans (p.below.mono hb5.size)
        have c0p := C0 p
        have c1p := C1 p
        have hkp : ∀ o, (p.val.alloc o).ownsRow 0 27 2 (.slice a' 0 cp) 0 [] := fun o => (hown.later hbp).later (below_alloc _ _)
        clear C0 C1 hne
        go_wp2_with (at_builtin; refine wpList_append_moved rfl (.tmp 28) (.tmp 30) 22 rfl 27 i0 _ 2 16 Try.underlying22 hi hz0 hz1 hz2 rfl (by decide) _ _ _ rfl (hkp _) ⟨p.val.heap.size, 0, none⟩ 1 1 [.int .i64 s.1, .int .i64 s.2] rfl rfl (cells_two (by simp) (by simp)) (enc2_oneCell [s]) (by unfold maxLen; omega) (by omega) ?_; intro v' w' h1 h2 h3)
        have hbw := hbr.trans (hbp.mono hbr.size)
        have hpw : w.heap.size ≤ p.val.heap.size := hbw.size
        have R2 := hide (below_grown (hbw.trans ((below_alloc _ _).mono hpw)) h2 (by simp; omega) hfrom)
        have R3 := hide (hfrom.moved h3 (by simp; omega))
        have R4 : Hid (Own w' v' [s]) := h1
        clear h1 h2 h3 hkp c0p c1p
        go_wp2
        go_roundw
        case rel => exact ⟨k + 1, [s], by omega, by go_num, R4.out, R3.out, R1.out, R2.out⟩
        case measure => simp [intOf]; omega
      · rw [List.concat_eq_append] at hzs
        subst hzs
        obtain ⟨g, cp, rfl, hgl, e0, e1, ef⟩ := hown.snocForm
        have hmx := setB_lastMay hjo.set
        have hgs : g ≠ wr.heap.size := by omega
        have hlz : zs.length + 1 ≤ 65536 := by simpa using hlen
        have hd0 : decide ((zs.length : Int) < 0) = false := by simp
        clear hlen
        by_cases hcmp : x.1 + x.2 < (nth xs k).1
        · have R1 := hide (hjo.new ha hr HK.out hcmp)
          clear hjo h
          generalize nth xs k = s at *
          have bx := mayB_iff.1 hmx
          have bs := mayB_iff.1 hms
          have hne := later_ne (wr.alloc (.cells #[.int .i64 s.1, .int .i64 s.2] 27))
          have C0 : ∀ p : Later (wr.alloc (.cells #[.int .i64 s.1, .int .i64 s.2] 27)), p.val.cell? ⟨wr.heap.size, 0, none⟩ = some (.int .i64 s.1) := fun p => box0 p.below
          have C1 : ∀ p : Later (wr.alloc (.cells #[.int .i64 s.1, .int .i64 s.2] 27)), p.val.cell? ⟨wr.heap.size, 1, none⟩ = some (.int .i64 s.2) := fun p => box1 p.below
          have D0 : ∀ p : Later (wr.alloc (.cells #[.int .i64 s.1, .int .i64 s.2] 27)), p.val.cell? ⟨g, zs.length * 2, none⟩ = some (.int .i64 x.1) := fun p => (p.below.cell (by simp; omega)).trans ((hb5.cell (by simpa using hgl)).trans e0)
          have D1 : ∀ p : Later (wr.alloc (.cells #[.int .i64 s.1, .int .i64 s.2] 27)), p.val.cell? ⟨g, zs.length * 2 + 1, none⟩ = some (.int .i64 x.2) := fun p => (p.below.cell (by simp; omega)).trans ((hb5.cell (by simpa using hgl)).trans e1)
          have E1 : ∀ p : Later (wr.alloc (.cells #[.int .i64 s.1, .int .i64 s.2] 27)), _ := fun p => end_b x p.val hmx
          go_wp2
          refine wp_region_later (by kernel_rfl) (by kernel_rfl) ?_
          (repeat (first | go_big_quiet_skip | (go_big_quiet_want; go_big_quiet_op; go_big_quiet_on)))
          (go_big_quiet_want; go_big_quiet_op; apply Exists.intro; refine ⟨fun p => ?_, ?_⟩; (· exact later_of (E1 p)); go_big_quiet_on)
          (repeat (first | go_big_quiet_skip | (go_big_quiet_want; go_big_quiet_op; go_big_quiet_on)))
          refine wpQuiet_nil ?_
          rintro _ ⟨p, rfl⟩
          have hbp := hb5.trans (p.below.mono hb5.size)
          have c0p := C0 p
          have c1p := C1 p
          have hkp : ∀ o, (p.val.alloc o).ownsRow 0 27 2 (.slice (some ⟨g, 0, none⟩) (zs.length + 1) cp) (zs.length + 1) (enc2 (zs ++ [x])) := fun o => by
            have := (hown.later hbp).later (below_alloc p.val o)
            simpa [Own] using this
          clear C0 C1 D0 D1 E1 hne
          go_wp2_with (at_builtin; refine wpList_append_moved rfl (.tmp 28) (.tmp 30) 22 rfl 27 i0 _ 2 16 Try.underlying22 hi hz0 hz1 hz2 rfl (by decide) _ _ _ rfl (hkp _) ⟨p.val.heap.size, 0, none⟩ 1 1 [.int .i64 s.1, .int .i64 s.2] rfl rfl (cells_two (by simp) (by simp)) (enc2_oneCell [s]) (by unfold maxLen; omega) (by omega) ?_; intro v' w' h1 h2 h3)
          have hbw := hbr.trans (hbp.mono hbr.size)
          have hpw : w.heap.size ≤ p.val.heap.size := hbw.size
          have R2 := hide (below_grown (hbw.trans ((below_alloc _ _).mono hpw)) h2 (by simp; omega) hfrom)
          have R3 := hide (hfrom.moved h3 (by simp; omega))
          have R4 : Hid (Own w' v' (zs ++ [x] ++ [s])) := by
            show Own w' v' (zs ++ [x] ++ [s])
            unfold Own
            rw [enc2_append, show (zs ++ [x] ++ [s]).length = zs.length + 1 + 1 by simp]
            exact h1
          clear h1 h2 h3 hkp c0p c1p
          go_wp2
          go_roundw
          case rel => exact ⟨k + 1, _, by omega, by go_num, R4.out, R3.out, R1.out, R2.out⟩
          case measure => simp [intOf]; omega
        · have R1 := hide (hjo.wide ha hr HK.out hcmp)
          clear hjo h
          generalize nth xs k = s at *
          have bx := mayB_iff.1 hmx
          have bs := mayB_iff.1 hms
          obtain ⟨A, hA1, hA2⟩ : ∃ A, (if x.1 + x.2 < s.1 + s.2 then s.1 + s.2 else x.1 + x.2) = A ∧ A = max (x.1 + x.2) (s.1 + s.2) := ⟨_, rfl, by split <;> omega⟩
          have bA : x.1 ≤ A ∧ A ≤ 65536 := by omega
          have R1' : Hid (JO xs (k + 1) (zs ++ [(x.1, A - x.1)])) := by rw [hA2]; exact R1
          have hA3 := hA2.symm
          clear hA2 R1
          have hne := later_ne (wr.alloc (.cells #[.int .i64 s.1, .int .i64 s.2] 27))
          have C0 : ∀ p : Later (wr.alloc (.cells #[.int .i64 s.1, .int .i64 s.2] 27)), p.val.cell? ⟨wr.heap.size, 0, none⟩ = some (.int .i64 s.1) := fun p => box0 p.below
          have C1 : ∀ p : Later (wr.alloc (.cells #[.int .i64 s.1, .int .i64 s.2] 27)), p.val.cell? ⟨wr.heap.size, 1, none⟩ = some (.int .i64 s.2) := fun p => box1 p.below
          have D0 : ∀ p : Later (wr.alloc (.cells #[.int .i64 s.1, .int .i64 s.2] 27)), p.val.cell? ⟨g, zs.length * 2, none⟩ = some (.int .i64 x.1) := fun p => (p.below.cell (by simp; omega)).trans ((hb5.cell (by simpa using hgl)).trans e0)
          have D1 : ∀ p : Later (wr.alloc (.cells #[.int .i64 s.1, .int .i64 s.2] 27)), p.val.cell? ⟨g, zs.length * 2 + 1, none⟩ = some (.int .i64 x.2) := fun p => (p.below.cell (by simp; omega)).trans ((hb5.cell (by simpa using hgl)).trans e1)
          have E1 : ∀ p : Later (wr.alloc (.cells #[.int .i64 s.1, .int .i64 s.2] 27)), _ := fun p => end_b x p.val hmx
          go_wp2
          refine wp_region_later (by kernel_rfl) (by kernel_rfl) ?_
          (repeat (first | go_big_quiet_skip | (go_big_quiet_want; go_big_quiet_op; go_big_quiet_on)))
          (go_big_quiet_want; go_big_quiet_op; apply Exists.intro; refine ⟨fun p => ?_, ?_⟩; (· exact later_of (E1 p)); go_big_quiet_on)
          (repeat (first | go_big_quiet_skip | (go_big_quiet_want; go_big_quiet_op; go_big_quiet_on)))
          refine wpQuiet_nil ?_
          rintro _ ⟨p, rfl⟩
          have hbp := hb5.trans (p.below.mono hb5.size)
          have hgp : g < p.val.heap.size := by have := p.below.size; simp at this; omega
          have hbxp := later_box p
          have hne2 := later_ne p.val
          have C02 : ∀ q : Later p.val, q.val.cell? ⟨wr.heap.size, 0, none⟩ = some (.int .i64 s.1) := fun q => (q.below.cell hbxp).trans (C0 p)
          have C12 : ∀ q : Later p.val, q.val.cell? ⟨wr.heap.size, 1, none⟩ = some (.int .i64 s.2) := fun q => (q.below.cell hbxp).trans (C1 p)
          have D02 : ∀ q : Later p.val, q.val.cell? ⟨g, zs.length * 2, none⟩ = some (.int .i64 x.1) := fun q => (q.below.cell hgp).trans (D0 p)
          have D12 : ∀ q : Later p.val, q.val.cell? ⟨g, zs.length * 2 + 1, none⟩ = some (.int .i64 x.2) := fun q => (q.below.cell hgp).trans (D1 p)
          have E12 : ∀ q : Later p.val, _ := fun q => end_b x q.val hmx
          have E22 : ∀ q : Later p.val, _ := fun q => end_b s q.val hms
          clear C0 C1 D0 D1 E1 hne
          go_wp2
          refine wp_region_later_tail 18 (by kernel_rfl) (by kernel_rfl) ?_
          simp only [List.take, List.drop]
          (repeat (first | go_big_quiet_skip | (go_big_quiet_want; go_big_quiet_op; go_big_quiet_on)))
          (go_big_quiet_want; go_big_quiet_op; apply Exists.intro; refine ⟨fun p => ?_, ?_⟩; (· exact later_of (E12 p)); go_big_quiet_on)
          (repeat (first | go_big_quiet_skip | (go_big_quiet_want; go_big_quiet_op; go_big_quiet_on)))
          (go_big_quiet_want; go_big_quiet_op; apply Exists.intro; refine ⟨fun p => ?_, ?_⟩; (· exact later_of (E22 p)); go_big_quiet_on)
          (repeat (first | go_big_quiet_skip | (go_big_quiet_want; go_big_quiet_op; go_big_quiet_on)))
          refine wpQuiet_nil ?_
          rintro _ ⟨q, rfl⟩
          have hbq := hbp.trans (q.below.mono hbp.size)
          have efq : q.val.frozen? ⟨g, zs.length * 2 + 1, none⟩ = false := (hbq.frozen hgl).trans ef
          have d1q := D12 q
          have hownq := (hown.later hbq).setLast (A - x.1)
          have hbw := hbr.trans (hbq.mono hbr.size)
          have R2 := hide (below_grown (v := .slice (some ⟨g, 0, none⟩) (zs.length + 1) cp) hbw hownq.2 hbw.size hfrom)
          have R4 := hide hownq.1
          clear C02 C12 D02 D12 E12 E22 hne2 hownq
          go_wp2
          go_roundw
          case rel => exact ⟨k + 1, _, by omega, by go_num, R4.out, hfrom, R1'.out, R2.out⟩
          case measure => simp [intOf]; omega
    · have R1 := hide (show JO xs xs.length ys by have := h.len; rwa [show xs.length = k by omega])
      go_wp2
      go_ret
      exact ⟨ys, R1.out, _, rfl, hown, hfrom, hbr⟩

end Sp
end Go.Proofs.Ythbgniclplfpgaa
