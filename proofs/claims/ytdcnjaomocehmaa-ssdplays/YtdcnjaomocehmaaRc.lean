/- The document's answer of stage 4: a crash. -/
import Derived.Test.YtdcnjaomocehmaaRb
namespace Go.Proofs.Ytdcnjaomocehmaa
open Go.RowKit
namespace Wi

theorem set_self {l : List (List Nat)} {i : Nat} (h : i < l.length) : l.set i (l.getD i []) = l := by
  rw [List.getD, List.getElem?_eq_getElem h]
  simp
theorem Sr.later {w wr w2 : World} {b : Nat} {sv pv : Value} {g st : Bool} {z : Int} {last : List (List Nat)} {pend : List (Nat × List Nat)} (h : Sr w b sv pv g st z last pend wr) (hb : Below wr.heap.size wr w2) : Sr w b sv pv g st z last pend w2 :=
  ⟨h.raw.later hb, h.keep.trans (Keep.of_below (X := xDev b sv pv) hb) fun _ _ e => e⟩
theorem var_put (wr : World) (x : Int) (s : ByteArray) : Below wr.heap.size wr (wr.alloc (.cells #[.int .i64 x, .string s] 74)) := below_alloc _ _
theorem var_put_cells (wr : World) (x : Int) (s : ByteArray) (w4 : World) (h : w4 = wr.alloc (.cells #[.int .i64 x, .string s] 74)) : w4.heap[wr.heap.size]? = some (.cells #[.int .i64 x, .string s] 74 (0, 0)) := by
  rw [h]
  exact heap_alloc_new wr _
theorem rest3 (F : Int) : (F.tmod 3 = 0 ∧ how F = 0) ∨ (F.tmod 3 = 1 ∧ how F = 1) ∨ (F.tmod 3 = -2 ∧ how F = 1) ∨ (F.tmod 3 = 2 ∧ how F = 2) ∨ (F.tmod 3 = -1 ∧ how F = 2) := by
  unfold how
  rw [Int.tmod_eq_emod]
  split <;> omega
set_option maxHeartbeats 4000000 in
theorem rcrash_any {w : World} {b : Nat} {X : Nat → Prop} {d : Dv} (h : refT b d w X) (hp : d.pend.length ≤ 1000000000) {a : Option Addr} {n cap : Nat} {keep : List Int} (hk : Ks w X a n keep) :
    Calls Try.prog 31 #[.pointer (some ⟨b, 0, none⟩), .slice a n cap] w fun e w' => e = .returned (.tuple #[]) ∧ LeftT (refT b (d.crash keep)) w X w' := by
  obtain ⟨sv, pv, st, z, h, rfl⟩ := h
  have hn := hk.most
  have hm := h.ok.most
  have HO := hide h.ok
  have hok := h.ok.crash keep
  have HN := hide h.num
  have HL := hide hk.len
  have f3 := h.raw.fr 3
  obtain ⟨c0, c1, c2, c3, c4⟩ := h.raw.c
  have HS : Hid (Sr w b sv pv d.gone false z (crashes d.last (d.pend.take 0) keep) d.pend (w.setCell ⟨b, 3, none⟩ (.bool false))) := ⟨h.raw.setStops false, Keep.setCell w _ _ (.inl rfl)⟩
  clear h
  go_enter Try.func31, Try.ntmps31
  go_wp2
  clear c0 c1 c2 c3 c4 f3
  go_loopw [4] (fun i wr => ∃ k : Nat, k ≤ d.pend.length ∧ i = .int .i64 k ∧ Sr w b sv pv d.gone false z (crashes d.last (d.pend.take k) keep) d.pend wr) (fun i _ => d.pend.length - (intOf i).toNat)
  case atStart => exact ⟨0, Nat.zero_le _, rfl, HS.out⟩
  case round =>
    clear HS
    obtain ⟨k, hk', rfl, hS⟩ := hrel
    obtain ⟨c0, c1, c2, c3, c4⟩ := hS.raw.c
    obtain ⟨av, pc, hpv⟩ := row_slice hS.raw.chg
    by_cases hlt : k < d.pend.length
    · obtain ⟨p, hp0⟩ : ∃ p, d.pend[k]? = some p := ⟨_, List.getElem?_eq_getElem hlt⟩
      have hpk := HO.out.pend p (List.mem_of_getElem? hp0)
      obtain ⟨gp, pc', hpv', _⟩ := row_form hS.raw.chg (by omega)
      obtain ⟨q0, q1⟩ := hS.raw.put hpv' hp0
      obtain ⟨gs, cap', hsv, _⟩ := row_form hS.raw.sec (by rw [crashes_length]; omega)
      have hcl : p.1 < (crashes d.last (d.pend.take k) keep).length := by rw [crashes_length]; exact hpk.1
      obtain ⟨s0, hs0⟩ : ∃ s0, (crashes d.last (d.pend.take k) keep)[p.1]? = some s0 := ⟨_, List.getElem?_eq_getElem hcl⟩
      have hg0 : (crashes d.last (d.pend.take k) keep).getD p.1 [] = s0 := by simp [List.getD, hs0]
      have hs64 : s0.length = 64 := crashes_whole _ _ _ HO.out.whole (fun q hq => HO.out.pend q (List.mem_of_mem_take hq)) s0 (List.mem_of_getElem? hs0)
      have hcells := fun w2 (hb : Below wr.heap.size wr w2) => (hS.raw.later hb).sector hsv hs0
      have HC := hide hcells
      have hsn := crashes_snoc (d.pend.take k) p d.last keep
      rw [← snoc_take _ _ _ hp0, List.length_take, Nat.min_eq_left (by omega), hg0] at hsn
      have HX1 : Hid (∀ w2, Below wr.heap.size wr w2 → Sr w b sv pv d.gone false z ((crashes d.last (d.pend.take k) keep).set p.1 p.2) d.pend (w2.setCell ⟨gs, p.1, none⟩ (.string (str p.2)))) := fun w2 hb => hS.set hb hsv hcl p.2
      have HX2 : Hid (∀ w2, Below wr.heap.size wr w2 → Sr w b sv pv d.gone false z ((crashes d.last (d.pend.take k) keep).set p.1 (p.2.take 32 ++ s0.drop 32)) d.pend (w2.setCell ⟨gs, p.1, none⟩ (.string ((str p.2).extract 0 32 ++ (str s0).extract 32 64)))) := fun w2 hb => by
        have := hS.set hb hsv hcl (p.2.take 32 ++ s0.drop 32)
        rw [str_append, ← str_take, show str (s0.drop 32) = (str s0).extract 32 64 by rw [str_cut, List.take_of_length_le (by rw [List.length_drop]; omega)]] at this
        exact this
      have HT0 : how (keep.getD k 0) = 0 → Hid (crashes d.last (d.pend.take (k + 1)) keep = crashes d.last (d.pend.take k) keep) := fun e => by
        show _ = _
        rw [hsn, e, show left1 s0 p.2 0 = s0 from rfl, ← hg0, set_self hcl]
      have HT1 : how (keep.getD k 0) = 1 → Hid (crashes d.last (d.pend.take (k + 1)) keep = (crashes d.last (d.pend.take k) keep).set p.1 p.2) := fun e => by
        show _ = _
        rw [hsn, e]
        rfl
      have HT2 : how (keep.getD k 0) = 2 → Hid (crashes d.last (d.pend.take (k + 1)) keep = (crashes d.last (d.pend.take k) keep).set p.1 (p.2.take 32 ++ s0.drop 32)) := fun e => by
        show _ = _
        rw [hsn, e]
        rfl
      have HS0 := hide hS
      have l0 := hS.raw.xlt b (.inl rfl)
      rw [hsv, crashes_length] at c0
      rw [hpv'] at c1
      have hp1 : (p.1 : Int) < d.last.length := by omega
      have hp1' : p.1 < d.last.length := hpk.1
      have z0 : (str s0).size = 64 := by rw [str_size, hs64]
      have z2 : (str p.2).size = 64 := by rw [str_size, hpk.2]
      have hkc : ∀ x, keep[k]? = some x → ∃ g off, a = some ⟨g, off, none⟩ ∧ wr.cell? ⟨g, off + k, none⟩ = some (.int .i64 x) := fun x hx => by
        obtain ⟨g, off, ha, hg, hxg, hc⟩ := hk.cells k x hx
        exact ⟨g, off, ha, (keep_cell hS.keep hg hxg).trans hc⟩
      have HKC := hide hkc
      have HNum := hide hk.num
      clear hp0 hpk hS hcells hpv hpv' hsv hcl hs0 hg0 hs64 hsn hkc
      have VB : Hid (∀ (x : Int) (s : ByteArray), _) := var_put wr
      have VL : Hid (∀ (x : Int) (s : ByteArray) (w4 : World), _ → wr.heap.size < w4.heap.size) := fun x s w4 h => lt_of_block (var_put_cells wr x s w4 h)
      have VC : Hid (∀ (x : Int) (s : ByteArray) (w4 : World), _ → w4.cell? ⟨wr.heap.size, 0, none⟩ = some (.int .i64 x) ∧ w4.cell? ⟨wr.heap.size, 1, none⟩ = some (.string s)) := fun x s w4 h => ⟨by rw [cell_of_row _ _ _ _ _ _ (var_put_cells wr x s w4 h)]; rfl, by rw [cell_of_row _ _ _ _ _ _ (var_put_cells wr x s w4 h)]; rfl⟩
      obtain ⟨P1, P2⟩ := p
      simp only at *
      generalize str P2 = S2 at *
      generalize str s0 = S0 at *
      generalize hF : keep.getD k 0 = F at *
      by_cases hkn : k < n
      · obtain ⟨x, hx⟩ : ∃ x, keep[k]? = some x := ⟨_, List.getElem?_eq_getElem (by have := HL.out; omega)⟩
        obtain rfl : x = F := by rw [← hF, List.getD, hx]; rfl
        obtain ⟨g, off, rfl, cF⟩ := HKC.out _ hx
        obtain ⟨n1, n2⟩ := HNum.out _ (List.mem_of_getElem? hx)
        clear hx hF
        generalize x = F at *
        rcases rest3 F with ⟨hr, hh⟩ | ⟨hr, hh⟩ | ⟨hr, hh⟩ | ⟨hr, hh⟩ | ⟨hr, hh⟩
        · replace HT0 := HT0 hh
          clear hh
          have hF3 := (hr : F.tmod 3 = (0))
          clear hr
          have HT := HT0
          clear HT0 HT1 HT2
          go_wp2
          go_roundw
          case rel => exact ⟨k + 1, by omega, by go_num, by rw [HT.out]; exact HS0.out.later (VB.out _ _)⟩
          case measure => simp [intOf]; omega
        · replace HT1 := HT1 hh
          clear hh
          have hF3 := (hr : F.tmod 3 = (1))
          clear hr
          have HT := HT1
          clear HT0 HT1 HT2
          have HX := HX1
          clear HX1 HX2
          go_wp2
          obtain ⟨w4, hw4⟩ : ∃ w4, w4 = wr.alloc (.cells #[.int .i64 (P1 : Nat), .string S2] 74) := ⟨_, rfl⟩
          rw [← hw4]
          have hb4 : Below wr.heap.size wr w4 := by rw [hw4]; exact VB.out _ _
          obtain ⟨v0, v1⟩ := VC.out _ _ _ hw4
          have lv := VL.out _ _ _ hw4
          clear hw4
          have k0 : ∀ p : Later w4, p.val.cell? ⟨b, 0, none⟩ = some (.slice (some ⟨gs, 0, none⟩) d.last.length cap') := fun p => (p.below.cell (Nat.lt_of_lt_of_le l0 hb4.size)).trans ((hb4.cell l0).trans c0)
          have k1 : ∀ p : Later w4, p.val.cell? ⟨wr.heap.size, 0, none⟩ = some (.int .i64 (P1 : Nat)) := fun p => (p.below.cell lv).trans v0
          have k2 : ∀ p : Later w4, p.val.cell? ⟨wr.heap.size, 1, none⟩ = some (.string S2) := fun p => (p.below.cell lv).trans v1
          have k3 : ∀ p : Later w4, p.val.cell? ⟨gs, P1, none⟩ = some (.string S0) := fun p => (HC.out _ (hb4.trans (p.below.mono hb4.size))).1
          have hne := later_ne w4
          have HB4 := hide hb4
          clear c0 c1 q0 q1 v0 v1 hb4
          refine wp_region_later_tail 9 (by kernel_rfl) (by kernel_rfl) ?_
          simp only [List.take, List.drop]
          (repeat (first | go_big_quiet_skip | (go_big_quiet_want; go_big_quiet_op; go_big_quiet_on)))
          refine wpQuiet_nil ?_
          rintro _ ⟨y, rfl⟩
          have hbb := HB4.out.trans (y.below.mono HB4.out.size)
          obtain ⟨v1, v2⟩ := HC.out _ hbb
          have HX2 := hide (HX.out _ hbb)
          clear HX HC k0 k1 k2 k3 hbb
          go_wp2
          go_roundw
          case rel => exact ⟨k + 1, by omega, by go_num, by rw [HT.out]; exact HX2.out⟩
          case measure => simp [intOf]; omega
        · replace HT1 := HT1 hh
          clear hh
          have hF3 := (hr : F.tmod 3 = (-2))
          clear hr
          have HT := HT1
          clear HT0 HT1 HT2
          have HX := HX1
          clear HX1 HX2
          go_wp2
          obtain ⟨w4, hw4⟩ : ∃ w4, w4 = wr.alloc (.cells #[.int .i64 (P1 : Nat), .string S2] 74) := ⟨_, rfl⟩
          rw [← hw4]
          have hb4 : Below wr.heap.size wr w4 := by rw [hw4]; exact VB.out _ _
          obtain ⟨v0, v1⟩ := VC.out _ _ _ hw4
          have lv := VL.out _ _ _ hw4
          clear hw4
          have k0 : ∀ p : Later w4, p.val.cell? ⟨b, 0, none⟩ = some (.slice (some ⟨gs, 0, none⟩) d.last.length cap') := fun p => (p.below.cell (Nat.lt_of_lt_of_le l0 hb4.size)).trans ((hb4.cell l0).trans c0)
          have k1 : ∀ p : Later w4, p.val.cell? ⟨wr.heap.size, 0, none⟩ = some (.int .i64 (P1 : Nat)) := fun p => (p.below.cell lv).trans v0
          have k2 : ∀ p : Later w4, p.val.cell? ⟨wr.heap.size, 1, none⟩ = some (.string S2) := fun p => (p.below.cell lv).trans v1
          have k3 : ∀ p : Later w4, p.val.cell? ⟨gs, P1, none⟩ = some (.string S0) := fun p => (HC.out _ (hb4.trans (p.below.mono hb4.size))).1
          have hne := later_ne w4
          have HB4 := hide hb4
          clear c0 c1 q0 q1 v0 v1 hb4
          refine wp_region_later_tail 9 (by kernel_rfl) (by kernel_rfl) ?_
          simp only [List.take, List.drop]
          (repeat (first | go_big_quiet_skip | (go_big_quiet_want; go_big_quiet_op; go_big_quiet_on)))
          refine wpQuiet_nil ?_
          rintro _ ⟨y, rfl⟩
          have hbb := HB4.out.trans (y.below.mono HB4.out.size)
          obtain ⟨v1, v2⟩ := HC.out _ hbb
          have HX2 := hide (HX.out _ hbb)
          clear HX HC k0 k1 k2 k3 hbb
          go_wp2
          go_roundw
          case rel => exact ⟨k + 1, by omega, by go_num, by rw [HT.out]; exact HX2.out⟩
          case measure => simp [intOf]; omega
        · replace HT2 := HT2 hh
          clear hh
          have hF3 := (hr : F.tmod 3 = (2))
          clear hr
          have HT := HT2
          clear HT0 HT1 HT2
          have HX := HX2
          clear HX1 HX2
          go_wp2
          obtain ⟨w4, hw4⟩ : ∃ w4, w4 = wr.alloc (.cells #[.int .i64 (P1 : Nat), .string S2] 74) := ⟨_, rfl⟩
          rw [← hw4]
          have hb4 : Below wr.heap.size wr w4 := by rw [hw4]; exact VB.out _ _
          obtain ⟨v0, v1⟩ := VC.out _ _ _ hw4
          have lv := VL.out _ _ _ hw4
          clear hw4
          have k0 : ∀ p : Later w4, p.val.cell? ⟨b, 0, none⟩ = some (.slice (some ⟨gs, 0, none⟩) d.last.length cap') := fun p => (p.below.cell (Nat.lt_of_lt_of_le l0 hb4.size)).trans ((hb4.cell l0).trans c0)
          have k1 : ∀ p : Later w4, p.val.cell? ⟨wr.heap.size, 0, none⟩ = some (.int .i64 (P1 : Nat)) := fun p => (p.below.cell lv).trans v0
          have k2 : ∀ p : Later w4, p.val.cell? ⟨wr.heap.size, 1, none⟩ = some (.string S2) := fun p => (p.below.cell lv).trans v1
          have k3 : ∀ p : Later w4, p.val.cell? ⟨gs, P1, none⟩ = some (.string S0) := fun p => (HC.out _ (hb4.trans (p.below.mono hb4.size))).1
          have hne := later_ne w4
          have HB4 := hide hb4
          clear c0 c1 q0 q1 v0 v1 hb4
          refine wp_region_later_tail 20 (by kernel_rfl) (by kernel_rfl) ?_
          simp only [List.take, List.drop]
          (repeat (first | go_big_quiet_skip | (go_big_quiet_want; go_big_quiet_op; go_big_quiet_on)))
          refine wpQuiet_nil ?_
          rintro _ ⟨y, rfl⟩
          have hbb := HB4.out.trans (y.below.mono HB4.out.size)
          obtain ⟨v1, v2⟩ := HC.out _ hbb
          have HX2 := hide (HX.out _ hbb)
          clear HX HC k0 k1 k2 k3 hbb
          go_wp2
          go_roundw
          case rel => exact ⟨k + 1, by omega, by go_num, by rw [HT.out]; exact HX2.out⟩
          case measure => simp [intOf]; omega
        · replace HT2 := HT2 hh
          clear hh
          have hF3 := (hr : F.tmod 3 = (-1))
          clear hr
          have HT := HT2
          clear HT0 HT1 HT2
          have HX := HX2
          clear HX1 HX2
          go_wp2
          obtain ⟨w4, hw4⟩ : ∃ w4, w4 = wr.alloc (.cells #[.int .i64 (P1 : Nat), .string S2] 74) := ⟨_, rfl⟩
          rw [← hw4]
          have hb4 : Below wr.heap.size wr w4 := by rw [hw4]; exact VB.out _ _
          obtain ⟨v0, v1⟩ := VC.out _ _ _ hw4
          have lv := VL.out _ _ _ hw4
          clear hw4
          have k0 : ∀ p : Later w4, p.val.cell? ⟨b, 0, none⟩ = some (.slice (some ⟨gs, 0, none⟩) d.last.length cap') := fun p => (p.below.cell (Nat.lt_of_lt_of_le l0 hb4.size)).trans ((hb4.cell l0).trans c0)
          have k1 : ∀ p : Later w4, p.val.cell? ⟨wr.heap.size, 0, none⟩ = some (.int .i64 (P1 : Nat)) := fun p => (p.below.cell lv).trans v0
          have k2 : ∀ p : Later w4, p.val.cell? ⟨wr.heap.size, 1, none⟩ = some (.string S2) := fun p => (p.below.cell lv).trans v1
          have k3 : ∀ p : Later w4, p.val.cell? ⟨gs, P1, none⟩ = some (.string S0) := fun p => (HC.out _ (hb4.trans (p.below.mono hb4.size))).1
          have hne := later_ne w4
          have HB4 := hide hb4
          clear c0 c1 q0 q1 v0 v1 hb4
          refine wp_region_later_tail 20 (by kernel_rfl) (by kernel_rfl) ?_
          simp only [List.take, List.drop]
          (repeat (first | go_big_quiet_skip | (go_big_quiet_want; go_big_quiet_op; go_big_quiet_on)))
          refine wpQuiet_nil ?_
          rintro _ ⟨y, rfl⟩
          have hbb := HB4.out.trans (y.below.mono HB4.out.size)
          obtain ⟨v1, v2⟩ := HC.out _ hbb
          have HX2 := hide (HX.out _ hbb)
          clear HX HC k0 k1 k2 k3 hbb
          go_wp2
          go_roundw
          case rel => exact ⟨k + 1, by omega, by go_num, by rw [HT.out]; exact HX2.out⟩
          case measure => simp [intOf]; omega
      · obtain rfl : 0 = F := by rw [← hF, List.getD, List.getElem?_eq_none (by have := HL.out; omega)]; rfl
        replace HT0 := HT0 rfl
        clear hF
        have HT := HT0
        clear HT0 HT1 HT2
        go_wp2
        go_roundw
        case rel => exact ⟨k + 1, by omega, by go_num, by rw [HT.out]; exact HS0.out.later (VB.out _ _)⟩
        case measure => simp [intOf]; omega
    · obtain rfl : k = d.pend.length := by omega
      have f1 := hS.raw.fr 1
      have HF : Hid (LeftT (refT b (d.crash keep)) w (xDev b sv pv) (wr.setCell ⟨b, 1, none⟩ (.slice none 0 0))) := by
        rw [List.take_length] at hS
        exact sr_none hS rfl rfl rfl hok (.inl ⟨rfl, rfl⟩) HN.out
      clear hS
      subst hpv
      go_wp2
      go_end0
      exact ⟨rfl, HF.out⟩

end Wi
end Go.Proofs.Ytdcnjaomocehmaa
