/- Two answers that are the same, and a bucket that is the document's. -/
import Derived.Test.YthnhapjjgaicdaaRh
import Derived.Test.YthnhapjjgaicdaaYa
namespace Go.Proofs.Ythnhapjjgaicdaa
open Go.RowKit
namespace Wi

set_option maxHeartbeats 4000000 in
theorem same_same {w : World} {a b : Option Addr} {c d n : Nat} {l : List ByteArray} (h1 : Rw w 9 1 (.slice a n c) l.length (encN l)) (h2 : Rw w 9 1 (.slice b n d) l.length (encN l)) (hn : Hid (n = l.length)) (hl : n ≤ 1000000) (S : ByteArray) (N E : Int) : Calls Try.prog 14 #[.agg #[.string S, .int .i64 N, .slice a n c, .int .i64 E], .agg #[.string S, .int .i64 N, .slice b n d, .int .i64 E]] w fun e w' => e = .returned (.bool true) ∧ Below w.heap.size w w' := by
  have B0 := below_alloc w (.cells #[.string S, .int .i64 N, .slice a n c, .int .i64 E] 38)
  have B1 := below_alloc (w.alloc (.cells #[.string S, .int .i64 N, .slice a n c, .int .i64 E] 38)) (.cells #[.string S, .int .i64 N, .slice b n d, .int .i64 E] 38)
  have hb := B0.trans (B1.mono B0.size)
  have ht := texts_same (h1.later hb) (h2.later hb) hn hl
  have HB := hide hb
  have v1 : (S.toList == S.toList) = true := beq_lists rfl
  clear B0 B1 hb h1 h2
  go_enter Try.func14, Try.ntmps14
  go_wp2_with fail
  refine ht.mono ?_
  rintro e w2 ⟨rfl, hb2⟩
  have HB2 := hide (HB.out.trans (hb2.mono HB.out.size))
  clear ht hb2
  go_wp2
  go_ret
  exact ⟨rfl, HB2.out⟩
set_option maxHeartbeats 8000000 in
theorem same_any {w : World} {b r : Nat} {X Y : Nat → Prop} {d : Bk} (h : bkT b d w X) (hr : refT r d w Y) (ho : d.objs.length ≤ 900000) (hz : ∀ o ∈ d.objs, o.1.size ≤ 9223372036854775807) (_hlt : d.late.length ≤ 900000) (hF : Fd d) : Calls Try.prog 17 #[.pointer (some ⟨b, 0, none⟩), .pointer (some ⟨r, 0, none⟩)] w fun e w' => e = .returned (.bool true) ∧ Below w.heap.size w w' := by
  have hc := names_any h (by omega) hz
  have hok := hr.ok
  have hT := hF.total (by omega)
  have HH := hide h
  have HR := hide hr
  have hqm := hok.most
  clear h hr
  go_enter Try.func17, Try.ntmps17
  go_wp2_with fail
  refine hc.mono ?_
  rintro e w1 ⟨v, rfl, hN⟩
  have hf := hN.row.form
  rw [List.length_map] at hf
  obtain ⟨a, cap, rfl⟩ := hf
  have h1 := (bkT_good b d).later HH.out hN.below
  have hr1 := (refT_good r d).later HR.out hN.below
  have s1 : ∀ p : Later w1, _ := fun p => used_any ((bkT_good b d).later h1 p.below)
  have s2 : ∀ p : Later w1, _ := fun p => quota_any ((bkT_good b d).later h1 p.below)
  have s3 : ∀ p : Later w1, _ := fun p => waits_any ((bkT_good b d).later h1 p.below)
  obtain ⟨ov, fv, lv, fs, hA, _, _, _, _⟩ := hr1
  obtain ⟨oa, oc, rfl⟩ := hA.os.form
  obtain ⟨la, lc, rfl⟩ := hA.ls.form
  have s4 : ∀ p : Later w1, Calls Try.prog 38 #[.pointer (some ⟨r, 0, none⟩)] p.val fun e w' => e = .returned (.int .i64 (total d.objs : Nat)) ∧ w' = p.val := fun p => rused_any (hA.later p.below) (by omega) (by omega)
  have lR := hA.lt
  have k0 : ∀ p : Later w1, p.val.cell? ⟨r, 0, none⟩ = some (.slice oa d.objs.length oc) := fun p => (hA.later p.below).c.1
  have k1 : ∀ p : Later w1, p.val.cell? ⟨r, 1, none⟩ = some (.int .i64 (d.quota : Nat)) := fun p => (hA.later p.below).c.2.1
  have k3 : ∀ p : Later w1, p.val.cell? ⟨r, 3, none⟩ = some (.slice la d.late.length lc) := fun p => (hA.later p.below).c.2.2.2
  have hne := later_ne w1
  have HN := hide hN
  have HA := hide hA.os
  have q0 := hA.c.1
  have HB1 := hide hN.below
  generalize hNN : d.objs.length = N at *
  have HNN := hide hNN
  clear hc h1 hA hN hok hNN
  generalize total d.objs = TO at *
  generalize d.quota = QU at *
  generalize d.late.length = LL at *
  go_wp2
  refine wp_region_later (by kernel_rfl) (by kernel_rfl) ?_
  (repeat (first | go_big_quiet_skip | (go_big_quiet_want; go_big_quiet_op; go_big_quiet_on)))
  (go_big_quiet_want; go_big_quiet_op; apply Exists.intro; refine ⟨fun p => ?_, ?_⟩; (· exact later_of (same_b (s1 p))); go_big_quiet_on)
  (repeat (first | go_big_quiet_skip | (go_big_quiet_want; go_big_quiet_op; go_big_quiet_on)))
  (go_big_quiet_want; go_big_quiet_op; apply Exists.intro; refine ⟨fun p => ?_, ?_⟩; (· exact later_of (same_b (s4 p))); go_big_quiet_on)
  (repeat (first | go_big_quiet_skip | (go_big_quiet_want; go_big_quiet_op; go_big_quiet_on)))
  (go_big_quiet_want; go_big_quiet_op; apply Exists.intro; refine ⟨fun p => ?_, ?_⟩; (· exact later_of (same_b (s2 p))); go_big_quiet_on)
  (repeat (first | go_big_quiet_skip | (go_big_quiet_want; go_big_quiet_op; go_big_quiet_on)))
  (go_big_quiet_want; go_big_quiet_op; apply Exists.intro; refine ⟨fun p => ?_, ?_⟩; (· exact later_of (same_b (s3 p))); go_big_quiet_on)
  (repeat (first | go_big_quiet_skip | (go_big_quiet_want; go_big_quiet_op; go_big_quiet_on)))
  refine wpQuiet_nil ?_
  rintro _ ⟨p, rfl⟩
  clear s1 s2 s3 s4 k0 k1 k3 hne
  have hpb := hide p.below
  generalize p.val = w2 at *
  go_wp2
  go_loopw [6] (fun i wr => ∃ k : Nat, k ≤ N ∧ i = .int .i64 k ∧ Below w1.heap.size w1 wr) (fun i _ => N - (intOf i).toNat)
  case atStart => exact ⟨0, Nat.zero_le _, rfl, hpb.out⟩
  case round =>
    clear hpb
    obtain ⟨k, hk, rfl, hb⟩ := hrel
    by_cases hlt : k < N
    · obtain ⟨o, hoo⟩ : ∃ o, d.objs[k]? = some o := ⟨_, List.getElem?_eq_getElem (by have := HNN.out; omega)⟩
      have hD := HA.out.later hb
      obtain ⟨g, off, cap', hv, hgl, _⟩ := hD.pos (by omega)
      injection hv with x1 x2 x3
      subst x1 x3
      clear x2
      rw [← HNN.out] at hD
      obtain ⟨t0, t1⟩ := rob_cells hD hoo
      have hS := HN.out.row.later hb
      rw [List.length_map, HNN.out] at hS
      obtain ⟨g2, off2, cap2, hv, hgl2, _⟩ := hS.pos (by omega)
      injection hv with x1 x2 x3
      subst x1 x3
      clear x2
      have hS0 := (hS.cell (j := k) (u := .string o.1) (by simp [encN, hoo])).1
      have q1 := (hb.cell (p := ⟨r, 0, none⟩) lR).trans q0
      have lR2 : r < wr.heap.size := Nat.lt_of_lt_of_le lR hb.size
      clear hD hS hoo
      obtain ⟨O1, O2⟩ := o
      simp only at *
      have j0 : ∀ p : Later wr, p.val.cell? ⟨r, 0, none⟩ = some (.slice (some ⟨g, off, none⟩) N oc) := fun p => (p.below.cell (p := ⟨r, 0, none⟩) lR2).trans q1
      have j1 : ∀ p : Later wr, p.val.cell? ⟨g, off + k * 2, none⟩ = some (.string O1) := fun p => (p.below.cell (p := ⟨g, off + k * 2, none⟩) hgl).trans t0
      have j2 : ∀ p : Later wr, p.val.cell? ⟨g2, off2 + k, none⟩ = some (.string O1) := fun p => (p.below.cell (p := ⟨g2, off2 + k, none⟩) hgl2).trans hS0
      have hne := later_ne wr
      have v1 : (O1.toList == O1.toList) = true := beq_lists rfl
      have HB := hide hb
      clear t0 t1 hS0 q1 hb
      go_wp2
      refine wp_region_later (by kernel_rfl) (by kernel_rfl) ?_
      (repeat (first | go_big_quiet_skip | (go_big_quiet_want; go_big_quiet_op; go_big_quiet_on)))
      refine wpQuiet_nil ?_
      rintro _ ⟨p, rfl⟩
      have HB2 := hide (HB.out.trans (p.below.mono HB.out.size))
      clear j0 j1 j2 hne
      generalize p.val = w3 at *
      go_wp2
      go_roundw
      case rel => exact ⟨k + 1, by omega, by go_num, HB2.out⟩
      case measure => simp [intOf]; omega
    · have HB := hide (HB1.out.trans (hb.mono HB1.out.size))
      clear hb
      go_wp2
      go_ret
      exact ⟨rfl, HB.out⟩

end Wi
end Go.Proofs.Ythnhapjjgaicdaa
