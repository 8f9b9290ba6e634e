/- The document's bucket: an object is made; a call by its fate. -/
import Derived.Test.YthnhapjjgaicdaaRc
import Derived.Test.YthnhapjjgaicdaaYa
namespace Go.Proofs.Ythnhapjjgaicdaa
open Go.RowKit
namespace Wi

theorem less_not : ∀ x y : List UInt8, ¬ Lib.compareBytes x y < 0 → Op.bytesLess x y = false
  | [], [], _ => by simp [Op.bytesLess]
  | [], _ :: _, h => by simp [Lib.compareBytes] at h
  | _ :: _, [], _ => by simp [Op.bytesLess]
  | a :: x, b :: y, h => by
    unfold Lib.compareBytes at h
    unfold Op.bytesLess
    by_cases h1 : a < b
    · rw [if_pos h1] at h
      omega
    · rw [if_neg h1] at h
      by_cases h2 : b < a
      · have h3 : ¬ a = b := fun e => UInt8.lt_irrefl _ (e ▸ h2)
        simp [h1, h3]
      · rw [if_neg h2] at h
        have := less_not x y h
        simp [h1, this]
theorem less_cmpB' {a b : ByteArray} (h : ¬ cmpB a b < 0) : Op.bytesLess a.toList b.toList = false := by
  rw [ByteArray.toList_eq, ByteArray.toList_eq]
  exact less_not _ _ h
theorem one_row (w : World) (o : Ob) : Rw (w.alloc (.cells #[.string o.1, .string o.2] 73)) 73 2 (.slice (some ⟨w.heap.size, 0, none⟩) 1 1) 1 (encOs [o]) :=
  ⟨by simp [encOs, encO], .inr ⟨w.heap.size, 0, 1, _, rfl, heap_alloc_new w _, Nat.le_refl _, by unfold maxLen; omega, by simp, by simp [encOs, encO]⟩⟩
section
variable {w : World} {b : Nat} {X : Nat → Prop} {d : Bk}
set_option maxHeartbeats 8000000 in
theorem rdo_put (h : refT b d w X) (hn : d.objs.length ≤ 900000) (hF : Fd d) (s x : ByteArray) (hx : x.size ≤ 65536) : Calls Try.prog 54 #[.pointer (some ⟨b, 0, none⟩), .agg #[.bool true, .string s, .string x]] w fun e w' => e = .returned (.int .i64 (d.addE s x)) ∧ LeftT (refT b (d.add s x)) w X w' := by
  have HREF := hide h
  obtain ⟨ov, fv, lv, fs, h, hm, hnum, hok, rfl⟩ := h
  have hb0 := below_alloc w (.cells #[.bool true, .string s, .string x] 88)
  have hN0 := heap_alloc_new w (.cells #[.bool true, .string s, .string x] 88)
  have h0 := h.later hb0
  have hfi := rfind_any h0 hok.rise (by omega) s
  obtain ⟨w0, hw0⟩ : ∃ w0, w0 = w.alloc (.cells #[.bool true, .string s, .string x] 88) := ⟨_, rfl⟩
  rw [← hw0] at hb0 hN0 h0 hfi
  have r0 := cell_of_row w0 w.heap.size 0 _ _ _ hN0
  have r1 := cell_of_row w0 w.heap.size 1 _ _ _ hN0
  have r2 := cell_of_row w0 w.heap.size 2 _ _ _ hN0
  simp only [List.getElem?_toArray, List.getElem?_cons_zero, List.getElem?_cons_succ] at r0 r1 r2
  have HW0 := hide hw0
  have lR : w.heap.size < w0.heap.size := lt_of_block hN0
  have HL := hide ((LeftT.refl HREF.out).later (refT_good _ _) hb0)
  cases hfd : foundB d.objs s with
  | true =>
    have hlt : place d.objs s < d.objs.length := by
      obtain ⟨o, ho, _⟩ := foundB_some hfd
      exact (List.getElem?_eq_some_iff.1 ho).1
    rw [show idxOf d.objs s = (place d.objs s : Nat) by simp [idxOf, hfd]] at hfi
    rw [show d.addE s x = 16 by simp [Bk.addE, hfd], show d.add s x = d by simp [Bk.add, hfd]]
    generalize place d.objs s = P at *
    clear hw0 h h0 hN0 hb0 HREF hfd hm hnum
    go_enter Try.func54, Try.ntmps54
    go_wp2_with fail
    rw [← HW0.out]
    refine hfi.mono ?_
    rintro e w' ⟨rfl, hww⟩
    subst hww
    clear hfi
    go_wp2
    go_ret
    exact ⟨rfl, HL.out⟩
  | false =>
    rw [show idxOf d.objs s = -1 by simp [idxOf, hfd]] at hfi
    have hT := hF.total (by omega)
    have hus : ∀ p : Later w0, Calls Try.prog 38 #[.pointer (some ⟨b, 0, none⟩)] p.val fun e w' => e = .returned (.int .i64 (total d.objs : Nat)) ∧ w' = p.val := fun p => rused_any (h0.later p.below) (by omega) (by omega)
    have lB := h0.lt
    have k1 : ∀ p : Later w0, p.val.cell? ⟨b, 1, none⟩ = some (.int .i64 (d.quota : Nat)) := fun p => (p.below.cell (p := ⟨b, 1, none⟩) lB).trans h0.c.2.1
    have k2 : ∀ p : Later w0, p.val.cell? ⟨w.heap.size, 2, none⟩ = some (.string x) := fun p => (p.below.cell (p := ⟨w.heap.size, 2, none⟩) lR).trans r2
    have hne := later_ne w0
    have hqm := hok.most
    by_cases hq : d.quota < total d.objs + x.size
    · rw [show d.addE s x = 33 by simp [Bk.addE, hfd, hq], show d.add s x = d by simp [Bk.add, hfd, hq]]
      have HL2 : Hid (∀ p : Later w0, LeftT (refT b d) w (xB b ov fv lv) p.val) := fun p => HL.out.later (refT_good _ _) p.below
      generalize total d.objs = TO at *
      generalize d.quota = QU at *
      clear hw0 h h0 hN0 hb0 HREF hfd hm hnum HL
      go_enter Try.func54, Try.ntmps54
      go_wp2_with fail
      rw [← HW0.out]
      refine hfi.mono ?_
      rintro e w' ⟨rfl, hww⟩
      subst hww
      clear hfi
      go_wp2
      refine wp_region_later (by kernel_rfl) (by kernel_rfl) ?_
      (repeat (first | go_big_quiet_skip | (go_big_quiet_want; go_big_quiet_op; go_big_quiet_on)))
      (go_big_quiet_want; go_big_quiet_op; apply Exists.intro; refine ⟨fun p => ?_, ?_⟩; (· exact later_of (same_b (hus p))); go_big_quiet_on)
      (repeat (first | go_big_quiet_skip | (go_big_quiet_want; go_big_quiet_op; go_big_quiet_on)))
      refine wpQuiet_nil ?_
      rintro _ ⟨p, rfl⟩
      have HF := hide (HL2.out p)
      clear k1 k2 hne hus HL2
      generalize p.val = w1 at *
      go_wp2
      go_ret
      exact ⟨rfl, HF.out⟩
    · rw [show d.addE s x = 0 by simp [Bk.addE, hfd, hq], show d.add s x = { d with objs := put d.objs s x } by simp [Bk.add, hfd, hq]]
      have hok2 := hok.add s x
      rw [show d.add s x = { d with objs := put d.objs s x } by simp [Bk.add, hfd, hq]] at hok2
      have HDONE : Hid (∀ {w1 w3 : World} {v : Value} {n : Nat}, Below w.heap.size w w1 → NewO w1 (put d.objs s x) n w3 v → LeftT (refT b { d with objs := put d.objs s x }) w (xB b ov fv lv) (w3.setCell ⟨b, 0, none⟩ v)) := fun hb hN => rdo_left h hm hnum hok2 rfl rfl rfl hb hN
      have hpl := place_le d.objs s
      have HAH := hide (place_ahead d.objs s)
      have HAT := hide (place_at d.objs s)
      have HPUT : Hid (put d.objs s x = d.objs.take (place d.objs s) ++ [(s, x)] ++ d.objs.drop (place d.objs s)) := by show _ = _; unfold put; simp
      have HH0 := hide h0
      have HB0 := hide hb0
      obtain ⟨a, cap, hov⟩ := h.os.form
      subst hov
      have hcap : d.objs.length ≤ cap := by
        rcases h.os.2 with ⟨hv, h0⟩ | ⟨g, off, cap', cur, hv, _, h1, h2, _⟩
        · injection hv with e1 e2 e3
          omega
        · injection hv with e1 e2 e3
          omega
      have c0 := h0.c.1
      have f0 := h0.fr 0
      have hTake := encOs_take d.objs (place d.objs s) hpl
      generalize put d.objs s x = PUT at *
      generalize place d.objs s = P at *
      obtain ⟨a2, ha2⟩ : ∃ a2, a2 = (if cap = P then a else a.map (·.add (P * 2))) := ⟨_, rfl⟩
      have hs2 := run_from30 a d.objs.length cap P hpl
      have hsrc2 := h0.os.drop (k := P) hpl
      rw [← ha2] at hs2 hsrc2
      rw [hTake.2] at hsrc2
      have HS2 := hide hsrc2
      have HON2 := hide (encOs_one (d.objs.drop P))
      have HLD : Hid ((d.objs.drop P).length = d.objs.length - P) := by show _ = _; rw [List.length_drop]
      generalize total d.objs = TO at *
      generalize hNN : d.objs.length = N at *
      have HNN := hide hNN
      generalize d.quota = QU at *
      clear hw0 h h0 hN0 hb0 HREF hfd hm hnum HL hsrc2 ha2 hTake hok hok2 hNN hF
      go_enter Try.func54, Try.ntmps54
      go_wp2_with fail
      rw [← HW0.out]
      refine hfi.mono ?_
      rintro e w' ⟨rfl, hww⟩
      subst hww
      clear hfi
      go_wp2
      refine wp_region_later (by kernel_rfl) (by kernel_rfl) ?_
      (repeat (first | go_big_quiet_skip | (go_big_quiet_want; go_big_quiet_op; go_big_quiet_on)))
      (go_big_quiet_want; go_big_quiet_op; apply Exists.intro; refine ⟨fun p => ?_, ?_⟩; (· exact later_of (same_b (hus p))); go_big_quiet_on)
      (repeat (first | go_big_quiet_skip | (go_big_quiet_want; go_big_quiet_op; go_big_quiet_on)))
      refine wpQuiet_nil ?_
      rintro _ ⟨p, rfl⟩
      clear k1 k2 hne hus
      have hpb := p.below
      generalize p.val = w1 at *
      have HPB := hide hpb
      clear hpb
      go_wp2
      go_loopw [7, 8] (fun v i wr => ∃ k : Nat, k ≤ P ∧ i = .int .i64 k ∧ NewO w' (d.objs.take k) k wr v) (fun _ i _ => P - (intOf i).toNat)
      case atStart => exact ⟨0, Nat.zero_le _, rfl, NewO.nil HPB.out⟩
      case round =>
        obtain ⟨k, hk, rfl, hN⟩ := hrel
        have q1 := (hN.below.cell (p := ⟨w.heap.size, 1, none⟩) lR).trans r1
        have q2 := (hN.below.cell (p := ⟨w.heap.size, 2, none⟩) lR).trans r2
        have q0 := (hN.below.cell (p := ⟨b, 0, none⟩) lB).trans c0
        have lB2 : b < wr.heap.size := Nat.lt_of_lt_of_le lB hN.below.size
        have lR2 : w.heap.size < wr.heap.size := Nat.lt_of_lt_of_le lR hN.below.size
        have k0 : ∀ p : Later wr, p.val.cell? ⟨b, 0, none⟩ = some (.slice a N cap) := fun p => (p.below.cell (p := ⟨b, 0, none⟩) lB2).trans q0
        have k1 : ∀ p : Later wr, p.val.cell? ⟨w.heap.size, 1, none⟩ = some (.string s) := fun p => (p.below.cell (p := ⟨w.heap.size, 1, none⟩) lR2).trans q1
        have hne := later_ne wr
        have HN := hide hN
        clear hN
        by_cases hlt : k < P
        · obtain ⟨o, ho⟩ : ∃ o, d.objs[k]? = some o := ⟨_, List.getElem?_eq_getElem (by have := HNN.out; omega)⟩
          have hD := HH0.out.os.later HN.out.below
          rw [HNN.out] at hD
          obtain ⟨g, off, cap', hv, hgl, _⟩ := hD.pos (by omega)
          injection hv with e1 e2 e3
          subst e1 e3
          clear e2
          rw [← HNN.out] at hD
          obtain ⟨t0, t1⟩ := rob_cells hD ho
          have v1 := less_cmpB (HAH.out k o hlt ho)
          have hkn : k < N := by omega
          have hkd : decide ((k : Int) < (N : Int)) = true := by simp; omega
          have HTK := hide (snoc_take _ _ _ ho)
          clear hD ho
          obtain ⟨O1, O2⟩ := o
          simp only at t0 t1 v1 HTK
          have t2 : ∀ p : Later wr, p.val.cell? ⟨g, off + k * 2, none⟩ = some (.string O1) := fun p => (p.below.cell (p := ⟨g, off + k * 2, none⟩) hgl).trans t0
          go_wp2
          refine wp_region_later (by kernel_rfl) (by kernel_rfl) ?_
          (repeat (first | go_big_quiet_skip | (go_big_quiet_want; go_big_quiet_op; go_big_quiet_on)))
          refine wpQuiet_nil ?_
          rintro _ ⟨p, rfl⟩
          have hpb := p.below
          generalize p.val = w2 at *
          have q0' := (hpb.cell (p := ⟨b, 0, none⟩) lB2).trans q0
          have t0' := (hpb.cell (p := ⟨g, off + k * 2, none⟩) hgl).trans t0
          have t1' := (hpb.cell (p := ⟨g, off + k * 2 + 1, none⟩) hgl).trans t1
          have HN2 := hide ((HN.out.later hpb).later (below_alloc w2 (.cells #[.string O1, .string O2] 73)))
          have HONE := hide (one_row w2 (O1, O2))
          have HON := hide (encOs_one [(O1, O2)])
          have hx3 : k + 1 ≤ maxLen := by unfold maxLen; omega
          have hx4 : (k + 1) * 32 ≤ 140737488355328 := by omega
          clear k0 k1 t2 hne q0 q1 q2 t0 t1 hpb HN
          go_wp2_with (at_builtin; refine append73 rfl (.tmp 74) (.tmp 82) rfl _ k _ rfl HN2.out.row (some ⟨w2.heap.size, 0, none⟩) 1 1 _ rfl HONE.out HON.out hx3 hx4 ?_; intro v2 w3 g1 g2 g3; replace g1 := hide g1; replace g2 := hide g2; replace g3 := hide g3)
          have HF : Hid (NewO w' (d.objs.take (k + 1)) (k + 1) w3 v2) := by
            have := HN2.out.grow (m := [(O1, O2)]) (Below.refl _ _) rfl g1.out g2.out g3.out
            rw [← HTK.out] at this
            exact this
          clear g1 g2 g3
          go_roundw
          case rel => exact ⟨k + 1, by omega, by go_num, HF.out⟩
          case measure => simp [intOf]; omega
        · obtain rfl : k = P := by omega
          obtain ⟨a1, c1, hu⟩ := HN.out.row.form
          subst hu
          by_cases hkn : k < N
          · obtain ⟨o, ho⟩ : ∃ o, d.objs[k]? = some o := ⟨_, List.getElem?_eq_getElem (by have := HNN.out; omega)⟩
            have hD := HH0.out.os.later HN.out.below
            rw [HNN.out] at hD
            obtain ⟨g, off, cap', hv, hgl, _⟩ := hD.pos (by omega)
            injection hv with e1 e2 e3
            subst e1 e3
            clear e2
            rw [← HNN.out] at hD
            obtain ⟨t0, t1⟩ := rob_cells hD ho
            have hkd : decide ((k : Int) < (N : Int)) = true := by simp; omega
            have v1 := less_cmpB' (Int.not_lt.2 (HAT.out o ho))
            clear hD ho
            obtain ⟨O1, O2⟩ := o
            simp only at t0 t1 v1
            have t2 : ∀ p : Later wr, p.val.cell? ⟨g, off + k * 2, none⟩ = some (.string O1) := fun p => (p.below.cell (p := ⟨g, off + k * 2, none⟩) hgl).trans t0
            go_wp2
            refine wp_region_later (by kernel_rfl) (by kernel_rfl) ?_
            (repeat (first | go_big_quiet_skip | (go_big_quiet_want; go_big_quiet_op; go_big_quiet_on)))
            refine wpQuiet_nil ?_
            rintro _ ⟨p, rfl⟩
            have hpb := p.below
            generalize p.val = w2 at *
            have q0' := (hpb.cell (p := ⟨b, 0, none⟩) lB2).trans q0
            have q1' := (hpb.cell (p := ⟨w.heap.size, 1, none⟩) lR2).trans q1
            have q2' := (hpb.cell (p := ⟨w.heap.size, 2, none⟩) lR2).trans q2
            have HQ0 := hide c0
            have HQF := hide f0
            have HN2 := hide ((HN.out.later hpb).later (below_alloc w2 (.cells #[.string s, .string x] 73)))
            have HONE := hide (one_row w2 (s, x))
            have HON := hide (encOs_one [(s, x)])
            have hx3 : k + 1 ≤ maxLen := by unfold maxLen; omega
            have hx4 : (k + 1) * 32 ≤ 140737488355328 := by omega
            have hx5 : k + 1 + (N - k) ≤ maxLen := by unfold maxLen; omega
            have hx6 : (k + 1 + (N - k)) * 32 ≤ 140737488355328 := by omega
            try clear t2 t0 t1
            clear k0 k1 hne q0 q1 q2 hpb HN c0 f0 r1 r2
            go_wp2_with (at_builtin; first | (refine append73 rfl (.tmp 86) (.tmp 92) rfl _ k _ rfl HN2.out.row (some ⟨w2.heap.size, 0, none⟩) 1 1 _ rfl HONE.out HON.out hx3 hx4 ?_; intro v2 w3 g1 g2 g3; obtain ⟨a3, m3, c3, rfl⟩ := g1.own_form; have HN3 : Hid (NewO w' (d.objs.take k ++ [(s, x)]) (k + 1) w3 (.slice a3 m3 c3)) := HN2.out.grow (Below.refl _ _) rfl g1 g2 g3; have cB1 := (HN3.out.below.cell (p := ⟨b, 0, none⟩) lB).trans HQ0.out; have HS3 := hide (HS2.out.later HN3.out.below); clear g1 g2 g3) | (refine append73 rfl (.tmp 95) (.tmp 101) rfl _ (k + 1) _ rfl HN3.out.row _ _ _ _ rfl HS3.out HON2.out hx5 hx6 ?_; intro v4 w4 g1 g2 g3; obtain ⟨a4, m4, c4, rfl⟩ := g1.own_form; have HN4 : Hid (NewO w' (d.objs.take k ++ [(s, x)] ++ d.objs.drop k) (k + 1 + (N - k)) w4 (.slice a4 m4 c4)) := HN3.out.grow (Below.refl _ _) HLD.out g1 g2 g3; have cB2 := (HN4.out.below.cell (p := ⟨b, 0, none⟩) lB).trans HQ0.out; have fB2 := (HN4.out.below.frozen (p := ⟨b, 0, none⟩) lB).trans HQF.out; clear g1 g2 g3))
            rw [← HPUT.out] at HN4
            have HF := hide (HDONE.out HB0.out HN4.out)
            go_ret
            exact ⟨rfl, HF.out⟩
          · go_wp2
            refine wp_region_later (by kernel_rfl) (by kernel_rfl) ?_
            (repeat (first | go_big_quiet_skip | (go_big_quiet_want; go_big_quiet_op; go_big_quiet_on)))
            refine wpQuiet_nil ?_
            rintro _ ⟨p, rfl⟩
            have hpb := p.below
            generalize p.val = w2 at *
            have q0' := (hpb.cell (p := ⟨b, 0, none⟩) lB2).trans q0
            have q1' := (hpb.cell (p := ⟨w.heap.size, 1, none⟩) lR2).trans q1
            have q2' := (hpb.cell (p := ⟨w.heap.size, 2, none⟩) lR2).trans q2
            have HQ0 := hide c0
            have HQF := hide f0
            have HN2 := hide ((HN.out.later hpb).later (below_alloc w2 (.cells #[.string s, .string x] 73)))
            have HONE := hide (one_row w2 (s, x))
            have HON := hide (encOs_one [(s, x)])
            have hx3 : k + 1 ≤ maxLen := by unfold maxLen; omega
            have hx4 : (k + 1) * 32 ≤ 140737488355328 := by omega
            have hx5 : k + 1 + (N - k) ≤ maxLen := by unfold maxLen; omega
            have hx6 : (k + 1 + (N - k)) * 32 ≤ 140737488355328 := by omega
            try clear t2 t0 t1
            clear k0 k1 hne q0 q1 q2 hpb HN c0 f0 r1 r2
            go_wp2_with (at_builtin; first | (refine append73 rfl (.tmp 86) (.tmp 92) rfl _ k _ rfl HN2.out.row (some ⟨w2.heap.size, 0, none⟩) 1 1 _ rfl HONE.out HON.out hx3 hx4 ?_; intro v2 w3 g1 g2 g3; obtain ⟨a3, m3, c3, rfl⟩ := g1.own_form; have HN3 : Hid (NewO w' (d.objs.take k ++ [(s, x)]) (k + 1) w3 (.slice a3 m3 c3)) := HN2.out.grow (Below.refl _ _) rfl g1 g2 g3; have cB1 := (HN3.out.below.cell (p := ⟨b, 0, none⟩) lB).trans HQ0.out; have HS3 := hide (HS2.out.later HN3.out.below); clear g1 g2 g3) | (refine append73 rfl (.tmp 95) (.tmp 101) rfl _ (k + 1) _ rfl HN3.out.row _ _ _ _ rfl HS3.out HON2.out hx5 hx6 ?_; intro v4 w4 g1 g2 g3; obtain ⟨a4, m4, c4, rfl⟩ := g1.own_form; have HN4 : Hid (NewO w' (d.objs.take k ++ [(s, x)] ++ d.objs.drop k) (k + 1 + (N - k)) w4 (.slice a4 m4 c4)) := HN3.out.grow (Below.refl _ _) HLD.out g1 g2 g3; have cB2 := (HN4.out.below.cell (p := ⟨b, 0, none⟩) lB).trans HQ0.out; have fB2 := (HN4.out.below.frozen (p := ⟨b, 0, none⟩) lB).trans HQF.out; clear g1 g2 g3))
            rw [← HPUT.out] at HN4
            have HF := hide (HDONE.out HB0.out HN4.out)
            go_ret
            exact ⟨rfl, HF.out⟩
theorem rdo_any (h : refT b d w X) (hn : d.objs.length ≤ 900000) (hF : Fd d) (c : Ch) (hx : c.2.2.size ≤ 65536) : Calls Try.prog 54 #[.pointer (some ⟨b, 0, none⟩), .agg (encK c).toArray] w fun e w' => e = .returned (.int .i64 (d.actE c)) ∧ LeftT (refT b (d.act c)) w X w' := by
  obtain ⟨p, s, x⟩ := c
  cases p with
  | true => exact rdo_put h hn hF s x hx
  | false => exact rdo_cut h hn s x
end

end Wi
end Go.Proofs.Ythnhapjjgaicdaa
