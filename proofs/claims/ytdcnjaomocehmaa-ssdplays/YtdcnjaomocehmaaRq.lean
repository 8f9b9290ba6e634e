/- The document's answer of stage 4: a call of it, and whether a device is it. -/
import Derived.Test.YtdcnjaomocehmaaRn
namespace Go.Proofs.Ytdcnjaomocehmaa
open Go.RowKit
namespace Wi
set_option maxHeartbeats 2000000 in
theorem asked_any {w : World} {b : Nat} {X : Nat → Prop} {d : Dv} (h : refT b d w X) (o : OpV) (ho : OpOk w X o) (hd : o.data.size ≤ 640) (hp : d.pend.length ≤ 100000000) :
    Calls Try.prog 16 #[.pointer (some ⟨b, 0, none⟩), .agg o.cells.toArray] w fun e w' => e = .returned (.tuple #[.string (str (d.stepS o)), .int .i64 (d.stepE o)]) ∧ LeftT (refT b (d.step o)) w X w' := by
  obtain ⟨ask, pl, n, data, ka, kn, kc, keep⟩ := o
  obtain ⟨⟨q1, q2⟩, q3, q4, q5, q6⟩ := ho
  simp only at q1 q2 q3 q4 q5 q6 hd
  unfold OpV.cells
  simp only
  have B0 := below_alloc w (.cells #[.int .i64 ask, .int .i64 pl, .int .i64 n, .string data, .slice ka kn kc] 36)
  have hD := (refT_good b d).later h B0
  by_cases h0 : ask = 0
  · have e1 : d.stepE ⟨ask, pl, n, data, ka, kn, kc, keep⟩ = d.writeA pl (bs data) := by simp [Dv.stepE, h0]
    have e2 : d.step ⟨ask, pl, n, data, ka, kn, kc, keep⟩ = d.write pl (bs data) := by simp [Dv.step, h0]
    have e3 : d.stepS ⟨ask, pl, n, data, ka, kn, kc, keep⟩ = [] := by simp [Dv.stepS, h0]
    rw [e1, e2, e3]
    subst h0
    have hc := rwrite_any hD pl data q3 q5 (by omega)
    go_enter Try.func16, Try.ntmps16
    go_wp2_with fail
    refine hc.mono ?_
    rintro e w1 ⟨rfl, hl⟩
    go_wp2
    go_ret2
    exact ⟨rfl, hl.first B0⟩
  · by_cases h1 : ask = 1
    · have e1 : d.stepE ⟨ask, pl, n, data, ka, kn, kc, keep⟩ = d.barrierA := by simp [Dv.stepE, h1]
      have e2 : d.step ⟨ask, pl, n, data, ka, kn, kc, keep⟩ = d.barrier := by simp [Dv.step, h1]
      have e3 : d.stepS ⟨ask, pl, n, data, ka, kn, kc, keep⟩ = [] := by simp [Dv.stepS, h1]
      rw [e1, e2, e3]
      subst h1
      have hc := rbarrier_any hD (by omega)
      go_enter Try.func16, Try.ntmps16
      go_wp2_with fail
      refine hc.mono ?_
      rintro e w1 ⟨rfl, hl⟩
      go_wp2
      go_ret2
      exact ⟨rfl, hl.first B0⟩
    · by_cases h2 : ask = 2
      · have e1 : d.stepE ⟨ask, pl, n, data, ka, kn, kc, keep⟩ = 0 := by simp [Dv.stepE, h2]
        have e2 : d.step ⟨ask, pl, n, data, ka, kn, kc, keep⟩ = d.crash keep := by simp [Dv.step, h2]
        have e3 : d.stepS ⟨ask, pl, n, data, ka, kn, kc, keep⟩ = [] := by simp [Dv.stepS, h2]
        rw [e1, e2, e3]
        subst h2
        have hc := rcrash_any hD (by omega) (cap := kc) (q6.later B0)
        go_enter Try.func16, Try.ntmps16
        go_wp2_with fail
        refine hc.mono ?_
        rintro e w1 ⟨rfl, hl⟩
        go_wp2
        go_ret2
        exact ⟨rfl, hl.first B0⟩
      · by_cases h3 : ask = 3
        · have e1 : d.stepE ⟨ask, pl, n, data, ka, kn, kc, keep⟩ = 0 := by simp [Dv.stepE, h3]
          have e2 : d.step ⟨ask, pl, n, data, ka, kn, kc, keep⟩ = d.halt n := by simp [Dv.step, h3]
          have e3 : d.stepS ⟨ask, pl, n, data, ka, kn, kc, keep⟩ = [] := by simp [Dv.stepS, h3]
          rw [e1, e2, e3]
          subst h3
          have hc := rstop_any hD n q4
          go_enter Try.func16, Try.ntmps16
          go_wp2_with fail
          refine hc.mono ?_
          rintro e w1 ⟨rfl, hl⟩
          go_wp2
          go_ret2
          exact ⟨rfl, hl.first B0⟩
        · by_cases h4 : ask = 4
          · have e1 : d.stepE ⟨ask, pl, n, data, ka, kn, kc, keep⟩ = 0 := by simp [Dv.stepE, h4]
            have e2 : d.step ⟨ask, pl, n, data, ka, kn, kc, keep⟩ = d.lose := by simp [Dv.step, h4]
            have e3 : d.stepS ⟨ask, pl, n, data, ka, kn, kc, keep⟩ = [] := by simp [Dv.stepS, h4]
            rw [e1, e2, e3]
            subst h4
            obtain ⟨sv, pv, st, z, hR, rfl⟩ := hD
            have f2 := hR.raw.fr 2
            obtain ⟨c0, c1, c2, c3, c4⟩ := hR.raw.c
            have HF : Hid (LeftT (refT b d.lose) _ (xDev b sv pv) _) := ref_same (Keep.setCell _ ⟨b, 2, none⟩ (.bool true) (.inl rfl)) ⟨hR.raw.setGone true, ⟨hR.ok.most, hR.ok.whole, hR.ok.pend⟩, hR.halt, hR.num⟩
            clear hR h
            go_enter Try.func16, Try.ntmps16
            go_wp2
            go_ret2
            exact ⟨rfl, HF.out.first B0⟩
          · have e1 : d.stepE ⟨ask, pl, n, data, ka, kn, kc, keep⟩ = d.readE pl n := by simp [Dv.stepE, h0, h1, h2, h3, h4]
            have e2 : d.step ⟨ask, pl, n, data, ka, kn, kc, keep⟩ = d := by simp [Dv.step, h0, h1, h2, h3, h4]
            have e3 : d.stepS ⟨ask, pl, n, data, ka, kn, kc, keep⟩ = d.readS pl n := by simp [Dv.stepS, h0, h1, h2, h3, h4]
            rw [e1, e2, e3]
            have hc := rread_any hD (by omega) pl n q3 q4
            have b0 : (ask == 0) = false := by rw [beq_eq_false_iff_ne]; exact h0
            have b1 : (ask == 1) = false := by rw [beq_eq_false_iff_ne]; exact h1
            have b2 : (ask == 2) = false := by rw [beq_eq_false_iff_ne]; exact h2
            have b3 : (ask == 3) = false := by rw [beq_eq_false_iff_ne]; exact h3
            have b4 : (ask == 4) = false := by rw [beq_eq_false_iff_ne]; exact h4
            clear h0 h1 h2 h3 h4
            go_enter Try.func16, Try.ntmps16
            go_wp2_with fail
            refine hc.mono ?_
            rintro e w1 ⟨rfl, rfl⟩
            go_wp2
            go_ret2
            exact ⟨rfl, _, hD, Keep.of_below B0, fun _ e => .inl e⟩

set_option maxHeartbeats 2000000 in
theorem sameD_any {w : World} {b c : Nat} {X Y : Nat → Prop} {d : Dv} (h : Dev w b X d) (hr : refT c d w Y) (hp : d.pend.length ≤ 100000000) :
    Calls Try.prog 14 #[.pointer (some ⟨b, 0, none⟩), .pointer (some ⟨c, 0, none⟩)] w fun e w' => e = .returned (.bool true) ∧ Below w.heap.size w w' := by
  have hm := h.ok.most
  have hc1 := read_any h 0 (d.last.length : Nat) (by omega) (by omega)
  have hr0 := hr
  obtain ⟨sv, pv, st, z, hR, rfl⟩ := hr
  obtain ⟨c0, c1, c2, c3, c4⟩ := hR.raw.c
  obtain ⟨sa, sc, rfl⟩ := row_slice hR.raw.sec
  obtain ⟨pa, pc, rfl⟩ := row_slice hR.raw.chg
  have lB := hR.raw.lt
  have HR := hide hr0
  clear hr0 hR
  generalize hS : str (d.readS 0 (d.last.length : Nat)) = S at *
  generalize hE : d.readE 0 (d.last.length : Nat) = E at *
  have ES := hide hS
  have EE := hide hE
  clear hS hE
  have v1 : (S.toList == S.toList) = true := beq_lists rfl
  have v2 : (E == E) = true := beq_self_eq_true E
  have v3 : (((d.last.length : Nat) : Int) == ((d.last.length : Nat) : Int)) = true := beq_self_eq_true _
  have v4 : (((d.pend.length : Nat) : Int) == ((d.pend.length : Nat) : Int)) = true := beq_self_eq_true _
  have v5 : (d.gone == d.gone) = true := beq_self_eq_true _
  go_enter Try.func14, Try.ntmps14
  go_wp2_with fail
  refine hc1.mono ?_
  rintro e w1 ⟨rfl, hb1⟩
  clear hc1
  have c0' := (hb1.cell (p := ⟨c, 0, none⟩) lB).trans c0
  have hc2 := rread_any ((refT_good c d).later HR.out hb1) (by omega) 0 (d.last.length : Nat) (by omega) (by omega)
  rw [ES.out, EE.out] at hc2
  go_wp2_with fail
  refine hc2.mono ?_
  rintro e w2 ⟨rfl, rfl⟩
  clear hc2 c0'
  have hD := h.later hb1
  have hs : ∀ p : Later w2, _ := fun p => same_b (sectors_any (hD.later p.below))
  have hpe : ∀ p : Later w2, _ := fun p => same_b (pending_any (hD.later p.below))
  have hlo : ∀ p : Later w2, _ := fun p => same_b (lost_any (hD.later p.below))
  have HD := hide hD
  have k0 : ∀ p : Later w2, p.val.cell? ⟨c, 0, none⟩ = some (.slice sa d.last.length sc) := fun p => (p.below.cell (Nat.lt_of_lt_of_le lB hb1.size)).trans ((hb1.cell (p := ⟨c, 0, none⟩) lB).trans c0)
  have k1 : ∀ p : Later w2, p.val.cell? ⟨c, 1, none⟩ = some (.slice pa d.pend.length pc) := fun p => (p.below.cell (Nat.lt_of_lt_of_le lB hb1.size)).trans ((hb1.cell (p := ⟨c, 1, none⟩) lB).trans c1)
  have k2 : ∀ p : Later w2, p.val.cell? ⟨c, 2, none⟩ = some (.bool d.gone) := fun p => (p.below.cell (Nat.lt_of_lt_of_le lB hb1.size)).trans ((hb1.cell (p := ⟨c, 2, none⟩) lB).trans c2)
  have hne := later_ne w2
  clear h hD c0 c1 c2 c3 c4
  go_wp2
  refine wp_region_later (by kernel_rfl) (by kernel_rfl) ?_
  (repeat (first | go_big_quiet_skip | (go_big_quiet_want; go_big_quiet_op; go_big_quiet_on)))
  (go_big_quiet_want; go_big_quiet_op; apply Exists.intro; refine ⟨fun p => ?_, ?_⟩; (· exact later_of (hs _)); go_big_quiet_on)
  (repeat (first | go_big_quiet_skip | (go_big_quiet_want; go_big_quiet_op; go_big_quiet_on)))
  (go_big_quiet_want; go_big_quiet_op; apply Exists.intro; refine ⟨fun p => ?_, ?_⟩; (· exact later_of (hpe _)); go_big_quiet_on)
  (repeat (first | go_big_quiet_skip | (go_big_quiet_want; go_big_quiet_op; go_big_quiet_on)))
  (go_big_quiet_want; go_big_quiet_op; apply Exists.intro; refine ⟨fun p => ?_, ?_⟩; (· exact later_of (hlo _)); go_big_quiet_on)
  (repeat (first | go_big_quiet_skip | (go_big_quiet_want; go_big_quiet_op; go_big_quiet_on)))
  refine wpQuiet_nil ?_
  rintro _ ⟨p, rfl⟩
  go_wp2
  go_ret
  exact ⟨rfl, hb1.trans (p.below.mono hb1.size)⟩

end Wi
end Go.Proofs.Ytdcnjaomocehmaa
