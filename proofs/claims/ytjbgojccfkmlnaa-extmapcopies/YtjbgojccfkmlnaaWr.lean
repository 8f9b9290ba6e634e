/- slices.Replace at extents. -/
import Derived.Test.YtjbgojccfkmlnaaWq
namespace Go.Proofs.Ytjbgojccfkmlnaa
open Go.RowKit
namespace Wi

theorem insert_any {w : World} {v : Value} {n m i : Nat} {va : Option Addr} {vc : Nat} {xs ys : List Value} (h : Rw w 40 4 v n xs) (hx : ∀ u ∈ xs, u.oneCell' = true) (hn : n ≤ 1000000) (hmm : m ≤ 1000000) (hv : Rw w 40 4 (.slice va m vc) m ys) (h1 : ∀ u ∈ ys, u.oneCell' = true) (hi : i ≤ n) (hne : ∀ k, (Value.slice va m vc).ownBlock = some k → v.ownBlock ≠ some k) :
    Calls Try.prog 64 #[v, .int .i64 (i : Nat), .slice va m vc] w fun e w' => ∃ v', e = .returned v' ∧ Grew w 40 4 v (n + m) (xs.take (i * 4) ++ (ys ++ xs.drop (i * 4))) w' v' := by
  obtain ⟨a, cap, rfl⟩ := h.form
  have hc : n ≤ cap ∧ cap ≤ 9223372036854775807 := by
    rcases h.2 with ⟨hv, h0⟩ | ⟨g, off, cap', cur, hv, _, k1, k2, _⟩
    · cases hv; omega
    · cases hv; unfold maxLen at k2; omega
  by_cases hm : 0 < m
  · by_cases hin : i < n
    · obtain ⟨g, off, cap', hv', _⟩ := h.pos (by omega)
      cases hv'
      by_cases hr : n + m ≤ cap
      · exact insert_room (q := n - i) h hx hn hm hmm hc.1 hc.2 hv h1 (by omega) (by omega) hr fun k hk e => hne k hk (by rw [e]; rfl)
      · exact insert_grow (q := n - i) h hx hn hm hmm hc.1 hv h1 (by omega) (by omega) (by omega)
    · obtain rfl : i = n := by omega
      have := insert_end h hn hm hmm hc.1 hv h1
      rw [← h.1, List.take_length, List.drop_length, List.append_nil]
      exact this
  · obtain rfl : m = 0 := by omega
    have hy : ys = [] := List.eq_nil_of_length_eq_zero (by simpa using hv.1)
    subst hy
    refine (insert_none va vc hi hn hc.1).mono ?_
    rintro e w' ⟨rfl, rfl⟩
    exact ⟨_, rfl, by rw [List.nil_append, List.take_append_drop]; exact h, Keep.refl _ _, Moved.refl _ _⟩
theorem splice_drop {α : Type} (L c : List α) (o k : Nat) (ho : o ≤ L.length) (hk : o + c.length ≤ k) : (splice L o c).drop k = L.drop k := by
  unfold splice
  have hl : (L.take o).length = o := by rw [List.length_take]; omega
  obtain ⟨d, rfl⟩ : ∃ d, k = (L.take o ++ c).length + d := ⟨k - (L.take o ++ c).length, by rw [List.length_append, hl]; omega⟩
  rw [← List.append_assoc, List.drop_length_add_append, List.drop_drop, List.length_append, hl]
/-- append, into the row itself. -/
theorem append_in {w : World} {g off n cap i m : Nat} {va : Option Addr} {vc : Nat} {xs ys : List Value} (h : Rw w 40 4 (.slice (some ⟨g, off, none⟩) n cap) n xs) (hc : n ≤ cap) (hv : Rw w 40 4 (.slice va m vc) m ys) (h1 : ∀ u ∈ ys, u.oneCell' = true) (him : i + m ≤ n) :
    ∃ w2, (∀ ty, (Builtin.append_ #[30, 30] ty #[.slice (some ⟨g, off, none⟩) i cap, .slice va m vc]).run Try.prog w = .ok (.slice (some ⟨g, off, none⟩) (i + m) cap) w2) ∧ Rw w2 40 4 (.slice (some ⟨g, off, none⟩) n cap) n (splice xs (i * 4) ys) ∧ Keep (fun k => k = g) w w2 := by
  obtain ⟨i0, hi, hz0, hz1, hz2⟩ := info_parts info40
  have hyl := hv.1
  rcases hv.2 with ⟨hv', rfl⟩ | ⟨g2, off2, cap2, cur, hv', hg, _⟩
  · injection hv' with e1 _ e3
    subst e1 e3
    have hy : ys = [] := List.eq_nil_of_length_eq_zero (by simpa using hyl)
    subst hy
    refine ⟨w, fun ty => ?_, by rw [show splice xs (i * 4) [] = xs by unfold splice; simp]; exact h, Keep.refl _ _⟩
    have : ¬ cap < i := by omega
    simp [Builtin.append_, run_underlying Try.underlying30, sizeOf, typeInfo, hi, Builtin.lenOf, Builtin.firstCells, storeCells]
    try omega
  · injection hv' with e1 _ e3
    subst e1 e3
    have hr := fun ty => run_append_room_cells (P := Try.prog) w 30 ty 40 i0 Try.underlying30 hi g off i cap ⟨g2, off2, none⟩ m vc ys (by rw [hyl, hz1]) hv.cells h1 (by omega)
      (fun j hj => by rw [hz1]; exact (h.there (o := i * 4) (m := ys.length) (by omega) j hj).1) (fun j hj => by rw [hz1]; exact (h.there (o := i * 4) (m := ys.length) (by omega) j hj).2)
    simp only [hz1] at hr
    exact ⟨_, hr, h.set (by omega) h1, Keep.setCells (X := fun k => k = g) g rfl _ _ _⟩
set_option maxHeartbeats 8000000 in
set_option maxRecDepth 100000 in
theorem rep_end {w : World} {g off n cap m i j : Nat} {va : Option Addr} {vc : Nat} {xs ys : List Value} (h : Rw w 40 4 (.slice (some ⟨g, off, none⟩) n cap) n xs) (_hx : ∀ u ∈ xs, u.oneCell' = true) (hn : n ≤ 1000000) (hmm : m ≤ 1000000) (hc : n ≤ cap) (_hcm : cap ≤ 9223372036854775807) (hv : Rw w 40 4 (.slice va m vc) m ys) (h1 : ∀ u ∈ ys, u.oneCell' = true) (hij : i < j) (hq : j = n) (_hne : ∀ k, (Value.slice va m vc).ownBlock = some k → k ≠ g) :
    Calls Try.prog 54 #[.slice (some ⟨g, off, none⟩) n cap, .int .i64 (i : Nat), .int .i64 (j : Nat), .slice va m vc] w fun e w' => ∃ v', e = .returned v' ∧ Grew w 40 4 (.slice (some ⟨g, off, none⟩) n cap) (i + m) (xs.take (i * 4) ++ ys) w' v' := by
  subst hq
  obtain ⟨a', s0⟩ : ∃ a', ∀ w', (Instr.slice 30 (.slice (some ⟨g, off, none⟩) j cap) (some (.int .i64 (i : Nat))) (some (.int .i64 (j : Nat))) none).run Try.prog w' = .ok (.slice a' (j - i) (cap - i)) w' := ⟨_, fun w' => run_slb (n := j) (some ⟨g, off, none⟩) w' (by omega) (by omega)⟩
  have s2 := fun w' => slU (g := g) (off := off) (n := j) (cap := cap) (hi := i) (i : Nat) rfl (by omega) w'
  have hijB : ((i : Int) == (j : Int)) = false := by simp; omega
  have hi1 : i ≤ 1000000 := by omega
  have hxl := h.1
  by_cases hlt : i + m < j
  · obtain ⟨w2, ha, hr2, hk2⟩ := append_in h hc hv h1 (i := i) (by omega)
    obtain ⟨w3, zs, hcl, hr3, hk3⟩ := clear_in hr2 (i + m) (j - (i + m)) (by omega) (some ⟨g, off + (i + m) * 4, none⟩) fun _ => rfl
    have HG : Hid (Grew w 40 4 (.slice (some ⟨g, off, none⟩) j cap) (i + m) (xs.take (i * 4) ++ ys) w3 (.slice (some ⟨g, off, none⟩) (i + m) cap)) := by
      have h4 := hr3.narrow (m := i + m) (by omega)
      rw [splice_end _ _ _ (by have := hr2.1; omega)] at h4
      have e := spl_bc xs ys [] (i * 4) ((i + m) * 4) (by rw [hv.1]; omega) (by simp; omega)
      have e9 : ∀ X : List Value, splice X ((i + m) * 4) [] = X := fun X => by unfold splice; simp
      rw [e9, List.length_nil, Nat.add_zero, List.append_nil] at e
      rw [e] at h4
      exact ⟨h4, keep_own (hk2.trans hk3 fun _ _ e => e), .inl rfl⟩
    obtain ⟨T, hT⟩ : ∃ T, i + m = T := ⟨_, rfl⟩
    rw [hT] at ha hcl HG hlt ⊢
    have s6 := fun w' => slF (g := g) (off := off) (n := j) (cap := cap) (lo := T) (q := j - T) (T : Nat) rfl (by omega) hc (by omega) w'
    have hTj : decide ((T : Int) < (j : Int)) = true := by simp; omega
    clear h hr2 hr3 hk2 hk3 hv _hx h1 hxl hT
    go_enter Try.func54, Try.ntmps54
    go_wp2_with (first | (at_builtin; refine wpList_append_at _ rfl (.tmp 32) (.tmp 33) 30 30 rfl _ _ rfl rfl (ha _) ?_) | (simp only [hcl]))
    go_ret
    exact ⟨_, rfl, HG.out⟩
  · have H0 : Hid (Rw w 40 4 (.slice (some ⟨g, off, none⟩) i cap) i (xs.take (i * 4))) := h.narrow (by omega)
    have HV := hide hv
    have H1 := hide h1
    have hx1 : i + m ≤ maxLen := by unfold maxLen; omega
    have hx2 : (i + m) * 32 ≤ 140737488355328 := by omega
    have hTj : decide ((i : Int) + (m : Int) < (j : Int)) = false := by simp; omega
    clear h hv h1 _hx
    go_enter Try.func54, Try.ntmps54
    go_wp2_with (at_builtin; refine append30 rfl (.tmp 32) (.tmp 33) rfl _ i _ rfl H0.out va m vc _ rfl HV.out H1.out hx1 hx2 ?_; intro v2 w2 r1 r2 r3; obtain ⟨fa, fc, rfl⟩ := r1.form; replace r1 := hide r1; replace r2 := hide r2; replace r3 := hide r3)
    have HG : Hid (Grew w 40 4 (.slice (some ⟨g, off, none⟩) j cap) (i + m) (xs.take (i * 4) ++ ys) w2 (.slice fa (i + m) fc)) := ⟨r1.out, Keep.grown r2.out fun _ e => e, r3.out⟩
    clear r1 r2 r3
    go_ret
    exact ⟨_, rfl, HG.out⟩

set_option maxHeartbeats 8000000 in
set_option maxRecDepth 100000 in
theorem rep_grow {w : World} {g off n cap m i j q : Nat} {va : Option Addr} {vc : Nat} {xs ys : List Value} (h : Rw w 40 4 (.slice (some ⟨g, off, none⟩) n cap) n xs) (hx : ∀ u ∈ xs, u.oneCell' = true) (hn : n ≤ 1000000) (hmm : m ≤ 1000000) (hc : n ≤ cap) (hcm : cap ≤ 9223372036854775807) (hv : Rw w 40 4 (.slice va m vc) m ys) (h1 : ∀ u ∈ ys, u.oneCell' = true) (hij : i < j) (hq : j + q = n) (_hne : ∀ k, (Value.slice va m vc).ownBlock = some k → k ≠ g) (hq0 : 0 < q) (hgrow : cap < i + m + q) :
    Calls Try.prog 54 #[.slice (some ⟨g, off, none⟩) n cap, .int .i64 (i : Nat), .int .i64 (j : Nat), .slice va m vc] w fun e w' => ∃ v', e = .returned v' ∧ Grew w 40 4 (.slice (some ⟨g, off, none⟩) n cap) (i + m + q) (xs.take (i * 4) ++ (ys ++ xs.drop (j * 4))) w' v' := by
  obtain ⟨a', s0⟩ : ∃ a', ∀ w', (Instr.slice 30 (.slice (some ⟨g, off, none⟩) n cap) (some (.int .i64 (i : Nat))) (some (.int .i64 (j : Nat))) none).run Try.prog w' = .ok (.slice a' (j - i) (cap - i)) w' := ⟨_, fun w' => run_slb (n := n) (some ⟨g, off, none⟩) w' (by omega) (by omega)⟩
  have s2 := fun w' => slU (g := g) (off := off) (n := n) (cap := cap) (hi := i) (i : Nat) rfl (by omega) w'
  have hijB : ((i : Int) == (j : Int)) = false := by simp; omega
  have hi1 : i ≤ 1000000 := by omega
  have hj1 : j ≤ 1000000 := by omega
  have s5 := fun w' => slF (g := g) (off := off) (n := n) (cap := cap) (lo := j) (q := q) (j : Nat) rfl hq hc (by omega) w'
  have hjn : ((j : Int) == (n : Int)) = false := by simp; omega
  have hq1 : q ≤ 1000000 := by omega
  obtain ⟨T, hT⟩ : ∃ T, i + m + q = T := ⟨_, rfl⟩
  have hTb : T ≤ 3000000 := by omega
  have hwr : IntKind.i64.wrap ((i : Int) + (m : Int)) = (i : Int) + (m : Int) := by rw [IntKind.wrap_i64]; omega
  have hwT : IntKind.i64.wrap ((i : Int) + (m : Int) + (q : Int)) = (T : Int) := by rw [IntKind.wrap_i64]; omega
  have hd := h.drew
  obtain ⟨w1, C, Z, ha, hr1, hZ, hb1, hC, hC2⟩ := grow_zeros hd i (m + q) (by omega) (by omega) (by omega) (by omega)
  have hv1 := hv.drew.later hb1
  obtain ⟨w2, hcp2, hr2, hk2⟩ := copy_in hr1 i (m + q) hv1 m (fun u hu => h1 u (List.mem_of_mem_take hu)) (Nat.min_eq_left (by omega)) (by omega)
  have hb2 : Below w.drew.heap.size w.drew w2 := hb1.trans (hk2.below hb1.size fun k hk e => by omega)
  have hs2 := ((hd.later hb2).tail (lo := j) hq (by omega)).drew
  obtain ⟨w3, hcp3, hr3, hk3⟩ := copy_in hr2.drew (i + m) q hs2 q (fun u hu => hx u (List.mem_of_mem_drop (List.mem_of_mem_take hu))) (Nat.min_self _) (by omega)
  have hdl : (xs.drop (j * 4)).length = q * 4 := by rw [List.length_drop, h.1]; omega
  rw [List.take_of_length_le (l := ys) (by rw [hv.1]; exact Nat.le_refl _), List.take_of_length_le (l := xs.drop (j * 4)) (by rw [hdl]; exact Nat.le_refl _)] at hr3
  have hg0 := fill_new (w := w.drew) (g := g) (off := off) (n := n) (cap := cap) hr1 h.1 (by omega) hZ hb1 hk2 ((Keep.refl (fun k => k = w.drew.heap.size) w2).drew.trans hk3 fun _ _ e => e) hv.1 rfl hdl hr3
  have HG : Hid (Grew w 40 4 (.slice (some ⟨g, off, none⟩) n cap) (i + (m + q)) (xs.take (i * 4) ++ (ys ++ xs.drop (j * 4))) w3 (.slice (some ⟨w.drew.heap.size, 0, none⟩) (i + (m + q)) C)) := ⟨hg0.row, (Keep.refl _ _).drew.trans hg0.keep fun _ _ e => e, hg0.moved⟩
  have hKi : (T : Int) - (i : Int) = ((m + q : Nat) : Int) := by omega
  obtain ⟨K, hK⟩ : ∃ K, m + q = K := ⟨_, rfl⟩
  simp only [Nat.zero_add] at hcp2 hcp3
  have hT2 : i + K = T := by omega
  rw [hK] at hKi ha hcp2 HG
  rw [hT2] at ha HG
  rw [hK, hT2] at hC
  rw [hT]
  have ew : w.drew.heap.size = w.heap.size := rfl
  simp only [ew] at ha hcp2 hcp3 HG
  clear ew
  have s3 := fun w' => slF (g := w.heap.size) (off := 0) (n := T) (cap := C) (lo := i) (q := K) (i : Nat) rfl hT2 hC (by omega) w'
  have s4 := fun w' => slF (g := w.heap.size) (off := 0) (n := T) (cap := C) (lo := i + m) (q := q) ((i : Int) + (m : Int)) (by omega) (by omega) hC (by omega) w'
  have hgT : cap < T := by omega
  have HH := hide hT
  have HQ := hide hq
  have HK := hide hK
  have HK2 := hide hT2
  clear h hr1 hr2 hr3 hv hv1 hs2 hk2 hk3 hb1 hb2 hx h1 hdl hZ hd hT hT2 hK hq hg0
  go_enter Try.func54, Try.ntmps54
  go_wp2
  go_region
  rename_i KK hKK
  refine hKK _ _ ?_
  go_wp2_with (first | (at_builtin; refine wpList_append_at _ rfl (.tmp 63) (.tmp 66) 30 3 rfl _ _ rfl rfl (ha _) ?_) | (at_builtin; refine wpList_copy_at _ rfl (.tmp 70) (.tmp 71) 30 30 rfl _ _ rfl rfl (hcp2 _ _) ?_))
  go_region_law (refine step_copy_at rfl (.tmp 78) (.tmp 81) 30 30 rfl _ _ (by simp [Act.eval, Act.put]) (by simp [Act.eval, Act.put]) (hcp3 _ _) ?_)
  go_wp2
  go_ret
  exact ⟨_, rfl, HG.out⟩

set_option maxHeartbeats 8000000 in
set_option maxRecDepth 100000 in
theorem rep_less {w : World} {g off n cap m i j q : Nat} {va : Option Addr} {vc : Nat} {xs ys : List Value} (h : Rw w 40 4 (.slice (some ⟨g, off, none⟩) n cap) n xs) (hx : ∀ u ∈ xs, u.oneCell' = true) (hn : n ≤ 1000000) (hmm : m ≤ 1000000) (hc : n ≤ cap) (_hcm : cap ≤ 9223372036854775807) (hv : Rw w 40 4 (.slice va m vc) m ys) (h1 : ∀ u ∈ ys, u.oneCell' = true) (hij : i < j) (hq : j + q = n) (_hne : ∀ k, (Value.slice va m vc).ownBlock = some k → k ≠ g) (hq0 : 0 < q) (hme : i + m ≤ j) :
    Calls Try.prog 54 #[.slice (some ⟨g, off, none⟩) n cap, .int .i64 (i : Nat), .int .i64 (j : Nat), .slice va m vc] w fun e w' => ∃ v', e = .returned v' ∧ Grew w 40 4 (.slice (some ⟨g, off, none⟩) n cap) (i + m + q) (xs.take (i * 4) ++ (ys ++ xs.drop (j * 4))) w' v' := by
  obtain ⟨a', s0⟩ : ∃ a', ∀ w', (Instr.slice 30 (.slice (some ⟨g, off, none⟩) n cap) (some (.int .i64 (i : Nat))) (some (.int .i64 (j : Nat))) none).run Try.prog w' = .ok (.slice a' (j - i) (cap - i)) w' := ⟨_, fun w' => run_slb (n := n) (some ⟨g, off, none⟩) w' (by omega) (by omega)⟩
  have s2 := fun w' => slU (g := g) (off := off) (n := n) (cap := cap) (hi := i) (i : Nat) rfl (by omega) w'
  have hijB : ((i : Int) == (j : Int)) = false := by simp; omega
  have hi1 : i ≤ 1000000 := by omega
  have hj1 : j ≤ 1000000 := by omega
  have s5 := fun w' => slF (g := g) (off := off) (n := n) (cap := cap) (lo := j) (q := q) (j : Nat) rfl hq hc (by omega) w'
  have hjn : ((j : Int) == (n : Int)) = false := by simp; omega
  have hq1 : q ≤ 1000000 := by omega
  obtain ⟨T, hT⟩ : ∃ T, i + m + q = T := ⟨_, rfl⟩
  have hTb : T ≤ 3000000 := by omega
  have hwr : IntKind.i64.wrap ((i : Int) + (m : Int)) = (i : Int) + (m : Int) := by rw [IntKind.wrap_i64]; omega
  have hwT : IntKind.i64.wrap ((i : Int) + (m : Int) + (q : Int)) = (T : Int) := by rw [IntKind.wrap_i64]; omega
  have hd := h.drew
  have hxl := h.1
  have hyl := hv.1
  obtain ⟨w2, hcp2, hr2, hk2⟩ := copy_in hd i (m + q) hv.drew m (fun u hu => h1 u (List.mem_of_mem_take hu)) (Nat.min_eq_left (by omega)) (by omega)
  rw [List.take_of_length_le (l := ys) (by omega)] at hr2
  have hs2 := (hr2.tail (lo := j) hq (by omega)).drew
  rw [splice_drop _ _ _ _ (by omega) (by omega)] at hs2
  have hdl : (xs.drop (j * 4)).length = q * 4 := by rw [List.length_drop, hxl]; omega
  obtain ⟨w3, hcp3, hr3, hk3⟩ := copy_in hr2.drew (i + m) q hs2 q (fun u hu => hx u (List.mem_of_mem_drop (List.mem_of_mem_take hu))) (Nat.min_self _) (by omega)
  rw [List.take_of_length_le (l := xs.drop (j * 4)) (by omega)] at hr3
  obtain ⟨a6, s6, ha6⟩ : ∃ a6, (∀ w', (Instr.slice 30 (.slice (some ⟨g, off, none⟩) n cap) (some (.int .i64 (T : Nat))) none none).run Try.prog w' = .ok (.slice a6 (n - T) (cap - T)) w') ∧ (0 < n - T → a6 = some ⟨g, off + T * 4, none⟩) := by
    refine ⟨_, fun w' => run_slf (some ⟨g, off, none⟩) n cap T w' (by omega) hc, fun h0 => ?_⟩
    rw [if_neg (by omega)]
    simp [Addr.add_mid]
  obtain ⟨w4, zs, hcl, hr4, hk4⟩ := clear_in hr3 T (n - T) (by omega) a6 ha6
  have HG : Hid (Grew w 40 4 (.slice (some ⟨g, off, none⟩) n cap) T (xs.take (i * 4) ++ (ys ++ xs.drop (j * 4))) w4 (.slice (some ⟨g, off, none⟩) T cap)) := by
    have h4 := hr4.narrow (m := T) (by omega)
    rw [splice_end _ _ _ (by have := hr3.1; omega)] at h4
    have e := spl_bc xs ys (xs.drop (j * 4)) (i * 4) ((i + m) * 4) (by omega) (by omega)
    rw [show (i + m) * 4 + (xs.drop (j * 4)).length = T * 4 by omega] at e
    rw [e] at h4
    have hk : Keep (fun k => k = g) w w4 := (((Keep.refl _ _).drew.trans hk2 fun _ _ e => e).trans ((Keep.refl (fun k => k = g) w2).drew.trans hk3 fun _ _ e => e) fun _ _ e => e).trans hk4 fun _ _ e => e
    exact ⟨h4, keep_own hk, .inl rfl⟩
  have s3 := fun w' => slU (g := g) (off := off) (n := n) (cap := cap) (hi := T) (T : Nat) rfl (by omega) w'
  have s7 := fun w' => slF (g := g) (off := off) (n := T) (cap := cap) (lo := i) (q := m + q) (i : Nat) rfl (by omega) (by omega) (by omega) w'
  have s4 := fun w' => slF (g := g) (off := off) (n := T) (cap := cap) (lo := i + m) (q := q) ((i : Int) + (m : Int)) (by omega) (by omega) (by omega) (by omega) w'
  obtain ⟨K, hK⟩ : ∃ K, m + q = K := ⟨_, rfl⟩
  rw [hK] at hcp2 s7
  rw [hT]
  have hgT : T ≤ cap := by omega
  have HH := hide hT
  have HQ := hide hq
  have HK := hide hK
  clear h hr2 hr3 hr4 hv hs2 hk2 hk3 hk4 hx h1 hdl hd hT hK hq hxl hyl ha6
  go_enter Try.func54, Try.ntmps54
  go_wp2
  go_region
  rename_i KK hKK
  refine hKK _ _ ?_
  go_wp2_with (at_builtin; refine wpList_copy_at _ rfl (.tmp 95) (.tmp 96) 30 30 rfl _ _ rfl rfl (hcp2 _ _) ?_)
  go_region_law (refine step_copy_at rfl (.tmp 103) (.tmp 106) 30 30 rfl _ _ (by simp [Act.eval, Act.put]) (by simp [Act.eval, Act.put]) (hcp3 _ _) ?_)
  rename_i KK2 hKK2
  refine hKK2 _ _ ?_
  go_wp2_with (simp only [hcl])
  go_ret
  exact ⟨_, rfl, HG.out⟩
set_option maxHeartbeats 8000000 in
set_option maxRecDepth 100000 in
theorem rep_more {w : World} {g off n cap m i j q : Nat} {va : Option Addr} {vc : Nat} {xs ys : List Value} (h : Rw w 40 4 (.slice (some ⟨g, off, none⟩) n cap) n xs) (hx : ∀ u ∈ xs, u.oneCell' = true) (hn : n ≤ 1000000) (hmm : m ≤ 1000000) (hc : n ≤ cap) (hcm : cap ≤ 9223372036854775807) (hv : Rw w 40 4 (.slice va m vc) m ys) (h1 : ∀ u ∈ ys, u.oneCell' = true) (hij : i < j) (hq : j + q = n) (hne : ∀ k, (Value.slice va m vc).ownBlock = some k → k ≠ g) (hq0 : 0 < q) (hme : j < i + m) (hroom : i + m + q ≤ cap) :
    Calls Try.prog 54 #[.slice (some ⟨g, off, none⟩) n cap, .int .i64 (i : Nat), .int .i64 (j : Nat), .slice va m vc] w fun e w' => ∃ v', e = .returned v' ∧ Grew w 40 4 (.slice (some ⟨g, off, none⟩) n cap) (i + m + q) (xs.take (i * 4) ++ (ys ++ xs.drop (j * 4))) w' v' := by
  obtain ⟨a', s0⟩ : ∃ a', ∀ w', (Instr.slice 30 (.slice (some ⟨g, off, none⟩) n cap) (some (.int .i64 (i : Nat))) (some (.int .i64 (j : Nat))) none).run Try.prog w' = .ok (.slice a' (j - i) (cap - i)) w' := ⟨_, fun w' => run_slb (n := n) (some ⟨g, off, none⟩) w' (by omega) (by omega)⟩
  have s2 := fun w' => slU (g := g) (off := off) (n := n) (cap := cap) (hi := i) (i : Nat) rfl (by omega) w'
  have hijB : ((i : Int) == (j : Int)) = false := by simp; omega
  have hi1 : i ≤ 1000000 := by omega
  have hj1 : j ≤ 1000000 := by omega
  have s5 := fun w' => slF (g := g) (off := off) (n := n) (cap := cap) (lo := j) (q := q) (j : Nat) rfl hq hc (by omega) w'
  have hjn : ((j : Int) == (n : Int)) = false := by simp; omega
  have hq1 : q ≤ 1000000 := by omega
  obtain ⟨T, hT⟩ : ∃ T, i + m + q = T := ⟨_, rfl⟩
  have hTb : T ≤ 3000000 := by omega
  have hwr : IntKind.i64.wrap ((i : Int) + (m : Int)) = (i : Int) + (m : Int) := by rw [IntKind.wrap_i64]; omega
  have hwT : IntKind.i64.wrap ((i : Int) + (m : Int) + (q : Int)) = (T : Int) := by rw [IntKind.wrap_i64]; omega
  have hxl := h.1
  have hyl := hv.1
  obtain ⟨E, hE, hW⟩ := h.drew.widen (m := T - n) (by omega)
  have hNT : n + (T - n) = T := by omega
  rw [hNT] at hW
  have hs2 := (h.drew.tail (lo := j) hq (by omega)).drew
  have hdl : (xs.drop (j * 4)).length = q * 4 := by rw [List.length_drop, hxl]; omega
  obtain ⟨w2, hcp2, hr2, hk2⟩ := copy_in hW.drew (i + m) q hs2 q (fun u hu => hx u (List.mem_of_mem_drop (List.mem_of_mem_take hu))) (Nat.min_self _) (by omega)
  rw [List.take_of_length_le (l := xs.drop (j * 4)) (by omega)] at hr2
  have hk2' : Keep (fun k => k = g) w w2 := ((Keep.refl _ _).drew.drew).trans hk2 fun _ _ e => e
  have hv2 : Rw w2 40 4 (.slice va m vc) m ys := hv.keep hk2' fun k hk e => hne k hk e
  obtain ⟨w3, hcp3, hr3, hk3⟩ := copy_in hr2 i (m + q) hv2 m (fun u hu => h1 u (List.mem_of_mem_take hu)) (Nat.min_eq_left (by omega)) (by omega)
  rw [List.take_of_length_le (l := ys) (by omega)] at hr3
  have HG := hide (fill_old (w := w) (n := n) (q := q) hr3 hxl (by omega) hyl hdl (by omega) hW.1 (hk2'.trans hk3 fun _ _ e => e))
  obtain ⟨gv, ov, hva⟩ : ∃ gv ov, va = some ⟨gv, ov, none⟩ := by
    obtain ⟨gv, ov, cv, hv0, _⟩ := hv.pos (by omega)
    injection hv0 with e1 _ _
    exact ⟨gv, ov, e1⟩
  subst hva
  have hov := fun p m2 d2 => overlaps_no h.drew (by omega) hv.drew (by omega) (Ne.symm (hne gv rfl)) (off + p) ov m2 d2 m vc
  have s3 := fun w' => slU (g := g) (off := off) (n := n) (cap := cap) (hi := T) (T : Nat) rfl (by omega) w'
  have s7 := fun w' => slF (g := g) (off := off) (n := T) (cap := cap) (lo := i) (q := m + q) (i : Nat) rfl (by omega) (by omega) (by omega) w'
  have s4 := fun w' => slF (g := g) (off := off) (n := T) (cap := cap) (lo := i + m) (q := q) ((i : Int) + (m : Int)) (by omega) (by omega) (by omega) (by omega) w'
  obtain ⟨K, hK⟩ : ∃ K, m + q = K := ⟨_, rfl⟩
  rw [hK] at hcp3 s7
  rw [hT] at HG
  rw [hT]
  have hgT : T ≤ cap := by omega
  have HH := hide hT
  have HQ := hide hq
  have HK := hide hK
  clear h hW hr2 hr3 hv hv2 hs2 hk2 hk2' hk3 hx h1 hdl hE hT hK hq hxl hyl hNT
  go_enter Try.func54, Try.ntmps54
  go_wp2
  go_region
  rename_i KK hKK
  refine hKK _ _ ?_
  go_wp2_with (simp only [hov])
  go_region_law (refine step_copy_at rfl (.tmp 126) (.tmp 129) 30 30 rfl _ _ (by simp [Act.eval, Act.put]) (by simp [Act.eval, Act.put]) (hcp2 _ _) ?_)
  rename_i KK2 hKK2
  refine hKK2 _ _ ?_
  go_wp2_with (at_builtin; refine wpList_copy_at _ rfl (.tmp 133) (.tmp 134) 30 30 rfl _ _ rfl rfl (hcp3 _ _) ?_)
  go_ret
  exact ⟨_, rfl, HG.out⟩

end Wi
end Go.Proofs.Ytjbgojccfkmlnaa
