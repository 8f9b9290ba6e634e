/- slices.Insert at extents. -/
import Derived.Test.YtjbgojccfkmlnaaWp
namespace Go.Proofs.Ytjbgojccfkmlnaa
open Go.RowKit
namespace Wi

section
variable {g off n cap lo hi q : Nat}
theorem slF (x : Int) (hx : x = (lo : Nat)) (h1 : lo + q = n) (h4 : n ≤ cap) (hc : lo < cap) (w' : World) : (Instr.slice 30 (.slice (some ⟨g, off, none⟩) n cap) (some (.int .i64 x)) none none).run Try.prog w' = .ok (.slice (some ⟨g, off + lo * 4, none⟩) q (cap - lo)) w' := by
  subst hx
  have := run_slf (some ⟨g, off, none⟩) n cap lo w' (by omega) h4
  rw [if_neg (by omega), show n - lo = q by omega] at this
  simpa [Addr.add_mid] using this
theorem slU (x : Int) (hx : x = (hi : Nat)) (h4 : hi ≤ cap) (w' : World) : (Instr.slice 30 (.slice (some ⟨g, off, none⟩) n cap) none (some (.int .i64 x)) none).run Try.prog w' = .ok (.slice (some ⟨g, off, none⟩) hi cap) w' := by
  subst hx
  have := run_slu (some ⟨g, off, none⟩) n cap hi w' h4
  by_cases h0 : cap = 0
  · subst h0
    simpa using this
  · rw [if_neg h0] at this
    simpa [Addr.add_mid] using this
theorem run_slb (a : Option Addr) (w : World) (h1 : lo ≤ hi) (h4 : hi ≤ cap) : (Instr.slice 30 (.slice a n cap) (some (.int .i64 (lo : Nat))) (some (.int .i64 (hi : Nat))) none).run Try.prog w = .ok (.slice (if cap = lo then a else a.map (·.add (lo * 4))) (hi - lo) (cap - lo)) w := by
  have b4 : (cap - lo = 0) ↔ cap = lo := by omega
  simp [Instr.slice, Instr.sliceBounds, Instr.sliceBound, run_underlying Try.underlying30, asIntOf, h1, h4]
theorem Rw.tail {w : World} {xs : List Value} (h : Rw w 40 4 (.slice (some ⟨g, off, none⟩) n cap) n xs) (h1 : lo + q = n) (hc : lo < cap) : Rw w 40 4 (.slice (some ⟨g, off + lo * 4, none⟩) q (cap - lo)) q (xs.drop (lo * 4)) := by
  have := h.drop (k := lo) (by omega)
  rw [if_neg (by omega), show n - lo = q by omega] at this
  simpa [Addr.add_mid] using this
end
/-- Room is made by new memory. -/
theorem grow_zeros {w : World} {g off n cap : Nat} {xs : List Value} (h : Rw w 40 4 (.slice (some ⟨g, off, none⟩) n cap) n xs) (i K : Nat) (hi : i ≤ n) (hK : 0 < K) (hc : cap < i + K) (hb : i + K ≤ 2000000) :
    ∃ w1 C Z, (∀ ty, (Builtin.append_ #[30, 3] ty #[.slice (some ⟨g, off, none⟩) i cap, .int .i64 (K : Nat)]).run Try.prog w = .ok (.slice (some ⟨w.heap.size, 0, none⟩) (i + K) C) w1) ∧ Rw w1 40 4 (.slice (some ⟨w.heap.size, 0, none⟩) (i + K) C) (i + K) (xs.take (i * 4) ++ Z) ∧ Z.length = K * 4 ∧ Below w.heap.size w w1 ∧ i + K ≤ C ∧ C ≤ 9223372036854775807 := by
  obtain ⟨i0, hinf, hz0, hz1, hz2⟩ := info_parts info40
  have htl : (xs.take (i * 4)).length = i * 4 := by rw [List.length_take, h.1]; omega
  have hap := fun ty => run_append_zeros_grow (P := Try.prog) w 30 3 ty 40 i0 _ .i64 Try.underlying30 Try.underlying3 hinf hz0 ⟨g, off, none⟩ i cap (xs.take (i * 4)) (by rw [htl, hz1]) (fun j u hj => by
    have hl := (List.getElem?_eq_some_iff.1 hj).1
    rw [htl] at hl
    rw [List.getElem?_take_of_lt hl] at hj
    exact h.cells j u hj) K hK (by rw [hz1]; omega) hc (by omega) (growslice_fits (by omega) (by rw [hz2]; omega)) (by rw [hz2]; omega)
  have hge := grownCap_ge w (i + K) cap 40
  have hcm : grownCap w (i + K) cap 40 ≤ maxLen := grownCap_le_maxLen w (i + K) cap 40 (by unfold maxLen; omega)
  generalize grownCap w (i + K) cap 40 = C at *
  have hzs : ∀ k, (Builtin.zeroCells (Value.agg #[.int .i64 0, .int .i64 0, .int .i64 0, .int .i64 0]).cells k).size = k * 4 := fun k => by rw [size_zeroCells]; rfl
  refine ⟨_, C, (Builtin.zeroCells (Value.agg #[.int .i64 0, .int .i64 0, .int .i64 0, .int .i64 0]).cells K).toList, hap, ?_, by rw [Array.length_toList, hzs], ((Below.refl _ _).drew).alloc (Nat.le_refl _) _, hge, by unfold maxLen at hcm; omega⟩
  refine ⟨by rw [List.length_append, htl, Array.length_toList, hzs]; omega, .inr ⟨w.heap.size, 0, C, _, rfl, heap_alloc_new w.drew _, hge, hcm, ?_, ?_⟩⟩
  · simp only [Array.size_append, List.size_toArray, hzs, htl]
    omega
  · rw [List.drop_zero, Array.toList_append, Array.toList_append, List.take_append_of_le_length (by rw [List.length_append, htl, Array.length_toList, hzs]; omega), List.take_of_length_le (by rw [List.length_append, htl, Array.length_toList, hzs]; omega)]
/-- What the copies come to, in new memory. -/
theorem fill_new {w w1 w2 w3 : World} {g off n cap C i K m q : Nat} {xs ys Z : List Value} (_hw1 : Rw w1 40 4 (.slice (some ⟨w.heap.size, 0, none⟩) (i + K) C) (i + K) (xs.take (i * 4) ++ Z)) (hxl : xs.length = n * 4) (hi : i ≤ n) (hZ : Z.length = K * 4) (hb : Below w.heap.size w w1) (hk2 : Keep (fun k => k = w.heap.size) w1 w2) (hk3 : Keep (fun k => k = w.heap.size) w2 w3) (hys : ys.length = m * 4) (hK : m + q = K) {zs : List Value} (hzs : zs.length = q * 4)
    (h3 : Rw w3 40 4 (.slice (some ⟨w.heap.size, 0, none⟩) (i + K) C) (i + K) (splice (splice (xs.take (i * 4) ++ Z) (i * 4) ys) ((i + m) * 4) zs)) :
    Grew w 40 4 (.slice (some ⟨g, off, none⟩) n cap) (i + K) (xs.take (i * 4) ++ (ys ++ zs)) w3 (.slice (some ⟨w.heap.size, 0, none⟩) (i + K) C) := by
  have htl : (xs.take (i * 4)).length = i * 4 := by rw [List.length_take, hxl]; omega
  have e := spl_bc (xs.take (i * 4) ++ Z) ys zs (i * 4) ((i + m) * 4) (by omega) (by rw [List.length_append, htl, hZ]; omega)
  have hln := h3.1
  rw [List.take_of_length_le (by omega), List.take_append_of_le_length (by omega), List.take_of_length_le (l := xs.take (i * 4)) (by omega)] at e
  rw [e] at h3
  have hb3 : Below w.heap.size w w3 := (hb.trans (hk2.below hb.size fun k hk e => by omega)).trans (hk3.below (Nat.le_trans hb.size hk2.size) fun k hk e => by omega)
  exact ⟨h3, Keep.of_below hb3, .inr fun k hk => by simp [Value.ownBlock] at hk; omega⟩
/-- What a copy answers at the row's own block. -/
theorem keep_own {w w' : World} {g off n cap : Nat} (h : Keep (fun k => k = g) w w') : Keep (fun k => (Value.slice (some ⟨g, off, none⟩) n cap).ownBlock = some k) w w' := ⟨h.os, h.tape, h.output, h.size, fun k hk hn => h.block k hk fun e => hn (by rw [e]; rfl)⟩
/-- The block of a row of some length has cells. -/
theorem Rw.shape {w : World} {e : TypeId} {size g off n cap : Nat} {xs : List Value} (h : Rw w e size (.slice (some ⟨g, off, none⟩) n cap) n xs) (hn : 0 < n) (hs : 0 < size) : ∃ c, w.shape? g = some (e, c) ∧ c ≠ 0 ∧ ∀ i, w.frozen? ⟨g, i, none⟩ = false := by
  rcases h.2 with ⟨hv, _⟩ | ⟨g', off', cap', cur, hv, hg, k1, k2, k3, k4⟩
  · cases hv
  · cases hv
    refine ⟨cur.size, shape_cells hg, fun h0 => ?_, fun i => frozen_of_row w _ _ _ _ hg⟩
    have : 0 < n * size := Nat.mul_pos hn hs
    have h2 : n * size ≤ cap * size := Nat.mul_le_mul_right _ k1
    omega
theorem overlaps_no {w : World} {g1 o1 n1 c1 g2 o2 n2 c2 : Nat} {x1 x2 : List Value} (h1 : Rw w 40 4 (.slice (some ⟨g1, o1, none⟩) n1 c1) n1 x1) (hn1 : 0 < n1) (h2 : Rw w 40 4 (.slice (some ⟨g2, o2, none⟩) n2 c2) n2 x2) (hn2 : 0 < n2) (hne : g1 ≠ g2) (p q m1 d1 m2 d2 : Nat) :
    (callFunc 65 #[.slice (some ⟨g1, p, none⟩) m1 d1, .slice (some ⟨g2, q, none⟩) m2 d2]).run Try.prog w = .ok (.value (.bool false)) w := by
  obtain ⟨s1, hs1, _, hf1⟩ := h1.shape hn1 (by omega)
  obtain ⟨s2, hs2, hc2, hf2⟩ := h2.shape hn2 (by omega)
  rw [run_callFunc_extern Try.func65 (by kernel_rfl) (by kernel_rfl) (by kernel_rfl) (e := Extern.SlicesOverlaps.overlaps #[30, 30] #[4]) (by kernel_rfl),
    Lib.run_overlaps_apart w 30 4 40 Try.underlying30 4 size40 ⟨g1, p, none⟩ ⟨g2, q, none⟩ m1 d1 m2 d2 hne 40 40 _ _ hs1 hs2 hc2 (hf1 _) (hf1 _)]
  rfl
set_option maxHeartbeats 4000000 in
set_option maxRecDepth 100000 in
theorem insert_none {w : World} {a : Option Addr} {n cap i : Nat} (va : Option Addr) (vc : Nat) (hi : i ≤ n) (_hn : n ≤ 1000000) (hc : n ≤ cap) :
    Calls Try.prog 64 #[.slice a n cap, .int .i64 (i : Nat), .slice va 0 vc] w fun e w' => e = .returned (.slice a n cap) ∧ w' = w := by
  obtain ⟨a', h0⟩ : ∃ a', ∀ w', (Instr.slice 30 (.slice a n cap) (some (.int .i64 (i : Nat))) none none).run Try.prog w' = .ok (.slice a' (n - i) (cap - i)) w' := ⟨_, fun w' => run_slf a n cap i w' hi hc⟩
  go_enter Try.func64, Try.ntmps64
  go_wp2
  go_ret
  exact ⟨rfl, rfl⟩
set_option maxHeartbeats 4000000 in
set_option maxRecDepth 100000 in
theorem insert_end {w : World} {a va : Option Addr} {n cap m vc : Nat} {xs ys : List Value} (h : Rw w 40 4 (.slice a n cap) n xs) (hn : n ≤ 1000000) (hm : 0 < m) (hmm : m ≤ 1000000) (hc : n ≤ cap) (hv : Rw w 40 4 (.slice va m vc) m ys) (h1 : ∀ u ∈ ys, u.oneCell' = true) :
    Calls Try.prog 64 #[.slice a n cap, .int .i64 (n : Nat), .slice va m vc] w fun e w' => ∃ v', e = .returned v' ∧ Grew w 40 4 (.slice a n cap) (n + m) (xs ++ ys) w' v' := by
  obtain ⟨a', h0⟩ : ∃ a', ∀ w', (Instr.slice 30 (.slice a n cap) (some (.int .i64 (n : Nat))) none none).run Try.prog w' = .ok (.slice a' (n - n) (cap - n)) w' := ⟨_, fun w' => run_slf a n cap n w' (Nat.le_refl _) hc⟩
  have H := hide h
  have HV := hide hv
  have H1 := hide h1
  have hx1 : n + m ≤ maxLen := by unfold maxLen; omega
  have hx2 : (n + m) * 32 ≤ 140737488355328 := by omega
  have hm0 : ((m : Int) == 0) = false := by simp; omega
  clear h hv h1
  go_enter Try.func64, Try.ntmps64
  go_wp2_with (at_builtin; refine append30 rfl (.tmp 23) (.tmp 24) rfl _ n _ rfl H.out va m vc _ rfl HV.out H1.out hx1 hx2 ?_; intro v2 w2 r1 r2 r3; replace r1 := hide r1; replace r2 := hide r2; replace r3 := hide r3)
  have HG : Hid (Grew w 40 4 (.slice a n cap) (n + m) (xs ++ ys) w2 v2) := ⟨r1.out, Keep.grown r2.out fun _ e => e, r3.out⟩
  clear r1 r2 r3
  go_ret
  exact ⟨_, rfl, HG.out⟩
set_option maxHeartbeats 8000000 in
set_option maxRecDepth 100000 in
theorem insert_grow {w : World} {g off n cap m i q : Nat} {va : Option Addr} {vc : Nat} {xs ys : List Value} (h : Rw w 40 4 (.slice (some ⟨g, off, none⟩) n cap) n xs) (hx : ∀ u ∈ xs, u.oneCell' = true) (hn : n ≤ 1000000) (hm : 0 < m) (hmm : m ≤ 1000000) (hc : n ≤ cap) (hv : Rw w 40 4 (.slice va m vc) m ys) (h1 : ∀ u ∈ ys, u.oneCell' = true) (hq : i + q = n) (hq0 : 0 < q) (hgrow : cap < n + m) :
    Calls Try.prog 64 #[.slice (some ⟨g, off, none⟩) n cap, .int .i64 (i : Nat), .slice va m vc] w fun e w' => ∃ v', e = .returned v' ∧ Grew w 40 4 (.slice (some ⟨g, off, none⟩) n cap) (n + m) (xs.take (i * 4) ++ (ys ++ xs.drop (i * 4))) w' v' := by
  obtain ⟨w1, C, Z, ha, hr1, hZ, hb1, hC, hC2⟩ := grow_zeros h i (m + q) (by omega) (by omega) (by omega) (by omega)
  have hv1 := hv.later hb1
  obtain ⟨w2, hcp2, hr2, hk2⟩ := copy_in hr1 i (m + q) hv1 m (fun u hu => h1 u (List.mem_of_mem_take hu)) (Nat.min_eq_left (by omega)) (by omega)
  have hb2 : Below w.heap.size w w2 := hb1.trans (hk2.below hb1.size fun k hk e => by omega)
  have hs2 := ((h.later hb2).tail (lo := i) hq (by omega)).drew
  have hxd : ∀ u ∈ xs.drop (i * 4), u.oneCell' = true := fun u hu => hx u (List.mem_of_mem_drop hu)
  obtain ⟨w3, hcp3, hr3, hk3⟩ := copy_in hr2.drew (i + m) q hs2 q (fun u hu => hxd u (List.mem_of_mem_take hu)) (Nat.min_self _) (by omega)
  have hdl : (xs.drop (i * 4)).length = q * 4 := by rw [List.length_drop, h.1]; omega
  rw [List.take_of_length_le (l := ys) (by rw [hv.1]; exact Nat.le_refl _), List.take_of_length_le (l := xs.drop (i * 4)) (by rw [hdl]; exact Nat.le_refl _)] at hr3
  have HG := hide (fill_new (g := g) (off := off) (n := n) (cap := cap) hr1 h.1 (by omega) hZ hb1 hk2 ((Keep.refl (fun k => k = w.heap.size) w2).drew.trans hk3 fun _ _ e => e) hv.1 rfl hdl hr3)
  rw [show i + (m + q) = n + m by omega] at HG
  have hKi : (n : Int) + (m : Int) - (i : Int) = ((m + q : Nat) : Int) := by omega
  obtain ⟨K, hK⟩ : ∃ K, m + q = K := ⟨_, rfl⟩
  rw [hK] at hKi ha hcp2
  simp only [Nat.zero_add] at hcp2 hcp3
  obtain ⟨T, hT⟩ : ∃ T, i + K = T := ⟨_, rfl⟩
  rw [hT] at ha
  have hTb : T ≤ 2000000 := by omega
  rw [hK, hT] at hC
  have s1 := fun w' => slF (g := g) (off := off) (n := n) (cap := cap) (lo := i) (q := q) (i : Nat) rfl hq hc (by omega) w'
  have s2 := fun w' => slU (g := g) (off := off) (n := n) (cap := cap) (hi := i) (i : Nat) rfl (by omega) w'
  have s3 := fun w' => slF (g := w.heap.size) (off := 0) (n := T) (cap := C) (lo := i) (q := K) (i : Nat) rfl hT hC (by omega) w'
  have s4 := fun w' => slF (g := w.heap.size) (off := 0) (n := T) (cap := C) (lo := i + m) (q := q) ((i : Int) + (m : Int)) (by omega) (by omega) hC (by omega) w'
  rw [show n + m = T by omega] at HG ⊢
  have hm0 : ((m : Int) == 0) = false := by simp; omega
  have hin : ((i : Int) == (n : Int)) = false := by simp; omega
  have hgc : decide ((cap : Int) < (n : Int) + (m : Int)) = true := by simp; omega
  have hi1 : i ≤ 1000000 := by omega
  have hwr : IntKind.i64.wrap ((i : Int) + (m : Int)) = (i : Int) + (m : Int) := by rw [IntKind.wrap_i64]; omega
  have HT := hide hT
  have HK := hide hK
  have HQ := hide hq
  clear h hr1 hr2 hr3 hv hv1 hs2 hk2 hk3 hb1 hb2 hx h1 hxd hdl hZ hT hK hq
  go_enter Try.func64, Try.ntmps64
  go_wp2_with (first | (at_builtin; refine wpList_append_at _ rfl (.tmp 34) (.tmp 39) 30 3 rfl _ _ rfl rfl (ha _) ?_) | (at_builtin; refine wpList_copy_at _ rfl (.tmp 43) (.tmp 44) 30 30 rfl _ _ rfl rfl (hcp2 _ _) ?_))
  go_region_law (refine step_copy_at rfl (.tmp 50) (.tmp 53) 30 30 rfl _ _ (by simp [Act.eval, Act.put]) (by simp [Act.eval, Act.put]) (hcp3 _ _) ?_)
  go_wp2
  go_ret
  exact ⟨_, rfl, HG.out⟩
/-- What the copies come to, in the row's own memory. -/
theorem fill_old {w w2 : World} {g off n cap i m N q : Nat} {xs E ys zs : List Value} (hr : Rw w2 40 4 (.slice (some ⟨g, off, none⟩) N cap) N (splice (splice (xs ++ E) ((i + m) * 4) zs) (i * 4) ys)) (hxl : xs.length = n * 4) (hi : i ≤ n) (hys : ys.length = m * 4) (hzs : zs.length = q * 4) (hN : i + m + q ≤ N) (hE : (xs ++ E).length = N * 4) (hk : Keep (fun k => k = g) w w2) :
    Grew w 40 4 (.slice (some ⟨g, off, none⟩) n cap) (i + m + q) (xs.take (i * 4) ++ (ys ++ zs)) w2 (.slice (some ⟨g, off, none⟩) (i + m + q) cap) := by
  have e := spl_cb (xs ++ E) ys zs (i * 4) ((i + m) * 4) (by omega) (by omega)
  rw [List.take_append_of_le_length (l₁ := xs) (by omega), show (i + m) * 4 + zs.length = (i + m + q) * 4 by omega] at e
  have h := hr.narrow hN
  rw [e] at h
  exact ⟨h, keep_own hk, .inl rfl⟩
set_option maxHeartbeats 8000000 in
set_option maxRecDepth 100000 in
theorem insert_room {w : World} {g off n cap m i q : Nat} {va : Option Addr} {vc : Nat} {xs ys : List Value} (h : Rw w 40 4 (.slice (some ⟨g, off, none⟩) n cap) n xs) (hx : ∀ u ∈ xs, u.oneCell' = true) (hn : n ≤ 1000000) (hm : 0 < m) (hmm : m ≤ 1000000) (hc : n ≤ cap) (hcm : cap ≤ 9223372036854775807) (hv : Rw w 40 4 (.slice va m vc) m ys) (h1 : ∀ u ∈ ys, u.oneCell' = true) (hq : i + q = n) (hq0 : 0 < q) (hroom : n + m ≤ cap) (hne : ∀ k, (Value.slice va m vc).ownBlock = some k → k ≠ g) :
    Calls Try.prog 64 #[.slice (some ⟨g, off, none⟩) n cap, .int .i64 (i : Nat), .slice va m vc] w fun e w' => ∃ v', e = .returned v' ∧ Grew w 40 4 (.slice (some ⟨g, off, none⟩) n cap) (n + m) (xs.take (i * 4) ++ (ys ++ xs.drop (i * 4))) w' v' := by
  obtain ⟨E, hE, hW⟩ := h.widen (m := m) hroom
  have hxl := h.1
  have hdl : (xs.drop (i * 4)).length = q * 4 := by rw [List.length_drop, hxl]; omega
  have hs1 := (hW.tail (lo := i) (q := m + q) (by omega) (by omega)).drew
  have e0 : ((xs ++ E).drop (i * 4)).take (q * 4) = xs.drop (i * 4) := by
    rw [List.drop_append_of_le_length (by omega), List.take_append_of_le_length (by omega), List.take_of_length_le (by omega)]
  obtain ⟨w2, hcp2, hr2, hk2⟩ := copy_in hW.drew (i + m) q hs1 q (by rw [e0]; exact fun u hu => hx u (List.mem_of_mem_drop hu)) (Nat.min_eq_right (by omega)) (by omega)
  rw [e0] at hr2
  have hk2' : Keep (fun k => k = g) w w2 := ((Keep.refl _ _).drew).trans hk2 fun _ _ e => e
  have hv2 : Rw w2 40 4 (.slice va m vc) m ys := hv.keep hk2' fun k hk e => hne k hk e
  obtain ⟨w3, hcp3, hr3, hk3⟩ := copy_in hr2 i (m + q) hv2 m (fun u hu => h1 u (List.mem_of_mem_take hu)) (Nat.min_eq_left (by omega)) (by omega)
  rw [List.take_of_length_le (l := ys) (by rw [hv.1]; exact Nat.le_refl _)] at hr3
  have HG := hide (fill_old (q := q) hr3 hxl (by omega) hv.1 hdl (by omega) hW.1 (hk2'.trans hk3 fun _ _ e => e))
  obtain ⟨T, hT⟩ : ∃ T, n + m = T := ⟨_, rfl⟩
  obtain ⟨K, hK⟩ : ∃ K, m + q = K := ⟨_, rfl⟩
  rw [hK] at hcp2 hcp3
  obtain ⟨gv, ov, hva⟩ : ∃ gv ov, va = some ⟨gv, ov, none⟩ := by
    obtain ⟨gv, ov, cv, hv0, _⟩ := hv.pos hm
    injection hv0 with e1 _ _
    exact ⟨gv, ov, e1⟩
  subst hva
  have hov := fun p m2 d2 => overlaps_no hv hm h (by omega) (hne gv rfl) ov (off + p) m vc m2 d2
  have s1 := fun w' => slF (g := g) (off := off) (n := n) (cap := cap) (lo := i) (q := q) (i : Nat) rfl hq hc (by omega) w'
  have s2 := fun w' => slU (g := g) (off := off) (n := n) (cap := cap) (hi := T) ((n : Int) + (m : Int)) (by omega) (by omega) w'
  have s3 := fun w' => slF (g := g) (off := off) (n := T) (cap := cap) (lo := i) (q := K) (i : Nat) rfl (by omega) (by omega) (by omega) w'
  have s4 := fun w' => slF (g := g) (off := off) (n := T) (cap := cap) (lo := i + m) (q := q) ((i : Int) + (m : Int)) (by omega) (by omega) (by omega) (by omega) w'
  rw [show i + m + q = T by omega] at HG
  rw [hT]
  have hTb : T ≤ 2000000 := by omega
  have hm0 : ((m : Int) == 0) = false := by simp; omega
  have hin : ((i : Int) == (n : Int)) = false := by simp; omega
  have hgc : decide ((cap : Int) < (n : Int) + (m : Int)) = false := by simp; omega
  have hi1 : i ≤ 1000000 := by omega
  have hwr : IntKind.i64.wrap ((i : Int) + (m : Int)) = (i : Int) + (m : Int) := by rw [IntKind.wrap_i64]; omega
  have HT := hide hT
  have HK := hide hK
  have HQ := hide hq
  clear h hW hr2 hr3 hv hv2 hs1 hk2 hk2' hk3 hx h1 hxl hdl hE e0 hT hK hq
  go_enter Try.func64, Try.ntmps64
  go_wp2_with (simp only [hov])
  go_region_law (refine step_copy_at rfl (.tmp 73) (.tmp 76) 30 30 rfl _ _ (by simp [Act.eval, Act.put]) (by simp [Act.eval, Act.put]) (hcp2 _ _) ?_)
  go_wp2_with (at_builtin; refine wpList_copy_at _ rfl (.tmp 80) (.tmp 81) 30 30 rfl _ _ rfl rfl (hcp3 _ _) ?_)
  go_ret
  exact ⟨_, rfl, HG.out⟩

end Wi
end Go.Proofs.Ytjbgojccfkmlnaa
