/- slices.Concat of three lists of extents: new memory. -/
import Derived.Test.YtjbgojccfkmlnaaWn
import Derived.Lib.AppendZeros
namespace Go.Proofs.Ytjbgojccfkmlnaa
open Go.RowKit
namespace Wi

theorem zero_agg : (Value.agg #[.int .i64 0, .int .i64 0, .int .i64 0, .int .i64 0]).cells.size = 4 := rfl
set_option maxHeartbeats 4000000 in
set_option maxRecDepth 20000 in
theorem grow_any (w : World) (n : Nat) (hn : n ≤ 1000000) : Calls Try.prog 63 #[.slice none 0 0, .int .i64 (n : Nat)] w fun e w' => ∃ v', e = .returned v' ∧ Rw w' 40 4 v' 0 [] ∧ From w.heap.size v' ∧ Below w.heap.size w w' := by
  by_cases h0 : n = 0
  · subst h0
    go_enter Try.func63, Try.ntmps63
    go_wp2
    go_ret
    exact ⟨_, rfl, Rw.nil _ _ _, From.nil _ _ _, Below.refl _ _⟩
  · obtain ⟨i0, hi, hz0, hz1, hz2⟩ := info_parts info40
    have hr := fun ty => Lib.run_append_nil_zeros (P := Try.prog) w 30 3 ty 40 i0 _ .i64 .i64 Try.underlying30 Try.underlying3 hi hz0 n (by omega) (by rw [hz1]; omega) (by omega) (by rw [hz2]; omega)
    have hge := grownCap_ge w n 0 40
    have hcm : grownCap w n 0 40 ≤ maxLen := grownCap_le_maxLen w n 0 40 (by unfold maxLen; omega)
    generalize hC : grownCap w n 0 40 = C at *
    obtain ⟨W1, hW1⟩ : ∃ W1, W1 = w.drew.alloc (.cells (Builtin.zeroCells (Value.agg #[.int .i64 0, .int .i64 0, .int .i64 0, .int .i64 0]).cells n ++ Builtin.zeroCells (Value.agg #[.int .i64 0, .int .i64 0, .int .i64 0, .int .i64 0]).cells (C - n)) 40) := ⟨_, rfl⟩
    rw [← hW1] at hr
    have HR : Hid (Rw W1 40 4 (.slice (some ⟨w.heap.size, 0, none⟩) 0 C) 0 []) := by
      refine ⟨by simp, .inr ⟨w.heap.size, 0, C, _, rfl, by rw [hW1]; exact heap_alloc_new w.drew _, Nat.zero_le _, hcm, ?_, by simp⟩⟩
      simp only [Array.size_append, size_zeroCells, zero_agg]
      omega
    have HB : Hid (Below w.heap.size w W1) := by
      show Below _ _ _
      rw [hW1]
      exact ((Below.refl _ _).drew).alloc (Nat.le_refl _) _
    clear hW1 hC
    have hc0 : ¬ C = 0 := by omega
    go_enter Try.func63, Try.ntmps63
    go_wp2_with (at_builtin; refine Lib.wpList_append_run _ rfl (.tmp 20) (.tmp 21) 30 3 rfl _ _ rfl rfl _ _ (hr _) ?_)
    go_ret
    exact ⟨_, rfl, HR.out, fun k hk => by simp [Value.ownBlock] at hk; omega, HB.out⟩
def len3 (k a b c : Nat) : Nat := (if 1 ≤ k then a else 0) + (if 2 ≤ k then b else 0) + (if 3 ≤ k then c else 0)
def enc3 (k : Nat) (a b c : List Value) : List Value := (if 1 ≤ k then a else []) ++ (if 2 ≤ k then b else []) ++ (if 3 ≤ k then c else [])
theorem len3_0 (a b c : Nat) : len3 0 a b c = 0 := rfl
theorem len3_1 (a b c : Nat) : len3 1 a b c = a := rfl
theorem len3_2 (a b c : Nat) : len3 2 a b c = a + b := rfl
theorem len3_3 (a b c : Nat) : len3 3 a b c = a + b + c := rfl
theorem enc3_0 (a b c : List Value) : enc3 0 a b c = [] := rfl
theorem enc3_1 (a b c : List Value) : enc3 1 a b c = a := by simp [enc3]
theorem enc3_2 (a b c : List Value) : enc3 2 a b c = a ++ b := by simp [enc3]
theorem enc3_3 (a b c : List Value) : enc3 3 a b c = a ++ b ++ c := by simp [enc3]
set_option maxHeartbeats 8000000 in
set_option maxRecDepth 100000 in
theorem concat_any {w : World} {g : Nat} {v0 v1 v2 : Value} {l0 l1 l2 : List Xt} (hg : w.heap[g]? = some (.cells #[v0, v1, v2] 30 (0, 0))) (h0 : Xs w v0 l0) (h1 : Xs w v1 l1) (h2 : Xs w v2 l2) (n0 : l0.length ≤ 300000) (n1 : l1.length ≤ 300000) (n2 : l2.length ≤ 300000) :
    Calls Try.prog 53 #[.slice (some ⟨g, 0, none⟩) 3 3] w fun e w' => ∃ v', e = .returned v' ∧ Xs w' v' (l0 ++ l1 ++ l2) ∧ From w.heap.size v' ∧ Below w.heap.size w w' := by
  have hgl := lt_of_block hg
  have HCC : Hid (∀ wr, Below w.heap.size w wr → ∀ (j : Nat) (u : Value), #[v0, v1, v2][j]? = some u → wr.cell? ⟨g, j, none⟩ = some u) := fun wr hb j u hj => by
    rw [hb.cell (p := ⟨g, j, none⟩) hgl, cell_of_row _ _ _ _ _ _ hg]
    exact hj
  obtain ⟨a0, c0, rfl, _, _⟩ := h0.len
  obtain ⟨a1, c1, rfl, _, _⟩ := h1.len
  obtain ⟨a2, c2, rfl, _, _⟩ := h2.len
  have H0 := hide h0
  have H1 := hide h1
  have H2 := hide h2
  clear h0 h1 h2 hg
  go_enter Try.func53, Try.ntmps53
  go_wp2
  go_loopw [3, 11] (fun s i wr => ∃ (k : Nat), k ≤ 3 ∧ i = .int .i64 k ∧ s = .int .i64 ((if 1 ≤ k then l0.length else 0) + (if 2 ≤ k then l1.length else 0) + (if 3 ≤ k then l2.length else 0) : Nat) ∧ wr = w) (fun _ i _ => 3 - (intOf i).toNat)
  case atStart => exact ⟨0, by omega, rfl, rfl, rfl⟩
  case round =>
    obtain ⟨k, hk, rfl, rfl, rfl⟩ := hrel
    have hkk : k = 0 ∨ k = 1 ∨ k = 2 ∨ k = 3 := by omega
    rcases hkk with rfl | rfl | rfl | rfl
    · have hC0 : wr.cell? ⟨g, 0, none⟩ = some (.slice a0 l0.length c0) := HCC.out wr (Below.refl _ _) 0 _ rfl
      go_wp2
      go_roundw
      case rel => exact ⟨1, by omega, by go_num, by simp, trivial⟩
      case measure => simp [intOf]
    · have hC1 : wr.cell? ⟨g, 1, none⟩ = some (.slice a1 l1.length c1) := HCC.out wr (Below.refl _ _) 1 _ rfl
      go_wp2
      go_roundw
      case rel => exact ⟨2, by omega, by go_num, by simp, trivial⟩
      case measure => simp [intOf]
    · have hC2 : wr.cell? ⟨g, 2, none⟩ = some (.slice a2 l2.length c2) := HCC.out wr (Below.refl _ _) 2 _ rfl
      go_wp2
      go_roundw
      case rel => exact ⟨3, by omega, by go_num, by simp, trivial⟩
      case measure => simp [intOf]
    · have hgr := grow_any wr (l0.length + l1.length + l2.length) (by omega)
      have hsum : ((if 1 ≤ 3 then l0.length else 0) + (if 2 ≤ 3 then l1.length else 0) + (if 3 ≤ 3 then l2.length else 0)) = l0.length + l1.length + l2.length := by simp
      rw [hsum]
      have hNb : l0.length + l1.length + l2.length ≤ 900000 := by omega
      generalize hNN : l0.length + l1.length + l2.length = N at hgr hNb ⊢
      clear hNN
      go_wp2_with fail
      refine hgr.mono ?_
      rintro e w2 ⟨v6, rfl, hV, hVF, hVB⟩
      have HV := hide hV
      have HVF := hide hVF
      have HVB := hide hVB
      clear hgr hV hVF hVB hsum
      obtain ⟨W0, hW0⟩ : ∃ W0, W0 = wr := ⟨_, rfl⟩
      subst hW0
      go_wp2
      go_loopw [6, 27] (fun f i wq => ∃ (k : Nat), k ≤ 3 ∧ i = .int .i64 k ∧ Rw wq 40 4 f (len3 k l0.length l1.length l2.length) (enc3 k (encXs l0) (encXs l1) (encXs l2)) ∧ From W0.heap.size f ∧ Below W0.heap.size W0 wq) (fun _ i _ => 3 - (intOf i).toNat)
      case atStart => exact ⟨0, by omega, rfl, HV.out, HVF.out, HVB.out⟩
      case round =>
        clear HV HVF HVB
        obtain ⟨k, hk, rfl, hF, hFr, hb⟩ := hrel
        obtain ⟨fa, fc, rfl⟩ := hF.form
        have HFr := hide hFr
        have HB := hide hb
        have HF := hide hF
        have hkk : k = 0 ∨ k = 1 ∨ k = 2 ∨ k = 3 := by omega
        clear hF hFr
        rcases hkk with rfl | rfl | rfl | rfl
        · have hC : wr.cell? ⟨g, 0, none⟩ = some (.slice a0 l0.length c0) := HCC.out wr hb 0 _ rfl
          rw [len3_0] at HF ⊢
          rw [enc3_0] at HF
          have HF2 := HF
          clear hb HF
          go_wp2_with (at_builtin; refine append30 rfl (.tmp 31) (.tmp 32) rfl _ (0) _ rfl HF2.out a0 l0.length c0 _ rfl (H0.out.later HB.out) (encXs_oneCell _) (by unfold maxLen; omega) (by omega) ?_; intro v4 w4 g1 g2 g3; replace g1 := hide g1; replace g2 := hide g2; replace g3 := hide g3)
          have P2 := hide (HFr.out.moved g3.out HB.out.size)
          have P3 := hide (below_grown HB.out g2.out HB.out.size HFr.out)
          have P1 := hide g1.out
          clear g1 g2 g3
          go_wp2
          go_roundw
          case rel => exact ⟨1, by omega, by go_num, by rw [len3_1, enc3_1]; simpa using P1.out, P2.out, P3.out⟩
          case measure => simp [intOf]
        · have hC : wr.cell? ⟨g, 1, none⟩ = some (.slice a1 l1.length c1) := HCC.out wr hb 1 _ rfl
          rw [len3_1] at HF ⊢
          rw [enc3_1] at HF
          have HF2 := HF
          clear hb HF
          go_wp2_with (at_builtin; refine append30 rfl (.tmp 31) (.tmp 32) rfl _ (l0.length) _ rfl HF2.out a1 l1.length c1 _ rfl (H1.out.later HB.out) (encXs_oneCell _) (by unfold maxLen; omega) (by omega) ?_; intro v4 w4 g1 g2 g3; replace g1 := hide g1; replace g2 := hide g2; replace g3 := hide g3)
          have P2 := hide (HFr.out.moved g3.out HB.out.size)
          have P3 := hide (below_grown HB.out g2.out HB.out.size HFr.out)
          have P1 := hide g1.out
          clear g1 g2 g3
          go_wp2
          go_roundw
          case rel => exact ⟨2, by omega, by go_num, by rw [len3_2, enc3_2]; simpa using P1.out, P2.out, P3.out⟩
          case measure => simp [intOf]
        · have hC : wr.cell? ⟨g, 2, none⟩ = some (.slice a2 l2.length c2) := HCC.out wr hb 2 _ rfl
          rw [len3_2] at HF ⊢
          rw [enc3_2] at HF
          have HF2 := HF
          clear hb HF
          go_wp2_with (at_builtin; refine append30 rfl (.tmp 31) (.tmp 32) rfl _ (l0.length + l1.length) _ rfl HF2.out a2 l2.length c2 _ rfl (H2.out.later HB.out) (encXs_oneCell _) (by unfold maxLen; omega) (by omega) ?_; intro v4 w4 g1 g2 g3; replace g1 := hide g1; replace g2 := hide g2; replace g3 := hide g3)
          have P2 := hide (HFr.out.moved g3.out HB.out.size)
          have P3 := hide (below_grown HB.out g2.out HB.out.size HFr.out)
          have P1 := hide g1.out
          clear g1 g2 g3
          go_wp2
          go_roundw
          case rel => exact ⟨3, by omega, by go_num, by rw [len3_3, enc3_3]; simpa using P1.out, P2.out, P3.out⟩
          case measure => simp [intOf]
        · rw [len3_3] at HF ⊢
          rw [enc3_3] at HF
          have HFF : Hid (Xs wr (.slice fa (l0.length + l1.length + l2.length) fc) (l0 ++ l1 ++ l2)) := by
            have h0 := HF.out
            show Rw _ _ _ _ _ _
            rw [encXs_append, encXs_append, List.length_append, List.length_append]
            exact h0
          clear hb HF
          go_wp2
          go_ret
          exact ⟨_, rfl, HFF.out, HFr.out, HB.out⟩

end Wi
end Go.Proofs.Ytjbgojccfkmlnaa
