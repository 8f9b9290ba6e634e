/- A part of the proofs about package wire: what its functions answer, call by call. -/
import Derived.Test.YtnpnghdjdelemaaLb
import Derived.Test.YtnpnghdjdelemaaLc
namespace Go.Proofs.Ytnpnghdjdelemaa
open Go.RowKit
namespace Wi

theorem var_empty (p : Addr) (a : Option Addr) (cap : Nat) (w : World) : Calls Try.prog 28 #[.pointer (some p), .slice a 0 cap] w fun e w' => e = .returned (.tuple #[]) ∧ w' = w := by
  go_enter Try.func28, Try.ntmps28
  go_wp2
  go_loopw [11] (fun i wr => i = .int .i64 0 ∧ wr = w) (fun _ _ => 0)
  case atStart => exact ⟨rfl, rfl⟩
  case round =>
    obtain ⟨rfl, rfl⟩ := hrel
    go_wp2
    go_end0
    exact ⟨rfl, rfl⟩
theorem raw_empty (p : Addr) (a : Option Addr) (cap : Nat) (w : World) : Calls Try.prog 30 #[.pointer (some p), .slice a 0 cap] w fun e w' => e = .returned (.tuple #[]) ∧ w' = w := by
  go_enter Try.func30, Try.ntmps30
  go_wp2
  go_loopw [10] (fun i wr => i = .int .i64 0 ∧ wr = w) (fun _ _ => 0)
  case atStart => exact ⟨rfl, rfl⟩
  case round =>
    obtain ⟨rfl, rfl⟩ := hrel
    go_wp2
    go_end0
    exact ⟨rfl, rfl⟩
theorem text_empty (p : Addr) (a : Option Addr) (cap : Nat) (w : World) : Calls Try.prog 29 #[.pointer (some p), .slice a 0 cap] w fun e w' => e = .returned (.tuple #[]) ∧ w' = w := by
  go_enter Try.func29, Try.ntmps29
  go_wp2
  go_loopw [8] (fun i wr => i = .int .i64 0 ∧ wr = w) (fun _ _ => 0)
  case atStart => exact ⟨rfl, rfl⟩
  case round =>
    obtain ⟨rfl, rfl⟩ := hrel
    go_wp2
    go_end0
    exact ⟨rfl, rfl⟩
/-- An argument's slice lies apart from a writer of the call's own. -/
theorem off_arg {W : World} {g off b : Nat} {v : Value} (hg : g < W.heap.size) (hb : W.heap.size ≤ b) (hv : From W.heap.size v) : Off (some ⟨g, off, none⟩) b v := by
  intro ad e x
  simp only [Option.some.injEq] at e
  subst e
  rcases x with x | x
  · simp at x; omega
  · have := hv _ x; simp at this; omega
theorem var_all {W w : World} (b : Nat) (v : Value) (l : List Nat) (a : Option Addr) (n cap : Nat) (xs : List Nat) (hU : Us W a n xs) (hbel : Below W.heap.size W w) (h : OutAt w b v l) (hb : W.heap.size ≤ b) (hv : From W.heap.size v) (hl : l.length + 9 * n ≤ 900000000) :
    Calls Try.prog 28 #[.pointer (some ⟨b, 0, none⟩), .slice a n cap] w fun e w' => e = .returned (.tuple #[]) ∧ ∃ v', Wrote w b v (l ++ vrs xs) w' v' := by
  cases xs with
  | nil =>
    have hn := hU.len
    simp at hn
    subst hn
    refine (var_empty _ a cap w).mono ?_
    rintro e w' ⟨rfl, rfl⟩
    exact ⟨rfl, v, by rw [show vrs [] = [] from rfl, List.append_nil]; exact Wrote.refl h⟩
  | cons x r =>
    obtain ⟨g, off, rfl, hg, _⟩ := hU.cells 0 x rfl
    exact var_any b v l _ n cap _ w (hU.later hbel) h (off_arg hg hb hv) hl
theorem raw_all {W w : World} (b : Nat) (v : Value) (l : List Nat) (a : Option Addr) (n cap : Nat) (xs : List ByteArray) (hU : Ss W a n xs) (hbel : Below W.heap.size W w) (h : OutAt w b v l) (hb : W.heap.size ≤ b) (hv : From W.heap.size v) (hl : l.length + (jn xs).length ≤ 900000000) :
    Calls Try.prog 30 #[.pointer (some ⟨b, 0, none⟩), .slice a n cap] w fun e w' => e = .returned (.tuple #[]) ∧ ∃ v', Wrote w b v (l ++ jn xs) w' v' := by
  cases xs with
  | nil =>
    have hn := hU.len
    simp at hn
    subst hn
    refine (raw_empty _ a cap w).mono ?_
    rintro e w' ⟨rfl, rfl⟩
    exact ⟨rfl, v, by rw [show jn [] = [] from rfl, List.append_nil]; exact Wrote.refl h⟩
  | cons x r =>
    obtain ⟨g, off, rfl, hg, _⟩ := hU.cells 0 x rfl
    exact raw_any b v l _ n cap _ w (hU.later hbel) h (off_arg hg hb hv) hl
theorem text_all {W w : World} (b : Nat) (v : Value) (l : List Nat) (a : Option Addr) (n cap : Nat) (xs : List ByteArray) (hU : Ss W a n xs) (hbel : Below W.heap.size W w) (h : OutAt w b v l) (hb : W.heap.size ≤ b) (hv : From W.heap.size v) (hl : l.length + 9 * n + (jn xs).length ≤ 800000000) :
    Calls Try.prog 29 #[.pointer (some ⟨b, 0, none⟩), .slice a n cap] w fun e w' => e = .returned (.tuple #[]) ∧ ∃ v', Wrote w b v (l ++ txs xs) w' v' := by
  cases xs with
  | nil =>
    have hn := hU.len
    simp at hn
    subst hn
    refine (text_empty _ a cap w).mono ?_
    rintro e w' ⟨rfl, rfl⟩
    exact ⟨rfl, v, by rw [show txs [] = [] from rfl, List.append_nil]; exact Wrote.refl h⟩
  | cons x r =>
    obtain ⟨g, off, rfl, hg, _⟩ := hU.cells 0 x rfl
    exact text_any b v l _ n cap _ w (hU.later hbel) h (off_arg hg hb hv) hl
/-- Two writers of the call's own, one behind the other. -/
structure Two (W w : World) (v u : Value) (la lb : List Nat) : Prop where
  o1 : OutAt w W.heap.size v la
  o2 : OutAt w (W.heap.size + 1) u lb
  far : Far W.heap.size v (W.heap.size + 1) u
  bel : Below W.heap.size W w
  f1 : From W.heap.size v
  f2 : From W.heap.size u
theorem Two.snd {W w w2 : World} {v u u2 : Value} {la lb lc : List Nat} (h : Two W w v u la lb) (hw : Wrote w (W.heap.size + 1) u lc w2 u2) : Two W w2 v u2 la lc := by
  have hb := hw.below (B := W.heap.size) h.bel.size (by omega) h.f2
  exact ⟨h.o1.keep hw.keep h.far.symm, hw.out, (h.far.symm.move hw.moved h.o1).symm, h.bel.trans hb.1, h.f1, hb.2⟩
theorem Two.fst {W w w2 : World} {v u v2 : Value} {la lb lc : List Nat} (h : Two W w v u la lb) (hw : Wrote w W.heap.size v lc w2 v2) : Two W w2 v2 u lc lb := by
  have hb := hw.below (B := W.heap.size) h.bel.size (Nat.le_refl _) h.f1
  exact ⟨hw.out, h.o2.keep hw.keep h.far, h.far.move hw.moved h.o2, h.bel.trans hb.1, hb.2, h.f2⟩
theorem Two.later {W w w2 : World} {v u : Value} {la lb : List Nat} (h : Two W w v u la lb) (hb : Below w.heap.size w w2) : Two W w2 v u la lb :=
  ⟨h.o1.later hb, h.o2.later hb, h.far, h.bel.trans (hb.mono h.bel.size), h.f1, h.f2⟩
theorem Two.new (W : World) : Two W ((W.alloc (.cells #[.slice none 0 0] 27)).alloc (.cells #[.slice none 0 0] 27)) (.slice none 0 0) (.slice none 0 0) [] [] := by
  obtain ⟨o1, o2, hf, hb⟩ := two_new W
  exact ⟨o1, o2, hf, hb, From.nil _ _ _, From.nil _ _ _⟩
theorem vrs_len_succ {xs : List Nat} {k x : Nat} (h : xs[k]? = some x) : (vrs (xs.take k)).length + size x = (vrs (xs.take (k + 1))).length := by
  rw [vrs_snoc h, List.length_append, vr_length]
theorem txs_len_succ {xs : List ByteArray} {k : Nat} {s : ByteArray} (h : xs[k]? = some s) : (txs (xs.take k)).length + (jn (xs.take k)).length + size s.size + 2 * s.size = (txs (xs.take (k + 1))).length + (jn (xs.take (k + 1))).length := by
  rw [txs_snoc h, jn_take_succ h, List.length_append, List.length_append, tx, List.length_append, vr_length, bs_length]
  omega
set_option maxHeartbeats 8000000 in
set_option maxRecDepth 20000 in
theorem wireJoins_walk (a : Option Addr) (n cap : Nat) (xs : List Nat) (a2 : Option Addr) (n2 cap2 : Nat) (ys : List ByteArray) (W : World) (hU : Us W a n xs) (hS : Ss W a2 n2 ys) (hbulk : (jn ys).length ≤ 1048576) :
    Calls Try.prog 9 #[.slice a n cap, .slice a2 n2 cap2] W fun e w' => e = .returned (.bool true) ∧ Below W.heap.size W w' := by
  have hn := hU.most
  have hn2 := hS.most
  by_cases h30 : 30 < n
  · go_enter Try.func9, Try.ntmps9
    go_wp2_with fail
    refine (awake_any _).mono ?_
    rintro e w5 ⟨rfl, hb5⟩
    go_wp2
    go_ret
    exact ⟨rfl, hb5⟩
  · by_cases h31 : 30 < n2
    · go_enter Try.func9, Try.ntmps9
      go_wp2_with fail
      refine (awake_any _).mono ?_
      rintro e w5 ⟨rfl, hb5⟩
      go_wp2
      go_ret
      exact ⟨rfl, hb5⟩
    · have h0 := Two.new W
      have hvl := vrs_length xs
      have htl := txs_length ys
      have hlen := hU.len
      have hlen2 := hS.len
      have hvl2 : (vrs xs).length ≤ 270 := by omega
      have htl2 : (txs ys).length ≤ 1048846 := by omega
      have HL := hide hlen
      have HL2 := hide hlen2
      clear hvl htl hlen hlen2
      have hc1 := var_all W.heap.size _ [] a n cap xs hU h0.bel h0.o1 (Nat.le_refl _) h0.f1 (by simp; omega)
      rw [List.nil_append] at hc1
      go_enter Try.func9, Try.ntmps9
      go_wp2_with fail
      refine hc1.mono ?_
      rintro e w1 ⟨rfl, v1, hw1⟩
      have H1 := hide (h0.fst hw1)
      clear hc1 hw1 h0
      go_wp2
      go_loopw [7, 8] (fun m i wr => ∃ k : Nat, k ≤ n ∧ i = .int .i64 k ∧ m = .int .i64 ((vrs (xs.take k)).length : Nat) ∧ ∃ u, Two W wr v1 u (vrs xs) (vrs (xs.take k))) (fun _ i _ => n - (intOf i).toNat)
      case atStart => exact ⟨0, Nat.zero_le _, rfl, rfl, _, H1.out⟩
      case round =>
        obtain ⟨k, hk, rfl, rfl, u, h2⟩ := hrel
        have hkl : (vrs (xs.take k)).length ≤ 270 := by
          have h1 := vrs_length (xs.take k)
          have h3 : (xs.take k).length ≤ k := by rw [List.length_take]; omega
          omega
        by_cases hlt : k < n
        · obtain ⟨x, hx⟩ : ∃ x, xs[k]? = some x := ⟨_, List.getElem?_eq_getElem (by have := HL.out; omega)⟩
          obtain ⟨g, off, rfl, hbl, c0⟩ := (hU.later h2.bel).cells k x hx
          have hxl := hU.fit x (List.mem_of_getElem? hx)
          have HE := hide (vrs_len_succ hx)
          have HV := hide (vrs_snoc hx)
          have hs9 := (size_pos x).2
          have Hx := hide hx
          have hc := var_one (W.heap.size + 1) u (vrs (xs.take k)) x hxl _ h2.o2 (by omega)
          clear hx
          generalize vrs (xs.take k) = L at *
          go_wp2_with fail
          refine hc.mono ?_
          rintro e w2 ⟨rfl, u2, hw2⟩
          have H3 := hide (h2.snd hw2)
          obtain ⟨_, _, heq2, _, d0⟩ := (hU.later H3.out.bel).cells k x Hx.out
          obtain ⟨rfl, rfl⟩ := addr_inj heq2
          clear heq2 hw2 hc
          go_wp2_with fail
          refine (size_any x hxl _).mono ?_
          rintro e w3 ⟨rfl, hw3⟩
          subst hw3
          go_wp2
          go_roundw
          case rel => exact ⟨k + 1, by omega, by go_num, by rw [← HE.out]; go_num, u2, by rw [HV.out]; exact H3.out⟩
          case measure => simp [intOf]; omega
        · rw [List.take_of_length_le (by have := HL.out; omega)] at h2 ⊢
          have hc := text_all W.heap.size v1 (vrs xs) a2 n2 cap2 ys hS h2.bel h2.o1 (Nat.le_refl _) h2.f1 (by omega)
          clear hkl
          go_wp2_with fail
          refine hc.mono ?_
          rintro e w3 ⟨rfl, v3, hw3⟩
          have H3 := hide (h2.fst hw3)
          clear hc hw3
          have hc := raw_all W.heap.size v3 (vrs xs ++ txs ys) a2 n2 cap2 ys hS H3.out.bel H3.out.o1 (Nat.le_refl _) H3.out.f1 (by rw [List.length_append]; omega)
          go_wp2_with fail
          refine hc.mono ?_
          rintro e w4 ⟨rfl, v4, hw4⟩
          have H4 := hide (H3.out.fst hw4)
          clear hc hw4 H3 h2
          have HLa : Hid ((vrs xs ++ txs ys ++ jn ys).length = (vrs xs).length + (txs ys).length + (jn ys).length) := by
            show _ = _
            rw [List.length_append, List.length_append]
          go_wp2
          go_loopw [7, 9] (fun m i wr => ∃ k : Nat, k ≤ n2 ∧ i = .int .i64 k ∧ m = .int .i64 ((vrs xs).length + ((txs (ys.take k)).length + (jn (ys.take k)).length) : Nat) ∧ ∃ u, Two W wr v4 u (vrs xs ++ txs ys ++ jn ys) (vrs xs ++ txs (ys.take k))) (fun _ i _ => n2 - (intOf i).toNat)
          case atStart => exact ⟨0, Nat.zero_le _, rfl, by simp [txs, jn], _, by rw [List.take_zero, show txs [] = [] from rfl, List.append_nil]; exact H4.out⟩
          case round =>
            obtain ⟨k2, hk, rfl, rfl, u2, h2⟩ := hrel
            have hjl := jn_take_le (xs := ys) k2
            have htl3 : (txs (ys.take k2)).length ≤ 1048846 := by
              have h1 := txs_length (ys.take k2)
              have h3 : (ys.take k2).length ≤ k2 := by rw [List.length_take]; omega
              omega
            by_cases hlt : k2 < n2
            · obtain ⟨s, hs⟩ : ∃ s, ys[k2]? = some s := ⟨_, List.getElem?_eq_getElem (by have := HL2.out; omega)⟩
              obtain ⟨g, off, rfl, hbl, c0⟩ := (hS.later h2.bel).cells k2 s hs
              have hsz := hS.fit s (List.mem_of_getElem? hs)
              by_cases h200 : 200 < s.size
              · have HB2 := hide h2.bel
                clear hs
                go_wp2_with fail
                refine (awake_any _).mono ?_
                rintro e w5 ⟨rfl, hb5⟩
                go_wp2
                go_ret
                exact ⟨rfl, HB2.out.trans (hb5.mono HB2.out.size)⟩
              · have HE := hide (txs_len_succ hs)
                have HV : Hid (vrs xs ++ txs (ys.take (k2 + 1)) = vrs xs ++ txs (ys.take k2) ++ tx s) := by
                  show _ = _
                  rw [txs_snoc hs, List.append_assoc]
                have hs9 := (size_pos s.size).2
                have Hs := hide hs
                have hc := text_one (W.heap.size + 1) u2 (vrs xs ++ txs (ys.take k2)) s hsz _ h2.o2 (by rw [List.length_append]; omega)
                clear hs
                go_wp2_with fail
                refine hc.mono ?_
                rintro e w5 ⟨rfl, u5, hw5⟩
                have H5 := hide (h2.snd hw5)
                obtain ⟨_, _, heq2, hbl5, d0⟩ := (hS.later H5.out.bel).cells k2 s Hs.out
                obtain ⟨rfl, rfl⟩ := addr_inj heq2
                clear heq2 hw5 hc h2
                have hne := later_ne w5
                have ff : ∀ p : Later w5, p.val.cell? ⟨g, off + k2, none⟩ = some (.string s) := fun p => (p.below.cell hbl5).trans d0
                have hz1 : ∀ p : Later w5, _ := fun p => same_b (size_any s.size (by omega) p.val)
                generalize (txs (ys.take k2)).length = T1 at *
                generalize (jn (ys.take k2)).length = J1 at *
                go_wp2
                refine wp_region_later (by kernel_rfl) (by kernel_rfl) ?_
                (repeat (first | go_big_quiet_skip | (go_big_quiet_want; go_big_quiet_op; go_big_quiet_on)))
                (go_big_quiet_want; go_big_quiet_op; apply Exists.intro; refine ⟨fun p => ?_, ?_⟩; (· exact later_of (hz1 p)); go_big_quiet_on)
                (repeat (first | go_big_quiet_skip | (go_big_quiet_want; go_big_quiet_op; go_big_quiet_on)))
                refine wpQuiet_nil ?_
                rintro _ ⟨p, rfl⟩
                go_wp2
                go_roundw
                case rel => exact ⟨k2 + 1, by omega, by go_num, by rw [← HE.out]; go_num, u5, by rw [HV.out]; exact H5.out.later p.below⟩
                case measure => simp [intOf]; omega
            · rw [List.take_of_length_le (by have := HL2.out; omega)] at h2 ⊢
              clear htl3 hjl
              obtain ⟨M, hM⟩ : ∃ M, M = (vrs xs).length + ((txs ys).length + (jn ys).length) := ⟨_, rfl⟩
              rw [← hM]
              have HM := hide hM
              clear hM
              go_wp2
              go_loopw [10] (fun i wr => ∃ k : Nat, k ≤ n2 ∧ i = .int .i64 k ∧ ∃ u, Two W wr v4 u (vrs xs ++ txs ys ++ jn ys) (vrs xs ++ txs ys ++ jn (ys.take k))) (fun i _ => n2 - (intOf i).toNat)
              case atStart => exact ⟨0, Nat.zero_le _, rfl, _, by rw [List.take_zero, show jn [] = [] from rfl, List.append_nil]; exact h2⟩
              case round =>
                obtain ⟨k3, hk, rfl, u3, h3⟩ := hrel
                have hjl := jn_take_le (xs := ys) k3
                by_cases hlt : k3 < n2
                · obtain ⟨s, hs⟩ : ∃ s, ys[k3]? = some s := ⟨_, List.getElem?_eq_getElem (by have := HL2.out; omega)⟩
                  obtain ⟨g, off, rfl, hbl, c0⟩ := (hS.later h3.bel).cells k3 s hs
                  have hsz := hS.fit s (List.mem_of_getElem? hs)
                  have hjl2 := jn_take_le (xs := ys) (k3 + 1)
                  rw [jn_take_succ hs, List.length_append, bs_length] at hjl2
                  have HV : Hid (vrs xs ++ txs ys ++ jn (ys.take (k3 + 1)) = vrs xs ++ txs ys ++ jn (ys.take k3) ++ bs s) := by
                    show _ = _
                    rw [jn_take_succ hs, ← List.append_assoc]
                  have hc := raw_one (W.heap.size + 1) u3 (vrs xs ++ txs ys ++ jn (ys.take k3)) s hsz _ h3.o2 (by rw [List.length_append, List.length_append]; omega)
                  clear hs
                  go_wp2_with fail
                  refine hc.mono ?_
                  rintro e w5 ⟨rfl, u5, hw5⟩
                  have H5 := hide (h3.snd hw5)
                  clear hw5 hc
                  go_wp2
                  go_roundw
                  case rel => exact ⟨k3 + 1, by omega, by go_num, u5, by rw [HV.out]; exact H5.out⟩
                  case measure => simp [intOf]; omega
                · rw [List.take_of_length_le (by have := HL2.out; omega)] at h3
                  have hs1 := string_any _ _ _ _ h3.o1
                  have hs2 := string_any _ _ _ _ h3.o2
                  have HB3 := hide h3.bel
                  have hsl : (str (vrs xs ++ txs ys ++ jn ys)).size = M := by rw [str_size, HLa.out, HM.out]; omega
                  clear h2 h3 hjl
                  generalize str (vrs xs ++ txs ys ++ jn ys) = S at *
                  have hsl2 : (S.size : Int) = (M : Int) := by omega
                  clear hsl
                  go_wp2_with fail
                  refine hs1.mono ?_
                  rintro e w' ⟨rfl, rfl⟩
                  go_wp2_with fail
                  refine hs2.mono ?_
                  rintro e w' ⟨rfl, rfl⟩
                  go_wp2_with fail
                  refine hs1.mono ?_
                  rintro e w' ⟨rfl, rfl⟩
                  go_wp2_with fail
                  refine (awake_any _).mono ?_
                  rintro e w5 ⟨rfl, hb5⟩
                  go_wp2
                  go_ret
                  exact ⟨rfl, HB3.out.trans (hb5.mono HB3.out.size)⟩

end Wi
end Go.Proofs.Ytnpnghdjdelemaa
