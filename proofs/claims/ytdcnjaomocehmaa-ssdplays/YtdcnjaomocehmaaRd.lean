/- The document's answer of stage 4: writing. -/
import Derived.Test.YtdcnjaomocehmaaRc
import Derived.Deep.RegionLawGrows
namespace Go.Proofs.Ytdcnjaomocehmaa
open Go.RowKit
namespace Wi

theorem encQ_snoc (l : List (Nat × List Nat)) (p : Nat × List Nat) : encQ (l ++ [p]) = encQ l ++ encP p := by simp [encQ]
/-- A pending write more, and the store of the slice. -/
theorem RawR.push {w w1 w2 : World} {b : Nat} {sv pv v2 : Value} {g st : Bool} {z : Int} {last : List (List Nat)} {pend : List (Nat × List Nat)} {p : Nat × List Nat} (h : RawR w b sv pv g st z last pend) (hb : Below w.heap.size w w1)
    (g1 : w2.ownsRow 0 74 2 v2 (pend.length + 1) (encQ pend ++ encP p)) (g2 : w1.grownBy w2 pv.ownBlock) (g3 : Moved w1 pv v2) :
    RawR (w2.setCell ⟨b, 1, none⟩ v2) b sv v2 g st z last (pend ++ [p]) ∧ Keep (xDev b sv pv) w (w2.setCell ⟨b, 1, none⟩ v2) ∧ Moved w pv v2 := by
  have hlt := Nat.lt_of_lt_of_le h.lt hb.size
  have k1 : Keep (fun k => pv.ownBlock = some k) w w2 := (Keep.of_below (X := fun k => pv.ownBlock = some k) hb).trans (Keep.grown (X := fun k => pv.ownBlock = some k) g2 fun _ e => e) fun _ _ e => e
  have hblk := (k1.block b h.lt h.np).trans h.blk
  have hsec := row_keep h.sec k1 fun i hi e => h.nn i hi e
  have hm : Moved w pv v2 := g3.imp id fun hf k hk => Nat.le_trans hb.size (hf k hk)
  have hne : v2.ownBlock ≠ some b := apart_moved h.np g3 hlt
  refine ⟨⟨setCell_blk hblk _, ownsRow_setCell_other hsec h.ns _, ?_, h.ns, hne, ?_⟩, ?_, hm⟩
  · rw [encQ_snoc, List.length_append]
    exact ownsRow_setCell_other g1 hne _
  · intro k hk
    exact apart_moved (h.nn k hk) hm (h.sec.lt k hk).2
  · refine Keep.trans (X := xDev b sv pv) ⟨k1.os, k1.tape, k1.output, k1.size, fun k hk hn => k1.block k hk fun e => hn (.inr (.inr e))⟩ (Keep.setCell (X := xDev b sv pv) w2 _ _ (.inl rfl)) fun _ _ e => e
structure Wr2 (w : World) (b : Nat) (sv pv : Value) (g st : Bool) (z : Int) (last : List (List Nat)) (pend : List (Nat × List Nat)) (wr : World) (pv' : Value) : Prop where
  raw : RawR wr b sv pv' g st z last pend
  keep : Keep (xDev b sv pv) w wr
  moved : Moved w pv pv'
theorem Wr2.next {w wr w3 : World} {b : Nat} {sv pv pv' v2 : Value} {g st : Bool} {z : Int} {last : List (List Nat)} {pend pend' : List (Nat × List Nat)} (h : Wr2 w b sv pv g st z last pend wr pv') (hp : RawR w3 b sv v2 g st z last pend' ∧ Keep (xDev b sv pv') wr w3 ∧ Moved wr pv' v2) : Wr2 w b sv pv g st z last pend' w3 v2 := by
  obtain ⟨h1, h2, h3⟩ := hp
  refine ⟨h1, h.keep.trans h2 fun i hi e => ?_, h.moved.trans h3 h.keep.size⟩
  rcases e with e | e | e
  · exact .inl e
  · exact .inr (.inl e)
  · rcases h.moved with hm | hm
    · exact .inr (.inr (hm ▸ e))
    · exact absurd (hm i e) (by omega)
theorem row_later {w w' : World} {e : TypeId} {size n : Nat} {v : Value} {xs : List Value} (h : w.ownsRow 0 e size v n xs) (hb : Below w.heap.size w w') : w'.ownsRow 0 e size v n xs := row_keep (X := fun _ => False) h (Keep.of_below hb) fun _ _ => id
theorem info74 : (Try.prog.info? 74).map (fun i => (i.zero, i.size, i.bytes)) = some (some (.agg #[.int .i64 0, .string { data := #[] }]), 2, 24) := by kernel_rfl
set_option maxHeartbeats 4000000 in
theorem rwrite_any {w : World} {b : Nat} {X : Nat → Prop} {d : Dv} (h : refT b d w X) (a : Int) (s : ByteArray) (ha : -9223372036854775808 ≤ a ∧ a ≤ 9223372036854775807) (hs : s.size ≤ 9223372036854775807) (hp : d.pend.length + s.size / 64 ≤ 1000000000) :
    Calls Try.prog 29 #[.pointer (some ⟨b, 0, none⟩), .int .i64 a, .string s] w fun e w' => e = .returned (.int .i64 (d.writeA a (bs s))) ∧ LeftT (refT b (d.write a (bs s))) w X w' := by
  obtain ⟨sv, pv, st, z, h, rfl⟩ := h
  have hm := h.ok.most
  cases hd : d.dead with
  | true =>
    have ht := rdead_yes h hd
    have e1 : d.writeA a (bs s) = 17 := by simp [Dv.writeA, hd]
    have e2 : d.write a (bs s) = d := by simp [Dv.write, hd]
    rw [e1, e2]
    clear e1 e2
    go_enter Try.func29, Try.ntmps29
    go_wp2_with fail
    refine ht.mono ?_
    rintro e w' ⟨rfl, rfl⟩
    go_wp2
    go_ret
    exact ⟨rfl, ref_same (Keep.refl _ _) h⟩
  | false =>
    have ht := rdead_no h hd
    have e1 : d.writeA a (bs s) = d.writeE a (bs s) := by simp [Dv.writeA, hd]
    have hno : d.writeE a (bs s) ≠ 0 → d.write a (bs s) = d.tick := fun h => by simp [Dv.write, hd, h]
    have hbl := bs_length s
    rw [e1]
    by_cases h1 : a < 0
    · have e3 : d.writeE a (bs s) = 1 := by simp [Dv.writeE, h1]
      rw [hno (by rw [e3]; omega), e3]
      clear e3 e1 hno
      go_enter Try.func29, Try.ntmps29
      go_wp2_with fail
      refine ht.mono ?_
      rintro e w' ⟨rfl, ⟨st', z', h'⟩, hk⟩
      go_wp2
      go_ret
      exact ⟨rfl, ref_same hk h'⟩
    · by_cases h2 : s.size % 64 = 0
      · obtain ⟨A, rfl⟩ := Int.eq_ofNat_of_zero_le (show 0 ≤ a by omega)
        obtain ⟨N, hN⟩ : ∃ N, s.size = 64 * N := ⟨s.size / 64, by omega⟩
        have hf : ∀ {w' : World} {st' z'}, RefAt w' b sv pv st' z' d.tick → _ := fun h' => rbeyond_any h'.raw hm (A : Int) (N : Int) (by omega) (by omega)
        by_cases h3 : A + N ≤ d.last.length
        · have e3 : d.writeE A (bs s) = 0 := by
            have : ¬ ((d.last.length : Int) - A < N) := by omega
            simp [Dv.writeE, hbl, hN, Dv.beyond]
            omega
          have e4 : d.write A (bs s) = { d.tick with pend := d.pend ++ puts A (bs s) N } := by
            simp [Dv.write, hd, e3, hbl, hN]
          rw [e3, e4]
          have hok : Dv.Ok { d.tick with pend := d.pend ++ puts A (bs s) N } := h.ok.add h3 (by rw [hbl, hN]) _
          clear e1 e3 e4 hno
          obtain ⟨i0, hi, hz0, hz1, hz2⟩ := info_parts info74
          have hq : (s.size : Int) / 64 = (N : Int) := by omega
          have hr : (s.size : Int) % 64 = 0 := by omega
          have HN := hide hN
          have hsz : s.size ≤ 64 * N := by omega
          have hsz2 : 64 * N ≤ s.size := by omega
          clear hN
          go_enter Try.func29, Try.ntmps29
          go_wp2_with fail
          refine ht.mono ?_
          rintro e w' ⟨rfl, ⟨st', z', h'⟩, hk⟩
          have hf := hf h'
          rw [decide_eq_false (by show ¬ ((d.last.length : Int) - A < N); omega)] at hf
          clear ht
          go_wp2_with fail
          refine hf.mono ?_
          rintro e w2 ⟨rfl, rfl⟩
          clear hf
          have HS : Hid (Wr2 w b sv pv d.gone st' z' d.last (d.pend ++ puts A (bs s) 0) w2 pv) := ⟨by rw [show puts A (bs s) 0 = [] from rfl, List.append_nil]; exact h'.raw, hk, Moved.refl _ _⟩
          have HH := hide h'.halt
          have HZ := hide h'.num
          clear h' hk hq hr
          go_wp2
          go_loopw [7] (fun i wr => ∃ (k : Nat) (pv' : Value), k ≤ N ∧ i = .int .i64 k ∧ Wr2 w b sv pv d.gone st' z' d.last (d.pend ++ puts A (bs s) k) wr pv') (fun i _ => N - (intOf i).toNat)
          case atStart => exact ⟨0, pv, Nat.zero_le _, rfl, HS.out⟩
          case round =>
            clear HS
            obtain ⟨k, pv', hk, rfl, hS⟩ := hrel
            by_cases hlt : k < N
            · obtain ⟨c0, c1, c2, c3, c4⟩ := hS.raw.c
              have f1 := hS.raw.fr 1
              have lB := hS.raw.lt
              have nB := hS.raw.np
              have hll : (d.pend ++ puts A (bs s) k).length ≤ 1000000000 := by rw [List.length_append, puts_length]; omega
              have HP : Hid (puts A (bs s) (k + 1) = puts A (bs s) k ++ [(A + k, ((bs s).drop (64 * k)).take 64)]) := puts_snoc k A (bs s)
              have HC : Hid (s.extract (64 * k) (64 * k + 64) = str (((bs s).drop (64 * k)).take 64)) := by
                show _ = _
                rw [cut_str, show 64 * k + 64 - 64 * k = 64 by omega]
              have w1 : IntKind.i64.wrap ((A : Int) + (k : Int)) = (A : Int) + (k : Int) := by simp [IntKind.wrap, IntKind.bits, IntKind.signed]; omega
              have w2 : IntKind.i64.wrap (64 * (k : Int)) = 64 * (k : Int) := by simp [IntKind.wrap, IntKind.bits, IntKind.signed]; omega
              have w3 : IntKind.i64.wrap (64 * (k : Int) + 64) = 64 * (k : Int) + 64 := by simp [IntKind.wrap, IntKind.bits, IntKind.signed]; omega
              have b1 : 0 ≤ 64 * (k : Int) + 64 := by omega
              have b2 : 64 * (k : Int) + 64 ≤ (s.size : Int) := by omega
              have b3 : 0 ≤ 64 * (k : Int) := by omega
              have b4 : 64 * (k : Int) ≤ 64 * (k : Int) + 64 := by omega
              have t1 : (64 * (k : Int)).toNat = 64 * k := by omega
              have t2 : (64 * (k : Int) + 64).toNat = 64 * k + 64 := by omega
              go_wp2
              go_region_law (refine step_append_moved rfl (.tmp 33) (.tmp 45) 60 rfl 74 i0 _ 2 24 Try.underlying60 hi hz0 hz1 hz2 rfl (by decide) _ _ _ (by simp [Act.eval]) (row_later hS.raw.chg (below_alloc _ _).drew) ⟨wr.heap.size, 0, none⟩ 1 1 [.int .i64 ((A : Int) + (k : Int)), .string (s.extract (64 * k) (64 * k + 64))] (by simp [Act.eval]) rfl (cells_new wr [_, _] 74) (by simp [Value.oneCell']) (by unfold maxLen; omega) (by omega) ?_; intro v2 w2 g1 g2 g3; obtain ⟨a2, n2, c2, rfl⟩ := own_form g1; have cB2 := cell_grown c1 lB nB g2; have fB2 := free_grown f1 lB nB g2; replace g1 := hide g1; replace g2 := hide g2; replace g3 := hide g3)
              all_goals
                have HR : Hid (RawR _ b sv _ d.gone st' z' d.last ((d.pend ++ puts A (bs s) k) ++ [(A + k, ((bs s).drop (64 * k)).take 64)]) ∧ _) := hS.raw.push (below_alloc _ _).drew (by
                  have g := g1.out
                  rw [HC.out] at g
                  exact g) g2.out g3.out
                have HW := hide (hS.next HR.out)
                rw [List.append_assoc, ← HP.out] at HW
                clear g1 g2 g3 HR hS
                go_wp2
                go_roundw
                case rel => exact ⟨k + 1, _, by omega, by go_num, HW.out⟩
                case measure => simp [intOf]; omega
            · obtain rfl : k = N := by omega
              have HF : Hid (LeftT (refT b { d.tick with pend := d.pend ++ puts A (bs s) k }) w (xDev b sv pv) wr) := by
                refine ⟨xDev b sv pv', ⟨sv, pv', st', z', ⟨hS.raw, hok, HH.out, HZ.out⟩, rfl⟩, hS.keep, fun i hi => ?_⟩
                rcases hi with e | e | e
                · exact .inl (.inl e)
                · exact .inl (.inr (.inl e))
                · rcases hS.moved with hm | hm
                  · exact .inl (.inr (.inr (hm ▸ e)))
                  · exact .inr (hm i e)
              clear hS
              go_wp2
              go_ret
              exact ⟨rfl, HF.out⟩
        · have e3 : d.writeE A (bs s) = 31 := by
            have : (d.last.length : Int) - A < N := by omega
            simp [Dv.writeE, hbl, hN, Dv.beyond]
            omega
          rw [hno (by rw [e3]; omega), e3]
          clear e3 e1 hno
          have hq : (s.size : Int) / 64 = (N : Int) := by omega
          have hr : (s.size : Int) % 64 = 0 := by omega
          have HN := hide hN
          clear hN
          go_enter Try.func29, Try.ntmps29
          go_wp2_with fail
          refine ht.mono ?_
          rintro e w' ⟨rfl, ⟨st', z', h'⟩, hk⟩
          have hf := hf h'
          rw [decide_eq_true (by show ((d.last.length : Int) - A < N); omega)] at hf
          go_wp2_with fail
          refine hf.mono ?_
          rintro e w2 ⟨rfl, rfl⟩
          go_wp2
          go_ret
          exact ⟨rfl, ref_same hk h'⟩
      · have e3 : d.writeE a (bs s) = 30 := by simp [Dv.writeE, h1, hbl, h2]
        rw [hno (by rw [e3]; omega), e3]
        have hr : ¬ (s.size : Int) % 64 = 0 := by omega
        clear e3 e1 hno
        go_enter Try.func29, Try.ntmps29
        go_wp2_with fail
        refine ht.mono ?_
        rintro e w' ⟨rfl, ⟨st', z', h'⟩, hk⟩
        go_wp2
        go_ret
        exact ⟨rfl, ref_same hk h'⟩

end Wi
end Go.Proofs.Ytdcnjaomocehmaa
