/- The document's answer of stage 4: reading, barriers, crashes. -/
import Derived.Test.YtdcnjaomocehmaaRa
namespace Go.Proofs.Ytdcnjaomocehmaa
open Go.RowKit
namespace Wi

theorem rread_any {w : World} {b : Nat} {X : Nat → Prop} {d : Dv} (h : refT b d w X) (hp : d.pend.length ≤ 1000000000) (a n : Int) (ha : -9223372036854775808 ≤ a ∧ a ≤ 9223372036854775807) (hn : -9223372036854775808 ≤ n ∧ n ≤ 9223372036854775807) :
    Calls Try.prog 27 #[.pointer (some ⟨b, 0, none⟩), .int .i64 a, .int .i64 n] w fun e w' => e = .returned (.tuple #[.string (str (d.readS a n)), .int .i64 (d.readE a n)]) ∧ w' = w := by
  obtain ⟨sv, pv, st, z, h, rfl⟩ := h
  obtain ⟨c0, c1, c2, c3, c4⟩ := h.raw.c
  cases hg : d.gone with
  | true =>
    have e1 : d.readE a n = 17 := by simp [Dv.readE, hg]
    have e2 : d.readS a n = [] := by simp [Dv.readS, e1]
    rw [hg] at c2
    rw [e1, e2]
    go_enter Try.func27, Try.ntmps27
    go_wp2
    go_ret2
    exact ⟨rfl, rfl⟩
  | false =>
    rw [hg] at c2
    by_cases h1 : a < 0 ∨ n < 0
    · have e1 : d.readE a n = 1 := by simp [Dv.readE, hg, h1]
      have e2 : d.readS a n = [] := by simp [Dv.readS, e1]
      rw [e1, e2]
      go_enter Try.func27, Try.ntmps27
      go_wp2
      all_goals
        go_ret2
        exact ⟨rfl, rfl⟩
    · obtain ⟨A, rfl⟩ := Int.eq_ofNat_of_zero_le (show 0 ≤ a by omega)
      obtain ⟨N, rfl⟩ := Int.eq_ofNat_of_zero_le (show 0 ≤ n by omega)
      have hm := h.ok.most
      have hf := rbeyond_any h.raw hm (A : Int) (N : Int) (by omega) (by omega)
      by_cases h2 : A + N ≤ d.last.length
      · have e1 : d.readE A N = 0 := by
          have : ¬ ((d.last.length : Int) - A < N) := by omega
          simp [Dv.readE, hg, Dv.beyond, this]
        have e2 : d.readS A N = d.secs A N := by simp [Dv.readS, e1]
        rw [e1, e2]
        rw [decide_eq_false (by omega)] at hf
        have hsec : ∀ k, k < N → Calls Try.prog 40 #[.pointer (some ⟨b, 0, none⟩), .int .i64 ((A + k : Nat) : Int)] w fun e w' => e = .returned (.string (str (d.at (A + k)))) ∧ w' = w := fun k hk => rsector_any h.raw hm hp (by omega)
        have HSE := hide hsec
        clear hsec e1 e2
        go_enter Try.func27, Try.ntmps27
        go_wp2_with fail
        refine hf.mono ?_
        rintro e w' ⟨rfl, rfl⟩
        clear hf
        go_wp2
        go_loop [8, 9] (fun s i => ∃ k : Nat, k ≤ N ∧ i = .int .i64 k ∧ s = .string (str (d.secs A k))) (fun _ i => N - (intOf i).toNat)
        case atStart => exact ⟨0, Nat.zero_le _, rfl, rfl⟩
        case round =>
          obtain ⟨k, hk, rfl, rfl⟩ := hrel
          by_cases hlt : k < N
          · have hc := HSE.out k hlt
            have HT := hide (d.secs_succ A k)
            rw [Int.natCast_add] at hc
            generalize hS1 : str (d.secs A k) = S1 at *
            generalize hS2 : str (d.at (A + k)) = S2 at *
            have E1 := hide hS1
            have E2 := hide hS2
            have hz : S1.size + S2.size ≤ 10000000 := by
              rw [← hS1, ← hS2, str_size, str_size, Dv.secs_length h.ok A k (by omega), h.ok.at (by omega)]
              omega
            clear hS1 hS2
            go_wp2_with fail
            refine hc.mono ?_
            rintro e w2 ⟨rfl, rfl⟩
            clear hc
            go_wp2
            go_round
            case rel => exact ⟨k + 1, by omega, by go_num, by rw [HT.out, str_append, E1.out, E2.out]⟩
            case measure => simp [intOf]; omega
          · obtain rfl : k = N := by omega
            go_wp2
            go_ret2
            exact ⟨rfl, rfl⟩
      · have e1 : d.readE A N = 31 := by
          have : (d.last.length : Int) - A < N := by omega
          simp [Dv.readE, hg, Dv.beyond, this]
        have e2 : d.readS A N = [] := by simp [Dv.readS, e1]
        rw [e1, e2]
        rw [decide_eq_true (by omega)] at hf
        clear e1 e2
        go_enter Try.func27, Try.ntmps27
        go_wp2_with fail
        refine hf.mono ?_
        rintro e w' ⟨rfl, rfl⟩
        go_wp2
        go_ret2
        exact ⟨rfl, rfl⟩
/-- Behind k writes that came to last. -/
structure Sr (w : World) (b : Nat) (sv pv : Value) (g st : Bool) (z : Int) (last : List (List Nat)) (pend : List (Nat × List Nat)) (wr : World) : Prop where
  raw : RawR wr b sv pv g st z last pend
  keep : Keep (xDev b sv pv) w wr
theorem Sr.set {w wr : World} {b : Nat} {sv pv : Value} {g st : Bool} {z : Int} {last : List (List Nat)} {pend : List (Nat × List Nat)} (h : Sr w b sv pv g st z last pend wr) {w2 : World} (hb : Below wr.heap.size wr w2) {gs cap : Nat} (hv : sv = .slice (some ⟨gs, 0, none⟩) last.length cap) {i : Nat} (hi : i < last.length) (s : List Nat) :
    Sr w b sv pv g st z (last.set i s) pend (w2.setCell ⟨gs, i, none⟩ (.string (str s))) :=
  ⟨(h.raw.later hb).setSector hv hi s, (h.keep.trans (Keep.of_below (X := xDev b sv pv) hb) fun _ _ e => e).trans (Keep.setCell (X := xDev b sv pv) w2 _ _ (.inr (.inl (by rw [hv]; rfl)))) fun _ _ e => e⟩
theorem sr_none {w wr : World} {b : Nat} {sv pv : Value} {g st : Bool} {z : Int} {last : List (List Nat)} {pend : List (Nat × List Nat)} (h : Sr w b sv pv g st z last pend wr) {d' : Dv} (e1 : d'.gone = g) (e2 : d'.last = last) (e3 : d'.pend = []) (hok : d'.Ok) (hh : Halts st z d'.stop) (hz : Num z) : LeftT (refT b d') w (xDev b sv pv) (wr.setCell ⟨b, 1, none⟩ (.slice none 0 0)) := by
  refine ⟨xDev b sv (.slice none 0 0), ⟨sv, .slice none 0 0, st, z, ⟨?_, hok, hh, hz⟩, rfl⟩, h.keep.trans (Keep.setCell (X := xDev b sv pv) wr _ _ (.inl rfl)) fun _ _ e => e, fun k hx => .inl ?_⟩
  · rw [e1, e2, e3]
    exact h.raw.setNone
  · rcases hx with hx | hx | hx
    · exact .inl hx
    · exact .inr (.inl hx)
    · simp [Value.ownBlock] at hx
set_option maxHeartbeats 2000000 in
theorem rbarrier_any {w : World} {b : Nat} {X : Nat → Prop} {d : Dv} (h : refT b d w X) (hp : d.pend.length ≤ 1000000000) : Calls Try.prog 30 #[.pointer (some ⟨b, 0, none⟩)] w fun e w' => e = .returned (.int .i64 d.barrierA) ∧ LeftT (refT b d.barrier) w X w' := by
  obtain ⟨sv, pv, st, z, h, rfl⟩ := h
  cases hd : d.dead with
  | true =>
    have ht := rdead_yes h hd
    have e1 : d.barrierA = 17 := by simp [Dv.barrierA, hd]
    have e2 : d.barrier = d := by simp [Dv.barrier, hd]
    rw [e1, e2]
    clear e1 e2
    go_enter Try.func30, Try.ntmps30
    go_wp2_with fail
    refine ht.mono ?_
    rintro e w' ⟨rfl, rfl⟩
    go_wp2
    go_ret
    exact ⟨rfl, ref_same (Keep.refl _ _) h⟩
  | false =>
    have ht := rdead_no h hd
    have e1 : d.barrierA = 0 := by simp [Dv.barrierA, hd]
    have e2 : d.barrier = { d.tick with last := d.now, pend := [] } := by simp [Dv.barrier, hd]
    have hok := h.ok.barrier
    rw [e1, e2]
    rw [e2] at hok
    have hm := h.ok.most
    have HO := hide h.ok
    clear e1 e2
    go_enter Try.func30, Try.ntmps30
    go_wp2_with fail
    refine ht.mono ?_
    rintro e w' ⟨rfl, ⟨st', z', h'⟩, hk⟩
    clear ht
    have HS : Sr w b sv pv d.gone st' z' (settle d.last (d.pend.take 0)) d.pend w' := ⟨h'.raw, hk⟩
    have HH := hide h'.halt
    have HN := hide h'.num
    have HS := hide HS
    clear h' hk h
    go_wp2
    go_loopw [3] (fun i wr => ∃ k : Nat, k ≤ d.pend.length ∧ i = .int .i64 k ∧ Sr w b sv pv d.gone st' z' (settle d.last (d.pend.take k)) d.pend wr) (fun i _ => d.pend.length - (intOf i).toNat)
    case atStart => exact ⟨0, Nat.zero_le _, rfl, HS.out⟩
    case round =>
      clear HS
      obtain ⟨k, hk, rfl, hS⟩ := hrel
      obtain ⟨c0, c1, c2, c3, c4⟩ := hS.raw.c
      obtain ⟨av, pc, hpv⟩ := row_slice hS.raw.chg
      by_cases hlt : k < d.pend.length
      · obtain ⟨p, hp0⟩ : ∃ p, d.pend[k]? = some p := ⟨_, List.getElem?_eq_getElem hlt⟩
        have hpk := HO.out.pend p (List.mem_of_getElem? hp0)
        obtain ⟨gp, pc', hpv', _⟩ := row_form hS.raw.chg (by omega)
        obtain ⟨q0, q1⟩ := hS.raw.put hpv' hp0
        obtain ⟨gs, cap, hsv, _⟩ := row_form hS.raw.sec (by rw [settle_length]; omega)
        have hcl : p.1 < (settle d.last (d.pend.take k)).length := by rw [settle_length]; exact hpk.1
        obtain ⟨s0, hs0⟩ : ∃ s0, (settle d.last (d.pend.take k))[p.1]? = some s0 := ⟨_, List.getElem?_eq_getElem hcl⟩
        have hcells := fun w2 (hb : Below wr.heap.size wr w2) => (hS.raw.later hb).sector hsv hs0
        have HC := hide hcells
        have HX : Hid (∀ w2, Below wr.heap.size wr w2 → Sr w b sv pv d.gone st' z' (settle d.last (d.pend.take (k + 1))) d.pend (w2.setCell ⟨gs, p.1, none⟩ (.string (str p.2)))) := by
          intro w2 hb
          have := hS.set hb hsv hcl p.2
          rw [snoc_take _ _ _ hp0, settle_snoc]
          exact this
        have l0 := hS.raw.xlt b (.inl rfl)
        have l1 := hS.raw.xlt gp (.inr (.inr (by rw [hpv']; rfl)))
        rw [hsv, settle_length] at c0
        rw [hpv'] at c1
        have c0' : ∀ p : Later wr, p.val.cell? ⟨b, 0, none⟩ = some (.slice (some ⟨gs, 0, none⟩) d.last.length cap) := fun p => (p.below.cell l0).trans c0
        have c1' : ∀ p : Later wr, p.val.cell? ⟨b, 1, none⟩ = some (.slice (some ⟨gp, 0, none⟩) d.pend.length pc') := fun p => (p.below.cell l0).trans c1
        have q0' : ∀ p' : Later wr, p'.val.cell? ⟨gp, k * 2, none⟩ = some (.int .i64 (p.1 : Nat)) := fun p' => (p'.below.cell l1).trans q0
        have q1' : ∀ p' : Later wr, p'.val.cell? ⟨gp, k * 2 + 1, none⟩ = some (.string (str p.2)) := fun p' => (p'.below.cell l1).trans q1
        have hp1 : (p.1 : Int) < d.last.length := by omega
        have hp1' : p.1 < d.last.length := hpk.1
        have hne := later_ne wr
        clear hp0 hpk hS hcells hpv hpv' hsv hcl hs0
        obtain ⟨P1, P2⟩ := p
        simp only at *
        generalize str P2 = S2 at *
        go_wp2
        clear c0 q0 q1
        refine wp_region_later_tail 21 (by kernel_rfl) (by kernel_rfl) ?_
        simp only [List.take, List.drop]
        (repeat (first | go_big_quiet_skip | (go_big_quiet_want; go_big_quiet_op; go_big_quiet_on)))
        refine wpQuiet_nil ?_
        rintro _ ⟨y, rfl⟩
        obtain ⟨v1, v2⟩ := HC.out _ y.below
        have HX2 := hide (HX.out _ y.below)
        clear HX HC
        go_wp2
        go_roundw
        case rel => exact ⟨k + 1, by omega, by go_num, HX2.out⟩
        case measure => simp [intOf]; omega
      · obtain rfl : k = d.pend.length := by omega
        have f1 := hS.raw.fr 1
        have HF : Hid (LeftT (refT b { d.tick with last := d.now, pend := [] }) w (xDev b sv pv) (wr.setCell ⟨b, 1, none⟩ (.slice none 0 0))) := by
          rw [List.take_length] at hS
          exact sr_none hS rfl rfl rfl hok HH.out HN.out
        clear hS
        subst hpv
        go_wp2
        go_ret
        exact ⟨rfl, HF.out⟩

end Wi
end Go.Proofs.Ytdcnjaomocehmaa
