/- Add, as the document has it. -/
import Derived.Test.YtgdfmoehbgmfkaaLr
import Derived.Test.YtgdfmoehbgmfkaaLb
namespace Go.Proofs.Ytgdfmoehbgmfkaa
open Go.RowKit
namespace Li
open Wi
theorem insR_putR : ∀ (rs : Rows) (x : Ro), getA rs x.1 = none → insR rs x = putA rs x.1 x.2
  | [], _, _ => rfl
  | p :: r, x, h => by
    rw [getA_cons] at h
    by_cases e : p.1 = x.1
    · rw [if_pos e] at h; cases h
    · rw [if_neg e] at h
      have ih := insR_putR r x h
      unfold insR at ih ⊢
      unfold putA
      by_cases hl : p.1 < x.1
      · rw [if_neg (by omega), if_neg (by omega)]
        simp only [List.takeWhile_cons, List.dropWhile_cons, decide_eq_true hl, if_true, List.cons_append, ih]
      · rw [if_pos (by omega)]
        simp only [List.takeWhile_cons, List.dropWhile_cons, decide_eq_false hl, Bool.false_eq_true, if_false, List.nil_append]
set_option maxHeartbeats 16000000 in
set_option maxRecDepth 100000 in
/-- Add, as the document has it. -/
theorem refAdd_any {w : World} {b0 : Nat} {a : Option Addr} {n cap : Nat} {rs : Rows} {a2 : Option Addr} {n2 cap2 : Nat} {xs : List Ro} (hO : w.ownsRow b0 35 3 (.slice a n cap) n (rcs rs)) (hL : n = rs.length) (hb0 : b0 ≤ w.heap.size) (hris : Ris rs) (hmay : ∀ x ∈ rs, mayRo x = true) (hE : Er w a2 n2 xs) (hn : n + n2 ≤ 1000000) :
    Calls Try.prog 30 #[.slice a n cap, .slice a2 n2 cap2] w fun e w' => Below w.heap.size w w' ∧ ∃ v, e = .returned (.tuple #[v, .int .i64 (addE rs xs)]) ∧ w'.ownsRow b0 35 3 v (addR rs xs).length (rcs (addR rs xs)) := by
  have HO := hide hO
  have HE := hide hE
  have HL := hide hL
  have HL2 := hide hE.len
  have HB0 := hide hb0
  have HRIS := hide hris
  have HMAY := hide hmay
  clear hO hE hL hb0 hris hmay
  go_enter Try.func30, Try.ntmps30
  go_wp2
  go_loopw [6] (fun i wr => ∃ k : Nat, k ≤ n2 ∧ i = .int .i64 k ∧ (∀ (j : Nat) (x : Ro), j < k → xs[j]? = some x → mayRo x = true) ∧ Below w.heap.size w wr) (fun i _ => n2 - (intOf i).toNat)
  case atStart => exact ⟨0, Nat.zero_le _, rfl, fun j o h => by omega, Below.refl _ _⟩
  case round =>
    obtain ⟨k, hk, rfl, hall, hb⟩ := hrel
    by_cases hlt : k < n2
    · obtain ⟨x, hx⟩ : ∃ x, xs[k]? = some x := ⟨_, List.getElem?_eq_getElem (by have := HL2.out; omega)⟩
      obtain ⟨g, off, rfl, hg, c0, c1, c2⟩ := (HE.out.later hb).cells k x hx
      have HB := hide hb
      have HX := hide hx
      have HA := hide hall
      obtain ⟨x1, x2, x3⟩ := x
      simp only at *
      have hm := fun w => refMay_any x1 x2 x3 w
      clear hx hall hb
      cases hmm : mayR x1 x2 x3 with
      | true =>
        rw [hmm] at hm
        have HM : Hid (mayRo (x1, x2, x3) = true) := hmm
        clear hmm
        go_wp2_with (go_at_call 27; refine (hm _).mono ?_; rintro e w4 ⟨rfl, hb4⟩)
        go_roundw
        case rel => exact ⟨k + 1, by omega, by go_num, fun j y hj hy => by
          by_cases e : j = k
          · subst e
            have := HX.out
            rw [hy] at this
            injection this with this
            rw [this]
            exact HM.out
          · exact HA.out j y (by omega) hy, HB.out.trans (hb4.mono HB.out.size)⟩
        case measure => simp [intOf]; omega
      | false =>
        rw [hmm] at hm
        have hall : xs.all mayRo = false := by
          cases hq : xs.all mayRo with
          | false => rfl
          | true => have := List.all_eq_true.1 hq _ (List.mem_of_getElem? HX.out); unfold mayRo at this; simp only at this; rw [hmm] at this; cases this
        have he : addE rs xs = 1 := by unfold addE; rw [hall]; rfl
        have hr : addR rs xs = rs := by unfold addR; rw [hall]; rfl
        have HAE := hide he
        have HAR := hide hr
        clear hmm hall he hr
        go_wp2_with (go_at_call 27; refine (hm _).mono ?_; rintro e w4 ⟨rfl, hb4⟩)
        go_ret2
        have HB4 := HB.out.trans (hb4.mono HB.out.size)
        refine ⟨HB4, _, by rw [HAE.out]; rfl, ?_⟩
        rw [HAR.out, ← HL.out]
        exact row_later HO.out HB4
    · obtain rfl : k = n2 := by omega
      have hall' : xs.all mayRo = true := List.all_eq_true.2 fun x hx => by
        obtain ⟨j, hj, rfl⟩ := List.mem_iff_getElem.1 hx
        exact hall j _ (by have := HL2.out; omega) (List.getElem?_eq_getElem hj)
      have he : addE rs xs = if (addF rs xs).isSome then 0 else 16 := by unfold addE; rw [hall']; rfl
      have hr : addR rs xs = (addF rs xs).getD rs := by unfold addR; rw [hall']; rfl
      have HAE := hide he
      have HAR := hide hr
      have HALL := hide hall'
      have HB := hide hb
      have HR0 := hide (row_later HO.out hb)
      clear he hr hall hb hall'
      go_wp2
      go_loopw [7, 8] (fun c i wr2 => ∃ (j : Nat) (m : Rows) (a3 : Option Addr) (cap3 : Nat), j ≤ k ∧ i = .int .i64 j ∧ addF rs (xs.take j) = some m ∧ Ris m ∧ (∀ x ∈ m, mayRo x = true) ∧ m.length ≤ n + j ∧ c = .slice a3 m.length cap3 ∧ wr2.ownsRow b0 35 3 c m.length (rcs m) ∧ Below w.heap.size w wr2) (fun _ i _ => k - (intOf i).toNat)
      case atStart => exact ⟨0, rs, a, cap, Nat.zero_le _, rfl, rfl, HRIS.out, HMAY.out, by have := HL.out; omega, by rw [← HL.out], by rw [← HL.out]; exact HR0.out, HB.out⟩
      case round =>
        obtain ⟨j, m, a3, cap3, hj, rfl, hF, hmr, hmm, hml, rfl, hrow, hb⟩ := hrel
        have HF := hide hF
        have HMR := hide hmr
        have HMM := hide hmm
        have HROW := hide hrow
        have HB2 := hide hb
        by_cases hlt2 : j < k
        · obtain ⟨x, hx⟩ : ∃ x, xs[j]? = some x := ⟨_, List.getElem?_eq_getElem (by have := HL2.out; omega)⟩
          obtain ⟨g, off, rfl, hg, c0, c1, c2⟩ := (HE.out.later hb).cells j x hx
          have hrng : ∀ x ∈ m, I64 x.1 ∧ I64 x.2.1 ∧ I64 x.2.2 := fun x hx => may_rng (hmm x hx)
          have HRNG := hide hrng
          have hf := find_any (q := x.1) (cap := cap3) (er_own35 hrow rfl hrng) (by omega)
          have HT := hide (addF_take hF hx)
          have HX := hide hx
          have HMX := hide (List.all_eq_true.1 HALL.out x (List.mem_of_getElem? hx))
          obtain ⟨x1, x2, x3⟩ := x
          simp only at *
          clear hF hmr hmm hrow hb hx hrng
          go_wp2_with fail
          refine hf.mono ?_
          rintro e w4 ⟨hb4, ⟨rfl, hno⟩ | ⟨i, y, hy, hyq, rfl⟩⟩
          · have hgn : getA m x1 = none := getA_none.2 fun p hp => by
              obtain ⟨t, ht, rfl⟩ := List.mem_iff_getElem.1 hp
              exact hno t _ (List.getElem?_eq_getElem ht)
            have hw := with_any x1 x2 x3 (row_later HROW.out hb4) rfl HRNG.out (by omega)
            have HB4 := hide (HB2.out.trans (hb4.mono HB2.out.size))
            have d0 := (hb4.cell (p := ⟨g, off + j * 3, none⟩) hg).trans c0
            have d1 := (hb4.cell (p := ⟨g, off + j * 3 + 1, none⟩) hg).trans c1
            have d2 := (hb4.cell (p := ⟨g, off + j * 3 + 2, none⟩) hg).trans c2
            have HIN : Hid (insR m (x1, x2, x3) = putA m x1 (x2, x3)) := insR_putR m (x1, x2, x3) hgn
            have HLEN : Hid ((putA m x1 (x2, x3)).length = m.length + 1) := by show _ = _; rw [putA_length m HMR.out, hgn]; rfl
            have HF2 : Hid (addF rs (xs.take (j + 1)) = some (putA m x1 (x2, x3))) := by show _ = _; rw [HT.out, hgn]; rfl
            clear hf hno hgn hb4 c0 c1 c2
            go_wp2_with (go_at_call 43; refine hw.mono ?_; rintro e w5 ⟨hb5, v5, rfl, hrow5⟩)
            have HB5 := hide (HB4.out.trans (hb5.mono HB4.out.size))
            obtain ⟨a5, cap5, rfl⟩ := row_slice (own_base hrow5 (Nat.zero_le _))
            rw [HIN.out] at hrow5
            go_roundw
            case rel =>
              refine ⟨j + 1, putA m x1 (x2, x3), a5, cap5, by omega, by go_num, HF2.out, HMR.out.put _ _, ?_, by rw [HLEN.out]; omega, by rw [HLEN.out], by rw [HLEN.out]; exact own_base hrow5 (Nat.le_trans HB0.out HB4.out.size), HB5.out⟩
              intro z hz
              rcases putA_val m x1 (x2, x3) z hz with ⟨h1, h2⟩ | h1
              · have : z = (x1, x2, x3) := Prod.ext h1 h2
                rw [this]; exact HMX.out
              · exact HMM.out z h1
            case measure => simp [intOf]; omega
          · have hgs : (getA m x1).isSome = true := by
              have hm := getA_of_mem HMR.out (k := y.1) (v := y.2) (List.mem_of_getElem? hy)
              rw [hyq] at hm
              rw [hm]; rfl
            have hFn : addF rs xs = none := addF_none (k := j + 1) (by rw [HT.out, if_pos hgs])
            have HFN := hide hFn
            have HB4 := hide (HB2.out.trans (hb4.mono HB2.out.size))
            have hge : (0 : Int) ≤ (i : Int) := by omega
            clear hf hgs hFn hb4 hy hyq
            go_wp2
            go_ret2
            refine ⟨HB4.out, _, by rw [HAE.out, HFN.out]; rfl, ?_⟩
            rw [HAR.out, HFN.out, show (Option.getD (none : Option Rows) rs) = rs from rfl, ← HL.out]
            exact row_later HO.out HB4.out
        · obtain rfl : j = k := by omega
          have htk : xs.take j = xs := List.take_of_length_le (by have := HL2.out; omega)
          rw [htk] at hF
          have HFS := hide hF
          clear hF hmr hmm hrow hb htk
          go_wp2
          go_ret2
          exact ⟨HB2.out, _, by rw [HAE.out, HFS.out]; rfl, by rw [HAR.out, HFS.out]; exact HROW.out⟩
end Li
end Go.Proofs.Ytgdfmoehbgmfkaa
