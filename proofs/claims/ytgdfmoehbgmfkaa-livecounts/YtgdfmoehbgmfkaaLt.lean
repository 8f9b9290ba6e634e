/- How many sectors of each object extents have: the law, walked. -/
import Derived.Test.YtgdfmoehbgmfkaaLr
import Derived.Test.YtgdfmoehbgmfkaaLs
import Derived.Test.YtgdfmoehbgmfkaaLg
namespace Go.Proofs.Ytgdfmoehbgmfkaa
open Go.RowKit
namespace Li
open Wi
set_option maxHeartbeats 8000000 in
set_option maxRecDepth 100000 in
theorem liveCounts_walk (a : Option Addr) (n cap : Nat) (xs : List Ix) (w : World) (hE : Ex w a n xs) (_hc : n ≤ cap) : Calls Try.prog 4 #[.slice a n cap] w fun e w' => e = .returned (.bool true) ∧ Below w.heap.size w w' := by
  have ha := awake_any
  by_cases h40 : 40 < n
  · have h40' : (40 : Int) < (n : Int) := by omega
    clear hE
    go_enter Try.func4, Try.ntmps4
    go_wp2_with (go_at_call 13; refine (ha _).mono ?_; rintro e w1 ⟨rfl, hb1⟩)
    go_ret
    exact ⟨rfl, hb1⟩
  · have h40' : ¬ (40 : Int) < (n : Int) := by omega
    have h1 := all_any (cap := cap) hE
    have HE := hide hE
    have HL := hide hE.len
    clear hE
    cases hall : xs.all Ix.may with
    | false =>
      rw [hall] at h1
      have HALL := hide hall
      clear hall
      go_enter Try.func4, Try.ntmps4
      go_wp2_with fail
      refine h1.mono ?_
      rintro e w1 ⟨rfl, hb1⟩
      have h2 := count_any (cap := cap) (HE.out.later hb1) (by omega)
      have HB1 := hide hb1
      clear h1 hb1
      go_wp2_with fail
      refine h2.mono ?_
      rintro e w2 ⟨hb2, ⟨_, rfl⟩ | ⟨hf, _⟩⟩
      · have HB2 := hide (HB1.out.trans (hb2.mono HB1.out.size))
        clear h2 hb2
        go_wp2_with (go_at_call 13; refine (ha _).mono ?_; rintro e w3 ⟨rfl, hb3⟩)
        go_ret
        exact ⟨rfl, HB2.out.trans (hb3.mono HB2.out.size)⟩
      · rw [HALL.out] at hf
        cases hf
    | true =>
      rw [hall] at h1
      have HALL := hide hall
      clear hall
      go_enter Try.func4, Try.ntmps4
      go_wp2_with fail
      refine h1.mono ?_
      rintro e w1 ⟨rfl, hb1⟩
      have h2 := count_any (cap := cap) (HE.out.later hb1) (by omega)
      have HB1 := hide hb1
      clear h1 hb1
      go_wp2_with fail
      refine h2.mono ?_
      rintro e w2 ⟨hb2, ⟨hf, _⟩ | ⟨_, v2, rfl, hrow2⟩⟩
      · rw [HALL.out] at hf
        cases hf
      · have HB2 := hide (HB1.out.trans (hb2.mono HB1.out.size))
        have h3 := refCount_any (cap := cap) (HE.out.later HB2.out) (by omega) HALL.out
        obtain ⟨a2, cap2, rfl⟩ := row_slice (own_base hrow2 (Nat.zero_le _))
        have HROW2 := hide hrow2
        clear h2 hb2 hrow2
        go_wp2_with fail
        refine h3.mono ?_
        rintro e w3 ⟨hb3, v3, rfl, hrow3⟩
        obtain ⟨a3, cap3, rfl⟩ := row_slice (own_base hrow3 (Nat.zero_le _))
        have HB3 := hide (HB2.out.trans (hb3.mono HB2.out.size))
        have hbd := cntM_bnd xs.length xs (Nat.le_refl _) (fun j x _ hx => List.all_eq_true.1 HALL.out x (List.mem_of_getElem? hx))
        rw [List.take_length] at hbd
        have hlm : (cntM xs).length ≤ 40 := Nat.le_trans (cntM_len xs) (by have := HL.out; omega)
        have hrng := cntR_rng hbd (by have := HL.out; omega)
        have h4 := same_any (cap := cap2) (cap2 := cap3) ((er_own HROW2.out (cntR_len _).symm hrng).later hb3) (er_own35 hrow3 (cntR_len _).symm hrng) (by omega)
        clear h3 hb3 hrow3 hbd hrng
        go_wp2_with (first
          | (go_at_call 16; refine h4.mono ?_; rintro e w4 ⟨rfl, hb4⟩)
          | (go_at_call 13; refine (ha _).mono ?_; rintro e w5 ⟨rfl, hb5⟩))
        go_ret
        have HB4 := HB3.out.trans (hb4.mono HB3.out.size)
        exact ⟨rfl, HB4.trans (hb5.mono HB4.size)⟩
end Li
end Go.Proofs.Ytgdfmoehbgmfkaa
