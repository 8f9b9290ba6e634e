/- A part of the proofs about package wire: what its functions answer, call by call. -/
import Derived.Test.YtnpnghdjdelemaaLc
import Derived.Test.YtnpnghdjdelemaaWr
namespace Go.Proofs.Ytnpnghdjdelemaa
open Go.RowKit
namespace Wi

theorem rP_le (l : List Nat) (k n : Int) : (rP l k n).1 ≤ l.length := by
  have hint : ∀ m, (intR l m).2.1 ≤ l.length := fun m => by
    have hf := (few_facts l).2
    unfold intR
    split
    · simp
    · exact hf
  rcases kinds k with rfl | rfl | rfl | rfl | hk
  · rw [(r0 l n).2.2]
    unfold fixR
    split
    · split
      · simp
      · show n.toNat ≤ l.length; omega
    · simp
  · rw [(r1 l n).2.2]; exact (few_facts l).2
  · rw [(r4 l n).2.2]; exact hint n
  · rw [(r2 l n).2.2]
    have := hint n
    unfold txtR
    split
    · simp
    · split
      · simp
      · show (intR l n).2.1 + (intR l n).1 ≤ l.length; omega
  · rw [(rr hk l n).2.2]
    unfold rawR
    split
    · simp
    · split
      · simp
      · show n.toNat ≤ l.length; omega
set_option maxHeartbeats 8000000 in
set_option maxRecDepth 20000 in
theorem wireReads_walk (s : ByteArray) (a : Option Addr) (n cap : Nat) (xs : List OpV) (W : World) (hsz0 : s.size ≤ 9223372036854775807) (hO : Os W a n xs) :
    Calls Try.prog 4 #[.string s, .slice a n cap] W fun e w' => e = .returned (.bool true) ∧ Below W.heap.size W w' := by
  have hfew := fewf_any a n cap xs W hO
  have hn := hO.most
  by_cases h5 : 500 < s.size
  · go_enter Try.func4, Try.ntmps4
    go_wp2_with fail
    refine (awake_any _).mono ?_
    rintro e w5 ⟨rfl, hb5⟩
    go_wp2
    go_ret
    exact ⟨rfl, hb5⟩
  · cases hB : opsB xs with
    | false =>
      rw [hB] at hfew
      go_enter Try.func4, Try.ntmps4
      go_wp2_with fail
      refine hfew.mono ?_
      rintro e w' ⟨rfl, rfl⟩
      go_wp2_with fail
      refine (awake_any _).mono ?_
      rintro e w5 ⟨rfl, hb5⟩
      go_wp2
      go_ret
      exact ⟨rfl, hb5⟩
    | true =>
      rw [hB] at hfew
      clear hB
      go_enter Try.func4, Try.ntmps4
      go_wp2_with fail
      refine hfew.mono ?_
      rintro e w' ⟨rfl, rfl⟩
      clear hfew
      go_wp2_with fail
      refine (read_any s w').mono ?_
      rintro e w1 ⟨rfl, hi1, hb1⟩
      have HB1 := hide hb1
      clear hb1
      go_wp2
      go_loopw [6, 7, 8] (fun at_ ev i wr => ∃ (k A : Nat) (E : Int), k ≤ n ∧ i = .int .i64 k ∧ at_ = .int .i64 A ∧ ev = .int .i64 E ∧ A ≤ s.size ∧ Did w1 w'.heap.size s A E wr) (fun _ _ i _ => n - (intOf i).toNat)
      case atStart => exact ⟨0, 0, 0, Nat.zero_le _, rfl, rfl, rfl, Nat.zero_le _, Did.refl hi1⟩
      case round =>
        obtain ⟨k, A, E, hk, rfl, rfl, rfl, hA, hd⟩ := hrel
        have hlen := hO.len
        have HBr := hide (HB1.out.trans (hd.below (B := w'.heap.size) HB1.out.size (Nat.le_refl _)))
        by_cases hlt : k < n
        · obtain ⟨⟨ok, ox, os, on⟩, hs0⟩ : ∃ o, xs[k]? = some o := ⟨_, List.getElem?_eq_getElem (by omega)⟩
          obtain ⟨g, off, rfl, hbl, c0, c1, c2, c3⟩ := (hO.later HBr.out).cells k _ hs0
          obtain ⟨hkk, hxl, _, hnn⟩ := hO.fit _ (List.mem_of_getElem? hs0)
          simp only at c0 c1 c2 c3 hkk hxl hnn
          have hs := hide hs0
          clear hs0 hlen
          by_cases hE : E = 0
          · subst hE
            have hread := readf_ok ok ox os on hnn wr hd.inn hsz0 hA
            have hPl := rP_le ((bs s).drop A) ok on
            rw [List.length_drop, bs_length] at hPl
            have hask : ∀ w, _ := fun w => asked_any (s.extract A s.size) (Nat.le_trans (extract_size_le _ _ _) hsz0) ok ox os on hnn w
            rw [bs_extract, List.take_of_length_le (by rw [List.length_drop, bs_length]; omega)] at hask
            generalize rN ((bs s).drop A) ok on = N at *
            generalize str (rT ((bs s).drop A) ok on) = T at *
            generalize rP ((bs s).drop A) ok on = P at *
            go_wp2_with fail
            refine hread.mono ?_
            rintro e w2 ⟨rfl, hd2⟩
            have HD2 := hide (hd.trans hd2)
            have HBr2 := hide (HB1.out.trans (HD2.out.below (B := w'.heap.size) HB1.out.size (Nat.le_refl _)))
            obtain ⟨_, _, heq2, hbl2, d0, d1, d2, d3⟩ := (hO.later HBr2.out).cells k _ hs.out
            obtain ⟨rfl, rfl⟩ := addr_inj heq2
            clear heq2 hd2 hread c0 c1 c2 c3
            simp only at d0 d1 d2 d3
            have hne := later_ne w2
            have f0 : ∀ p : Later w2, p.val.cell? ⟨g, off + k * 4, none⟩ = some (.int .i64 ok) := fun p => (p.below.cell hbl2).trans d0
            have f1 : ∀ p : Later w2, p.val.cell? ⟨g, off + k * 4 + 1, none⟩ = some (.int .u64 (ox : Nat)) := fun p => (p.below.cell hbl2).trans d1
            have f2 : ∀ p : Later w2, p.val.cell? ⟨g, off + k * 4 + 2, none⟩ = some (.string os) := fun p => (p.below.cell hbl2).trans d2
            have f3 : ∀ p : Later w2, p.val.cell? ⟨g, off + k * 4 + 3, none⟩ = some (.int .i64 on) := fun p => (p.below.cell hbl2).trans d3
            have hA' : (A : Int) ≤ (s.size : Int) := by omega
            go_wp2
            refine wp_region_later (by kernel_rfl) (by kernel_rfl) ?_
            (repeat (first | go_big_quiet_skip | (go_big_quiet_want; go_big_quiet_op; go_big_quiet_on)))
            (go_big_quiet_want; go_big_quiet_op; apply Exists.intro; refine ⟨fun p => ?_, ?_⟩; (· exact later_of (hask _)); go_big_quiet_on)
            (repeat (first | go_big_quiet_skip | (go_big_quiet_want; go_big_quiet_op; go_big_quiet_on)))
            refine wpQuiet_nil ?_
            rintro _ ⟨p, rfl⟩
            have HD3 := hide (HD2.out.later p.below)
            have hat := at_any HD3.out.inn
            have hleft := left_any HD3.out.inn hsz0 (by omega)
            rw [show ((A + P.1 : Nat) : Int) = (A : Int) + (P.1 : Int) by omega] at hat hleft
            clear f0 f1 f2 f3 d0 d1 d2 d3 hask
            go_wp2_with fail
            refine hat.mono ?_
            rintro e w5 ⟨rfl, hw5⟩
            subst hw5
            go_wp2_with fail
            refine hleft.mono ?_
            rintro e w6 ⟨rfl, hb6⟩
            have HD6 := hide (HD3.out.later hb6)
            go_wp2_with fail
            refine (err_any HD6.out.inn).mono ?_
            rintro e w7 ⟨rfl, hw7⟩
            subst hw7
            go_wp2
            go_roundw
            case rel => exact ⟨k + 1, A + P.1, P.2, by omega, by go_num, by go_num, rfl, by omega, HD6.out⟩
            case measure => simp [intOf]; omega
          · have he2 : (E == 0) = false := by rw [beq_eq_false_iff_ne]; exact hE
            have hread := readf_no ok ox os on wr hd.inn he2
            go_wp2_with fail
            refine hread.mono ?_
            rintro e w2 ⟨rfl, hb2⟩
            have HD3 := hide (hd.later hb2)
            have hat := at_any HD3.out.inn
            have hleft := left_any HD3.out.inn hsz0 hA
            go_wp2_with fail
            refine hat.mono ?_
            rintro e w5 ⟨rfl, hw5⟩
            subst hw5
            go_wp2_with fail
            refine hleft.mono ?_
            rintro e w6 ⟨rfl, hb6⟩
            have HD6 := hide (HD3.out.later hb6)
            go_wp2_with fail
            refine (err_any HD6.out.inn).mono ?_
            rintro e w7 ⟨rfl, hw7⟩
            subst hw7
            go_wp2
            go_roundw
            case rel => exact ⟨k + 1, A, E, by omega, by go_num, rfl, rfl, hA, HD6.out⟩
            case measure => simp [intOf]; omega
        · clear hlen
          by_cases hE : E = 0
          · subst hE
            by_cases hA2 : A < s.size
            · have hdn := done_left hd.inn hsz0 hA2
              go_wp2_with fail
              refine hdn.mono ?_
              rintro e w5 ⟨rfl, hb5⟩
              have HB5 := hide (HBr.out.trans (hb5.mono HBr.out.size))
              go_wp2_with fail
              refine (awake_any _).mono ?_
              rintro e w6 ⟨rfl, hb6⟩
              go_wp2
              go_ret
              exact ⟨rfl, HB5.out.trans (hb6.mono HB5.out.size)⟩
            · obtain rfl : A = s.size := by omega
              have hdn := done_all hd.inn hsz0
              go_wp2_with fail
              refine hdn.mono ?_
              rintro e w5 ⟨rfl, hb5⟩
              have HB5 := hide (HBr.out.trans (hb5.mono HBr.out.size))
              go_wp2_with fail
              refine (awake_any _).mono ?_
              rintro e w6 ⟨rfl, hb6⟩
              go_wp2
              go_ret
              exact ⟨rfl, HB5.out.trans (hb6.mono HB5.out.size)⟩
          · have he2 : (E == 0) = false := by rw [beq_eq_false_iff_ne]; exact hE
            have hdn := done_no hd.inn he2
            go_wp2_with fail
            refine hdn.mono ?_
            rintro e w5 ⟨rfl, hb5⟩
            have HB5 := hide (HBr.out.trans (hb5.mono HBr.out.size))
            go_wp2_with fail
            refine (awake_any _).mono ?_
            rintro e w6 ⟨rfl, hb6⟩
            go_wp2
            go_ret
            exact ⟨rfl, HB5.out.trans (hb6.mono HB5.out.size)⟩

end Wi
end Go.Proofs.Ytnpnghdjdelemaa
