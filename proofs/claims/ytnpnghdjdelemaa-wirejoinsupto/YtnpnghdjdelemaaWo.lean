/- A part of the proofs about package wire: what its functions answer, call by call. -/
import Derived.Test.YtnpnghdjdelemaaWn
import Derived.Test.YtnpnghdjdelemaaWg
namespace Go.Proofs.Ytnpnghdjdelemaa
open Go.RowKit
namespace Wi

theorem rraw_nil (n : Int) (w : World) : Calls Try.prog 27 #[.pointer none, .int .i64 n] w fun e w' => e = .returned (.string ⟨#[]⟩) ∧ w' = w := by
  have hr := ready_nil w
  go_enter Try.func27, Try.ntmps27
  go_wp2_with fail
  refine hr.mono ?_
  rintro e w' ⟨rfl, rfl⟩
  go_wp2
  go_ret
  exact ⟨rfl, rfl⟩
theorem rraw_no (n : Int) {b at_ : Nat} {s : ByteArray} {w : World} {e : Int} (h : InAt w b s at_ e) (he : (e == 0) = false) : Calls Try.prog 27 #[.pointer (some ⟨b, 0, none⟩), .int .i64 n] w fun e w' => e = .returned (.string ⟨#[]⟩) ∧ w' = w := by
  have hr := ready_no h he
  go_enter Try.func27, Try.ntmps27
  go_wp2_with fail
  refine hr.mono ?_
  rintro e w' ⟨rfl, rfl⟩
  go_wp2
  go_ret
  exact ⟨rfl, rfl⟩
theorem rfix_nil (n : Int) (w : World) : Calls Try.prog 24 #[.pointer none, .int .i64 n] w fun e w' => e = .returned (.int .u64 0) ∧ w' = w := by
  have hr := ready_nil w
  go_enter Try.func24, Try.ntmps24
  go_wp2_with fail
  refine hr.mono ?_
  rintro e w' ⟨rfl, rfl⟩
  go_wp2
  go_ret
  exact ⟨rfl, rfl⟩
theorem rfix_no (n : Int) {b at_ : Nat} {s : ByteArray} {w : World} {e : Int} (h : InAt w b s at_ e) (he : (e == 0) = false) : Calls Try.prog 24 #[.pointer (some ⟨b, 0, none⟩), .int .i64 n] w fun e w' => e = .returned (.int .u64 0) ∧ w' = w := by
  have hr := ready_no h he
  go_enter Try.func24, Try.ntmps24
  go_wp2_with fail
  refine hr.mono ?_
  rintro e w' ⟨rfl, rfl⟩
  go_wp2
  go_ret
  exact ⟨rfl, rfl⟩
theorem rvar_nil (w : World) : Calls Try.prog 25 #[.pointer none] w fun e w' => e = .returned (.int .u64 0) ∧ w' = w := by
  have hr := ready_nil w
  go_enter Try.func25, Try.ntmps25
  go_wp2_with fail
  refine hr.mono ?_
  rintro e w' ⟨rfl, rfl⟩
  go_wp2
  go_ret
  exact ⟨rfl, rfl⟩
theorem rvar_no {b at_ : Nat} {s : ByteArray} {w : World} {e : Int} (h : InAt w b s at_ e) (he : (e == 0) = false) : Calls Try.prog 25 #[.pointer (some ⟨b, 0, none⟩)] w fun e w' => e = .returned (.int .u64 0) ∧ w' = w := by
  have hr := ready_no h he
  go_enter Try.func25, Try.ntmps25
  go_wp2_with fail
  refine hr.mono ?_
  rintro e w' ⟨rfl, rfl⟩
  go_wp2
  go_ret
  exact ⟨rfl, rfl⟩
theorem rint_nil (n : Int) (w : World) : Calls Try.prog 35 #[.pointer none, .int .i64 n] w fun e w' => e = .returned (.int .i64 0) ∧ w' = w := by
  have hr := ready_nil w
  go_enter Try.func35, Try.ntmps35
  go_wp2_with fail
  refine hr.mono ?_
  rintro e w' ⟨rfl, rfl⟩
  go_wp2
  go_ret
  exact ⟨rfl, rfl⟩
theorem rint_no (n : Int) {b at_ : Nat} {s : ByteArray} {w : World} {e : Int} (h : InAt w b s at_ e) (he : (e == 0) = false) : Calls Try.prog 35 #[.pointer (some ⟨b, 0, none⟩), .int .i64 n] w fun e w' => e = .returned (.int .i64 0) ∧ w' = w := by
  have hr := ready_no h he
  go_enter Try.func35, Try.ntmps35
  go_wp2_with fail
  refine hr.mono ?_
  rintro e w' ⟨rfl, rfl⟩
  go_wp2
  go_ret
  exact ⟨rfl, rfl⟩
theorem rtxt_nil (n : Int) (w : World) : Calls Try.prog 26 #[.pointer none, .int .i64 n] w fun e w' => e = .returned (.string ⟨#[]⟩) ∧ w' = w := by
  have hr := ready_nil w
  go_enter Try.func26, Try.ntmps26
  go_wp2_with fail
  refine hr.mono ?_
  rintro e w' ⟨rfl, rfl⟩
  go_wp2
  go_ret
  exact ⟨rfl, rfl⟩
theorem rtxt_no (n : Int) {b at_ : Nat} {s : ByteArray} {w : World} {e : Int} (h : InAt w b s at_ e) (he : (e == 0) = false) : Calls Try.prog 26 #[.pointer (some ⟨b, 0, none⟩), .int .i64 n] w fun e w' => e = .returned (.string ⟨#[]⟩) ∧ w' = w := by
  have hr := ready_no h he
  go_enter Try.func26, Try.ntmps26
  go_wp2_with fail
  refine hr.mono ?_
  rintro e w' ⟨rfl, rfl⟩
  go_wp2
  go_ret
  exact ⟨rfl, rfl⟩

theorem rawR_arg {l : List Nat} {n : Int} (h : n < 0) : rawR l n = ([], 0, 1) := by rw [rawR, if_pos h]
theorem rawR_short {l : List Nat} {n : Int} (h : ¬ n < 0) (h2 : (l.length : Int) < n) : rawR l n = ([], 0, 10) := by rw [rawR, if_neg h, if_pos h2]
theorem rawR_ok {l : List Nat} {n : Int} (h : ¬ n < 0) (h2 : ¬ (l.length : Int) < n) : rawR l n = (l.take n.toNat, n.toNat, 0) := by rw [rawR, if_neg h, if_neg h2]
theorem drop_len (s : ByteArray) {at_ : Nat} (ha : at_ ≤ s.size) : (((bs s).drop at_).length : Int) = (s.size : Int) - (at_ : Int) := by rw [List.length_drop, bs_length]; omega
theorem extract_str (s : ByteArray) (a n : Nat) : s.extract a (a + n) = str (((bs s).drop a).take n) := by
  apply str_of
  rw [bs_extract]
  congr 1
  omega
set_option maxHeartbeats 2000000 in
theorem rraw_ok {b at_ : Nat} {s : ByteArray} {w : World} (n : Int) (h : InAt w b s at_ 0) (hs : s.size ≤ 9223372036854775807) (ha : at_ ≤ s.size) (hn : -9223372036854775808 ≤ n ∧ n ≤ 9223372036854775807) :
    Calls Try.prog 27 #[.pointer (some ⟨b, 0, none⟩), .int .i64 n] w fun e w' => e = .returned (.string (str (rawR ((bs s).drop at_) n).1)) ∧ Did w b s (at_ + (rawR ((bs s).drop at_) n).2.1) (rawR ((bs s).drop at_) n).2.2 w' := by
  obtain ⟨hn1, hn2⟩ := hn
  have hr := ready_ok h
  have hl := left_any h hs ha
  have hdl := drop_len s ha
  by_cases h0 : n < 0
  · have HR := hide (rawR_arg (l := (bs s).drop at_) h0)
    have hk := keep_ok h 1
    go_enter Try.func27, Try.ntmps27
    go_wp2_with fail
    refine hr.mono ?_
    rintro e w' ⟨rfl, rfl⟩
    go_wp2_with fail
    refine hk.mono ?_
    rintro e w' ⟨rfl, rfl⟩
    go_wp2
    go_ret
    rw [HR.out]
    exact ⟨rfl, (Did.refl h).setE 1⟩
  · by_cases h1 : (s.size : Int) - (at_ : Int) < n
    · have HR := hide (rawR_short (l := (bs s).drop at_) h0 (by rw [hdl]; exact h1))
      clear hdl
      go_enter Try.func27, Try.ntmps27
      go_wp2_with fail
      refine hr.mono ?_
      rintro e w' ⟨rfl, rfl⟩
      go_wp2_with fail
      refine hl.mono ?_
      rintro e w2 ⟨rfl, hb⟩
      go_wp2_with fail
      refine (keep_ok (h.later hb) 10).mono ?_
      rintro e w' ⟨rfl, rfl⟩
      go_wp2
      go_ret
      rw [HR.out]
      exact ⟨rfl, (Did.of_below h hb).setE 10⟩
    · have HR := hide (rawR_ok (l := (bs s).drop at_) h0 (by rw [hdl]; exact h1))
      clear hdl
      obtain ⟨m, rfl⟩ := Int.eq_ofNat_of_zero_le (show 0 ≤ n by omega)
      rw [show ((m : Int)).toNat = m by omega] at HR
      have HX := hide (extract_str s at_ m)
      go_enter Try.func27, Try.ntmps27
      go_wp2_with fail
      refine hr.mono ?_
      rintro e w' ⟨rfl, rfl⟩
      go_wp2_with fail
      refine hl.mono ?_
      rintro e w2 ⟨rfl, hb⟩
      have h2 := h.later hb
      have c2 := h2.c2
      have f2 := h2.f2
      have HD := hide ((Did.of_below h hb).setA (at_ + m))
      have hD := HD.out
      rw [show ((at_ + m : Nat) : Int) = (at_ : Int) + (m : Int) by omega] at hD
      have hne := later_ne (w2.setCell ⟨b, 2, none⟩ (.int .i64 ((at_ : Int) + (m : Int))))
      have c1' : ∀ p : Later (w2.setCell ⟨b, 2, none⟩ (.int .i64 ((at_ : Int) + (m : Int)))), p.val.cell? ⟨b, 1, none⟩ = some (.string s) := fun p => (hD.inn.later p.below).c1
      have c2' : ∀ p : Later (w2.setCell ⟨b, 2, none⟩ (.int .i64 ((at_ : Int) + (m : Int)))), p.val.cell? ⟨b, 2, none⟩ = some (.int .i64 ((at_ : Int) + (m : Int))) := fun p => by
        rw [(hD.inn.later p.below).c2]
        congr 2
      have HD2 := hide hD
      have hx1 : (at_ : Int) + (m : Int) ≤ (s.size : Int) := by omega
      clear hD
      go_wp2
      refine wp_region_later (by kernel_rfl) (by kernel_rfl) ?_
      (repeat (first | go_big_quiet_skip | (go_big_quiet_want; go_big_quiet_op; go_big_quiet_on)))
      refine wpQuiet_nil ?_
      rintro _ ⟨p, rfl⟩
      go_wp2
      go_ret
      rw [HR.out]
      exact ⟨ret_str (by rw [← HX.out] <;> first | rfl | (congr 1; omega)), HD2.out.later p.below⟩
set_option maxHeartbeats 2000000 in
theorem rfix_ok {b at_ : Nat} {s : ByteArray} {w : World} (n : Int) (h : InAt w b s at_ 0) (hs : s.size ≤ 9223372036854775807) (ha : at_ ≤ s.size) (hn : -9223372036854775808 ≤ n ∧ n ≤ 9223372036854775807) :
    Calls Try.prog 24 #[.pointer (some ⟨b, 0, none⟩), .int .i64 n] w fun e w' => e = .returned (.int .u64 ((fixR ((bs s).drop at_) n).1 : Nat)) ∧ Did w b s (at_ + (fixR ((bs s).drop at_) n).2.1) (fixR ((bs s).drop at_) n).2.2 w' := by
  have hr := ready_ok h
  have hm := mayFix_any n hn w
  by_cases hd : 1 ≤ n ∧ n ≤ 8
  · have hraw := rraw_ok n h hs ha hn
    rw [decide_eq_true hd] at hm
    have hlb : ∀ c ∈ (bs s).drop at_, c < 256 := fun c hc => bs_lt s c (List.mem_of_mem_drop hc)
    have HR : Hid (jo 0 (bs (str (rawR ((bs s).drop at_) n).1)) = (fixR ((bs s).drop at_) n).1 ∧ (rawR ((bs s).drop at_) n).2 = (fixR ((bs s).drop at_) n).2 ∧ (str (rawR ((bs s).drop at_) n).1).size ≤ 9223372036854775807) := by
      show _ ∧ _ ∧ _
      generalize (bs s).drop at_ = L at *
      by_cases h1 : (L.length : Int) < n
      · rw [fixR_short hd h1, rawR_short (by omega) h1]
        exact ⟨rfl, rfl, by decide⟩
      · rw [fixR_ok hd h1, rawR_ok (by omega) h1]
        have hlt : (L.take n.toNat).length ≤ 8 := by rw [List.length_take]; omega
        have hl2 : ∀ c ∈ L.take n.toNat, c < 256 := fun c hc => hlb c (List.mem_of_mem_take hc)
        exact ⟨by rw [bs_str hl2, jo_zero hl2 hlt], rfl, by rw [str_size]; show (L.take n.toNat).length ≤ _; omega⟩
    obtain ⟨e1, e2, e3⟩ := HR.out
    rw [e2] at hraw
    rw [← e1]
    clear HR e1 e2 hlb
    generalize str (rawR ((bs s).drop at_) n).1 = R at *
    generalize fixR ((bs s).drop at_) n = F at *
    go_enter Try.func24, Try.ntmps24
    go_wp2_with fail
    refine hr.mono ?_
    rintro e w' ⟨rfl, rfl⟩
    go_wp2_with fail
    refine hm.mono ?_
    rintro e w' ⟨rfl, rfl⟩
    go_wp2_with fail
    refine hraw.mono ?_
    rintro e w2 ⟨rfl, hd2⟩
    go_wp2_with fail
    refine (join_any 0 (by omega) R e3 _).mono ?_
    rintro e w' ⟨rfl, rfl⟩
    go_wp2
    go_ret
    exact ⟨rfl, hd2⟩
  · have HR := hide (fixR_arg (l := (bs s).drop at_) hd)
    rw [decide_eq_false hd] at hm
    have hk := keep_ok h 1
    go_enter Try.func24, Try.ntmps24
    go_wp2_with fail
    refine hr.mono ?_
    rintro e w' ⟨rfl, rfl⟩
    go_wp2_with fail
    refine hm.mono ?_
    rintro e w' ⟨rfl, rfl⟩
    go_wp2_with fail
    refine hk.mono ?_
    rintro e w' ⟨rfl, rfl⟩
    go_wp2
    go_ret
    rw [HR.out]
    exact ⟨rfl, (Did.refl h).setE 1⟩
theorem few_at (s : ByteArray) (hs : s.size ≤ 9223372036854775807) (at_ : Nat) (w : World) :
    Calls Try.prog 43 #[.string (s.extract at_ s.size)] w fun e w' => e = .returned (.tuple #[.int .u64 ((few 12 ((bs s).drop at_)).1 : Nat), .int .i64 ((few 12 ((bs s).drop at_)).2.1 : Nat), .int .i64 (few 12 ((bs s).drop at_)).2.2]) ∧ Below w.heap.size w w' := by
  have hc := few_any (s.extract at_ s.size) (Nat.le_trans (extract_size_le _ _ _) hs) w
  rw [bs_extract, List.take_of_length_le (by rw [List.length_drop, bs_length]; omega)] at hc
  exact hc
set_option maxHeartbeats 2000000 in
theorem rvar_ok {b at_ : Nat} {s : ByteArray} {w : World} (h : InAt w b s at_ 0) (hs : s.size ≤ 9223372036854775807) (ha : at_ ≤ s.size) :
    Calls Try.prog 25 #[.pointer (some ⟨b, 0, none⟩)] w fun e w' => e = .returned (.int .u64 ((few 12 ((bs s).drop at_)).1 : Nat)) ∧ Did w b s (at_ + (few 12 ((bs s).drop at_)).2.1) (few 12 ((bs s).drop at_)).2.2 w' := by
  have hr := ready_ok h
  have hf : ∀ w, _ := fun w => few_at s hs at_ w
  have hff := few_facts ((bs s).drop at_)
  have hle := hff.2
  rw [List.length_drop, bs_length] at hle
  clear hff
  generalize few 12 ((bs s).drop at_) = F at *
  have hne := later_ne w
  have c1 : ∀ p : Later w, p.val.cell? ⟨b, 1, none⟩ = some (.string s) := fun p => (h.later p.below).c1
  have c2 : ∀ p : Later w, p.val.cell? ⟨b, 2, none⟩ = some (.int .i64 (at_ : Nat)) := fun p => (h.later p.below).c2
  have ha1 : (at_ : Int) ≤ (s.size : Int) := by omega
  go_enter Try.func25, Try.ntmps25
  go_wp2_with fail
  refine hr.mono ?_
  rintro e w' ⟨rfl, rfl⟩
  go_wp2
  refine wp_region_later (by kernel_rfl) (by kernel_rfl) ?_
  (repeat (first | go_big_quiet_skip | (go_big_quiet_want; go_big_quiet_op; go_big_quiet_on)))
  (go_big_quiet_want; go_big_quiet_op; apply Exists.intro; refine ⟨fun p => ?_, ?_⟩; (· exact later_of (hf _)); go_big_quiet_on)
  (repeat (first | go_big_quiet_skip | (go_big_quiet_want; go_big_quiet_op; go_big_quiet_on)))
  refine wpQuiet_nil ?_
  rintro _ ⟨p, rfl⟩
  have h2 := h.later p.below
  go_wp2_with fail
  refine (keep_ok h2 F.2.2).mono ?_
  rintro e w' ⟨rfl, rfl⟩
  have hD := (Did.of_below h p.below).setE F.2.2
  have c2' := hD.inn.c2
  have f2' := hD.inn.f2
  have HD := hide (hD.setA (at_ + F.2.1))
  clear hD
  rw [show ((at_ + F.2.1 : Nat) : Int) = (at_ : Int) + (F.2.1 : Int) by omega] at HD
  go_wp2
  go_ret
  exact ⟨rfl, HD.out⟩

theorem intR_bad {l : List Nat} {m : Int} (h : (few 12 l).2.2 ≠ 0) : intR l m = few 12 l := by rw [intR, if_neg fun x => h x.1]
theorem intR_form {l : List Nat} {m : Int} (h : (few 12 l).2.2 = 0) (h2 : m < 0 ∨ m < ((few 12 l).1 : Nat)) : intR l m = (0, 0, 12) := by rw [intR, if_pos ⟨h, h2⟩]
theorem intR_ok {l : List Nat} {m : Int} (h2 : ¬ (m < 0 ∨ m < ((few 12 l).1 : Nat))) : intR l m = few 12 l := by rw [intR, if_neg fun x => h2 x.2]
theorem few_bad {l : List Nat} (h : (few 12 l).2.2 ≠ 0) : (few 12 l).1 = 0 ∧ (few 12 l).2.1 = 0 := by
  rcases (few_facts l).1 with h' | h'
  · exact absurd h' h
  · exact ⟨h'.1, h'.2.1⟩
set_option maxHeartbeats 2000000 in
theorem rint_ok {b at_ : Nat} {s : ByteArray} {w : World} (n : Int) (h : InAt w b s at_ 0) (hs : s.size ≤ 9223372036854775807) (ha : at_ ≤ s.size) (hn : -9223372036854775808 ≤ n ∧ n ≤ 9223372036854775807) :
    Calls Try.prog 35 #[.pointer (some ⟨b, 0, none⟩), .int .i64 n] w fun e w' => e = .returned (.int .i64 ((intR ((bs s).drop at_) n).1 : Nat)) ∧ Did w b s (at_ + (intR ((bs s).drop at_) n).2.1) (intR ((bs s).drop at_) n).2.2 w' := by
  obtain ⟨hn1, hn2⟩ := hn
  have hr := ready_ok h
  have hv := rvar_ok h hs ha
  have c2 := h.c2
  have hx := few_bound (l := (bs s).drop at_) fun c hc => bs_lt s c (List.mem_of_mem_drop hc)
  by_cases he : (few 12 ((bs s).drop at_)).2.2 = 0
  · by_cases h2 : n < 0 ∨ n < ((few 12 ((bs s).drop at_)).1 : Nat)
    · have HR := hide (intR_form he h2)
      rw [he] at hv
      generalize few 12 ((bs s).drop at_) = F at *
      have hgoal : ∀ w2, Did w b s (at_ + F.2.1) 0 w2 → Hid (Did w b s at_ 12 ((w2.setCell ⟨b, 0, none⟩ (.int .i64 12)).setCell ⟨b, 2, none⟩ (.int .i64 (at_ : Nat)))) := fun w2 hd => (hd.setE 12).setA at_
      by_cases h0 : n < 0
      · go_enter Try.func35, Try.ntmps35
        go_wp2_with fail
        refine hr.mono ?_
        rintro e w' ⟨rfl, rfl⟩
        go_wp2_with fail
        refine hv.mono ?_
        rintro e w2 ⟨rfl, hd⟩
        go_wp2_with fail
        refine (keep_ok hd.inn 12).mono ?_
        rintro e w' ⟨rfl, rfl⟩
        have f2' := (hd.setE 12).inn.f2
        have c2' := (hd.setE 12).inn.c2
        go_wp2
        go_ret
        rw [HR.out]
        exact ⟨rfl, (hgoal _ hd).out⟩
      · have h3 : n < (F.1 : Int) := by omega
        clear h2
        go_enter Try.func35, Try.ntmps35
        go_wp2_with fail
        refine hr.mono ?_
        rintro e w' ⟨rfl, rfl⟩
        go_wp2_with fail
        refine hv.mono ?_
        rintro e w2 ⟨rfl, hd⟩
        go_wp2_with fail
        refine (keep_ok hd.inn 12).mono ?_
        rintro e w' ⟨rfl, rfl⟩
        have f2' := (hd.setE 12).inn.f2
        have c2' := (hd.setE 12).inn.c2
        go_wp2
        go_ret
        rw [HR.out]
        exact ⟨rfl, (hgoal _ hd).out⟩
    · have HR := hide (intR_ok h2)
      clear he
      generalize few 12 ((bs s).drop at_) = F at *
      have h3 : (F.1 : Int) ≤ n := by omega
      have h4 : 0 ≤ n := by omega
      clear h2
      go_enter Try.func35, Try.ntmps35
      go_wp2_with fail
      refine hr.mono ?_
      rintro e w' ⟨rfl, rfl⟩
      go_wp2_with fail
      refine hv.mono ?_
      rintro e w2 ⟨rfl, hd⟩
      go_wp2
      go_ret
      rw [HR.out]
      exact ⟨rfl, hd⟩
  · have HR := hide (intR_bad (m := n) he)
    obtain ⟨z1, z2⟩ := few_bad he
    have he2 : ((few 12 ((bs s).drop at_)).2.2 == 0) = false := by rw [beq_eq_false_iff_ne]; exact he
    have HZ := hide z1
    rw [HR.out]
    rw [z1, z2, Nat.add_zero] at hv
    rw [z1, z2, Nat.add_zero]
    clear HR z1 z2 he HZ
    generalize few 12 ((bs s).drop at_) = F at *
    by_cases h0 : n < 0
    · go_enter Try.func35, Try.ntmps35
      go_wp2_with fail
      refine hr.mono ?_
      rintro e w' ⟨rfl, rfl⟩
      go_wp2_with fail
      refine hv.mono ?_
      rintro e w2 ⟨rfl, hd⟩
      go_wp2_with fail
      refine (keep_no hd.inn he2 12).mono ?_
      rintro e w' ⟨rfl, hw'⟩
      subst hw'
      have f2' := hd.inn.f2
      have c2' := hd.inn.c2
      go_wp2
      go_ret
      exact ⟨rfl, hd.setA at_⟩
    · go_enter Try.func35, Try.ntmps35
      go_wp2_with fail
      refine hr.mono ?_
      rintro e w' ⟨rfl, rfl⟩
      go_wp2_with fail
      refine hv.mono ?_
      rintro e w2 ⟨rfl, hd⟩
      go_wp2
      go_ret
      exact ⟨rfl, hd⟩
theorem txtR_bad {l : List Nat} {m : Int} (h : (intR l m).2.2 ≠ 0) : txtR l m = ([], 0, (intR l m).2.2) := by rw [txtR, if_pos h]
theorem txtR_short {l : List Nat} {m : Int} (h : (intR l m).2.2 = 0) (h2 : l.length - (intR l m).2.1 < (intR l m).1) : txtR l m = ([], 0, 10) := by rw [txtR, if_neg (fun x => x h), if_pos h2]
theorem txtR_ok {l : List Nat} {m : Int} (h : (intR l m).2.2 = 0) (h2 : ¬ l.length - (intR l m).2.1 < (intR l m).1) : txtR l m = ((l.drop (intR l m).2.1).take (intR l m).1, (intR l m).2.1 + (intR l m).1, 0) := by rw [txtR, if_neg (fun x => x h), if_neg h2]
theorem intR_facts (l : List Nat) (m : Int) (hm : m ≤ 9223372036854775807) : ((intR l m).2.2 = 0 → ((intR l m).1 : Int) ≤ 9223372036854775807) ∧ ((intR l m).2.2 ≠ 0 → (intR l m).1 = 0 ∧ (intR l m).2.1 = 0) ∧ (intR l m).2.1 ≤ l.length := by
  have hf := few_facts l
  by_cases he : (few 12 l).2.2 = 0
  · by_cases h2 : m < 0 ∨ m < ((few 12 l).1 : Nat)
    · rw [intR_form he h2]
      simp
    · rw [intR_ok h2]
      exact ⟨fun _ => by omega, fun h => absurd he h, hf.2⟩
  · rw [intR_bad he]
    exact ⟨fun h => absurd h he, fun _ => few_bad he, hf.2⟩
set_option maxHeartbeats 2000000 in
theorem rtxt_ok {b at_ : Nat} {s : ByteArray} {w : World} (n : Int) (h : InAt w b s at_ 0) (hs : s.size ≤ 9223372036854775807) (ha : at_ ≤ s.size) (hn : -9223372036854775808 ≤ n ∧ n ≤ 9223372036854775807) :
    Calls Try.prog 26 #[.pointer (some ⟨b, 0, none⟩), .int .i64 n] w fun e w' => e = .returned (.string (str (txtR ((bs s).drop at_) n).1)) ∧ Did w b s (at_ + (txtR ((bs s).drop at_) n).2.1) (txtR ((bs s).drop at_) n).2.2 w' := by
  have hr := ready_ok h
  have hi := rint_ok n h hs ha hn
  have c2 := h.c2
  obtain ⟨i1, i2, i3⟩ := intR_facts ((bs s).drop at_) n hn.2
  by_cases he : (intR ((bs s).drop at_) n).2.2 = 0
  · have hxl := i1 he
    have hdl : ((bs s).drop at_).length = s.size - at_ := by rw [List.length_drop, bs_length]
    have hdd : ((bs s).drop at_).drop (intR ((bs s).drop at_) n).2.1 = (bs s).drop (at_ + (intR ((bs s).drop at_) n).2.1) := by rw [List.drop_drop]
    have HI := hide he
    rw [he] at hi
    have hraw : ∀ w2, Did w b s (at_ + (intR ((bs s).drop at_) n).2.1) 0 w2 → _ := fun w2 hd => rraw_ok ((intR ((bs s).drop at_) n).1 : Nat) hd.inn hs (by omega) ⟨by omega, hxl⟩
    by_cases h2 : ((bs s).drop at_).length - (intR ((bs s).drop at_) n).2.1 < (intR ((bs s).drop at_) n).1
    · have HT := hide (txtR_short he h2)
      rw [rawR_short (by omega) (by rw [List.length_drop, bs_length]; omega)] at hraw
      clear i1 i2 he
      generalize intR ((bs s).drop at_) n = F at *
      go_enter Try.func26, Try.ntmps26
      go_wp2_with fail
      refine hr.mono ?_
      rintro e w' ⟨rfl, rfl⟩
      go_wp2_with fail
      refine hi.mono ?_
      rintro e w2 ⟨rfl, hd⟩
      go_wp2_with fail
      refine (hraw _ hd).mono ?_
      rintro e w3 ⟨rfl, hd3⟩
      go_wp2_with fail
      refine (well_no hd3.inn rfl).mono ?_
      rintro e w' ⟨rfl, hw'⟩
      subst hw'
      have f2' := hd3.inn.f2
      have c2' := hd3.inn.c2
      go_wp2
      go_ret
      rw [HT.out]
      exact ⟨rfl, (hd.trans hd3).setA at_⟩
    · have HT := hide (txtR_ok he h2)
      rw [rawR_ok (by omega) (by rw [List.length_drop, bs_length]; omega), ← hdd, show (((intR ((bs s).drop at_) n).1 : Nat) : Int).toNat = (intR ((bs s).drop at_) n).1 by omega] at hraw
      clear i1 i2 he hdd hdl
      generalize intR ((bs s).drop at_) n = F at *
      go_enter Try.func26, Try.ntmps26
      go_wp2_with fail
      refine hr.mono ?_
      rintro e w' ⟨rfl, rfl⟩
      go_wp2_with fail
      refine hi.mono ?_
      rintro e w2 ⟨rfl, hd⟩
      go_wp2_with fail
      refine (hraw _ hd).mono ?_
      rintro e w3 ⟨rfl, hd3⟩
      go_wp2_with fail
      refine (well_ok hd3.inn).mono ?_
      rintro e w' ⟨rfl, hw'⟩
      subst hw'
      go_wp2
      go_ret
      rw [HT.out]
      exact ⟨ret_str (by show _ = str (List.take F.1 (List.drop F.2.1 (List.drop at_ (bs s)))); rw [List.drop_drop]), by have := hd.trans hd3; rw [Nat.add_assoc] at this; exact this⟩
  · have HT := hide (txtR_bad he)
    obtain ⟨z1, z2⟩ := i2 he
    have he2 : ((intR ((bs s).drop at_) n).2.2 == 0) = false := by rw [beq_eq_false_iff_ne]; exact he
    rw [z1, z2, Nat.add_zero] at hi
    clear i1 i2 i3 he z1 z2
    generalize intR ((bs s).drop at_) n = F at *
    go_enter Try.func26, Try.ntmps26
    go_wp2_with fail
    refine hr.mono ?_
    rintro e w' ⟨rfl, rfl⟩
    go_wp2_with fail
    refine hi.mono ?_
    rintro e w2 ⟨rfl, hd⟩
    go_wp2_with fail
    refine (rraw_no 0 hd.inn he2).mono ?_
    rintro e w' ⟨rfl, hw'⟩
    subst hw'
    go_wp2_with fail
    refine (well_no hd.inn he2).mono ?_
    rintro e w' ⟨rfl, hw'⟩
    subst hw'
    have f2' := hd.inn.f2
    have c2' := hd.inn.c2
    go_wp2
    go_ret
    rw [HT.out]
    exact ⟨rfl, hd.setA at_⟩

end Wi
end Go.Proofs.Ytnpnghdjdelemaa
