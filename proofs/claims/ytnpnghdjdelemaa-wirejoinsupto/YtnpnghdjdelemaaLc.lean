/- A part of the proofs about package wire: what its functions answer, call by call. -/
import Derived.Test.YtnpnghdjdelemaaWs
import Derived.Test.YtnpnghdjdelemaaWq
namespace Go.Proofs.Ytnpnghdjdelemaa
open Go.RowKit
namespace Wi

theorem addr_inj {b c o p : Nat} (h : (some ⟨b, o, none⟩ : Option Addr) = some ⟨c, p, none⟩) : b = c ∧ o = p := by
  simp at h
  exact h
/-- What calls write. -/
def wTs (xs : List OpV) : List Nat := xs.flatMap fun o => wT o.k o.x o.s o.n
theorem wTs_snoc {xs : List OpV} {k : Nat} {o : OpV} (h : xs[k]? = some o) : wTs (xs.take (k + 1)) = wTs (xs.take k) ++ wT o.k o.x o.s o.n := by
  rw [snoc_take _ _ _ h, wTs, List.flatMap_append]
  simp [wTs]
theorem wT_len (k : Int) (x : Nat) (s : ByteArray) (n : Int) (hs : s.size ≤ 300) : (wT k x s n).length ≤ 309 := by
  rcases kinds k with rfl | rfl | rfl | rfl | hk
  · rw [wT0.1, fixW]
    split
    · rw [be_length]; omega
    · simp
  · rw [wT1.1]; have := vr_len9 x; omega
  · rw [wT4.1]; have := vr_len9 x; omega
  · rw [wT2.1, tx, List.length_append, bs_length]; have := vr_len9 s.size; omega
  · rw [(wTr hk).1, bs_length]; omega
theorem wTs_len : ∀ xs : List OpV, (∀ o ∈ xs, o.s.size ≤ 300) → (wTs xs).length ≤ 309 * xs.length
  | [], _ => by simp [wTs]
  | o :: r, h => by
    have h1 := wTs_len r fun x hx => h x (by simp [hx])
    have h2 := wT_len o.k o.x o.s o.n (h o (by simp))
    simp only [wTs, List.flatMap_cons, List.length_append, List.length_cons] at h1 ⊢
    omega
theorem wTs_small {xs : List OpV} (h : opsB xs = true) (k : Nat) : (wTs (xs.take k)).length ≤ 18540 := by
  have h1 := wTs_len (xs.take k) fun o ho => opsB_size h o (List.mem_of_mem_take ho)
  have h2 := opsB_len h
  have h3 : (xs.take k).length ≤ xs.length := List.length_take_le' ..
  omega
set_option maxHeartbeats 8000000 in
theorem wireWrites_walk (a : Option Addr) (n cap : Nat) (xs : List OpV) (W : World) (hO : Os W a n xs) :
    Calls Try.prog 3 #[.slice a n cap] W fun e w' => e = .returned (.bool true) ∧ Below W.heap.size W w' := by
  have hfew := fewf_any a n cap xs W hO
  have hn := hO.most
  cases hB : opsB xs with
  | false =>
    rw [hB] at hfew
    go_enter Try.func3, Try.ntmps3
    go_wp2_with fail
    refine hfew.mono ?_
    rintro e w' ⟨rfl, rfl⟩
    go_wp2_with fail
    refine (awake_any _).mono ?_
    rintro e w5 ⟨rfl, hb5⟩
    go_wp2
    go_ret
    exact ⟨rfl, hb5⟩
  | true =>
    rw [hB] at hfew
    have HB := hide hB
    clear hB
    go_enter Try.func3, Try.ntmps3
    go_wp2_with fail
    refine hfew.mono ?_
    rintro e w' ⟨rfl, rfl⟩
    clear hfew
    go_wp2
    go_loopw [4, 5] (fun s i wr => ∃ k : Nat, k ≤ n ∧ i = .int .i64 k ∧ s = .string (str (wTs (xs.take k))) ∧ ∃ v', Wrote (w'.alloc (.cells #[.slice none 0 0] 27)) w'.heap.size (.slice none 0 0) (wTs (xs.take k)) wr v') (fun _ i _ => n - (intOf i).toNat)
    case atStart => exact ⟨0, Nat.zero_le _, rfl, rfl, _, Wrote.refl (OutAt.new w')⟩
    case round =>
      obtain ⟨k, hk, rfl, rfl, v', hwr⟩ := hrel
      have hlen := hO.len
      have HBr := hide ((below_alloc w' (.cells #[.slice none 0 0] 27)).trans (hwr.below (B := w'.heap.size) (by simp) (Nat.le_refl _) (From.nil _ _ _)).1)
      by_cases hlt : k < n
      · obtain ⟨⟨ok, ox, os, on⟩, hs0⟩ : ∃ o, xs[k]? = some o := ⟨_, List.getElem?_eq_getElem (by omega)⟩
        obtain ⟨g, off, rfl, hbl, c0, c1, c2, c3⟩ := (hO.later HBr.out).cells k _ hs0
        obtain ⟨hkk, hxl, _, hnn⟩ := hO.fit _ (List.mem_of_getElem? hs0)
        have hsz := opsB_size HB.out _ (List.mem_of_getElem? hs0)
        simp only at c0 c1 c2 c3 hsz hkk hxl hnn
        have hLl := wTs_small HB.out k
        have hLl2 := wTs_small HB.out (k + 1)
        have HLk : Hid (wTs (xs.take (k + 1)) = wTs (xs.take k) ++ wT ok ox os on) := wTs_snoc hs0
        rw [HLk.out] at hLl2
        have hs := hide hs0
        have hsum : str (wTs (xs.take k)) ++ str (wT ok ox os on) = str (wTs (xs.take k) ++ wT ok ox os on) := (str_append _ _).symm
        have HTk : Hid (Value.string (str (wTs (xs.take k) ++ wT ok ox os on)) = .string (str (wTs (xs.take (k + 1))))) := by
          show _ = _
          rw [HLk.out]
        have hs1 : (str (wTs (xs.take k))).size ≤ 18540 := by rw [str_size]; exact hLl
        have hs2 : (str (wT ok ox os on)).size ≤ 309 := by rw [str_size]; exact wT_len _ _ _ _ hsz
        have hwc := write_any w'.heap.size v' (wTs (xs.take k)) ok ox os on hxl hsz hnn wr hwr.out (by omega)
        clear hs0 hlen hLl
        generalize wTs (xs.take k) = L at *
        obtain ⟨hn1, hn2⟩ := hnn
        have hnn : Num on := ⟨hn1, hn2⟩
        by_cases k0 : ok = 0
        · subst k0
          by_cases h1 : on < 1
          · rw [show wE 0 on = 1 by simp [wE, fixE]; omega] at hwc
            go_wp2_with fail
            refine hwc.mono ?_
            rintro e w2 ⟨rfl, v2, hw2⟩
            have HW := hide (hwr.trans hw2)
            have HBz := hide ((HW.out.below (B := w'.heap.size) (by simp) (Nat.le_refl _) (From.nil _ _ _)).1)
            have HBW := hide ((below_alloc w' (.cells #[.slice none 0 0] 27)).trans HBz.out)
            obtain ⟨_, _, heq2, _, d0, d1, d2, d3⟩ := (hO.later HBW.out).cells k _ hs.out
            obtain ⟨rfl, rfl⟩ := addr_inj heq2
            clear heq2 hw2 hwc hwr
            go_wp2_with fail
            refine (textf_any 0 ox os on hxl hsz hnn _).mono ?_
            rintro e w3 ⟨rfl, hb3⟩
            have HW3 := hide (HW.out.later hb3)
            have HBW3 := hide (HBW.out.trans (hb3.mono HBW.out.size))
            have hne := later_ne w3
            have hst : ∀ p : Later w3, _ := fun p => same_b (string_any _ _ _ _ (HW3.out.out.later p.below))
            have hz1 : ∀ p : Later w3, _ := fun p => same_b (size_any ox hxl p.val)
            have hz2 : ∀ p : Later w3, _ := fun p => same_b (rsize_any ox hxl p.val)
            obtain ⟨_, _, heq3, hbl3, _, f1, _, _⟩ := (hO.later HBW3.out).cells k _ hs.out
            obtain ⟨rfl, rfl⟩ := addr_inj heq3
            clear heq3
            simp only at f1
            have ff : ∀ p : Later w3, p.val.cell? ⟨g, off + k * 4 + 1, none⟩ = some (.int .u64 (ox : Nat)) := fun p => (p.below.cell hbl3).trans f1
            have HA := hsum
            clear hb3 d0 d1 d2 d3 f1
            generalize str (L ++ wT 0 ox os on) = S2 at *
            generalize hT : str (wT 0 ox os on) = TT at *
            generalize str L = S1 at *
            go_wp2
            refine wp_region_later (by kernel_rfl) (by kernel_rfl) ?_
            (repeat (first | go_big_quiet_skip | (go_big_quiet_want; go_big_quiet_op; go_big_quiet_on)))
            (go_big_quiet_want; go_big_quiet_op; apply Exists.intro; refine ⟨fun p => ?_, ?_⟩; (· exact later_of (hst p)); go_big_quiet_on)
            (repeat (first | go_big_quiet_skip | (go_big_quiet_want; go_big_quiet_op; go_big_quiet_on)))
            (go_big_quiet_want; go_big_quiet_op; apply Exists.intro; refine ⟨fun p => ?_, ?_⟩; (· exact later_of (hz1 p)); go_big_quiet_on)
            (repeat (first | go_big_quiet_skip | (go_big_quiet_want; go_big_quiet_op; go_big_quiet_on)))
            (go_big_quiet_want; go_big_quiet_op; apply Exists.intro; refine ⟨fun p => ?_, ?_⟩; (· exact later_of (hz2 p)); go_big_quiet_on)
            (repeat (first | go_big_quiet_skip | (go_big_quiet_want; go_big_quiet_op; go_big_quiet_on)))
            refine wpQuiet_nil ?_
            rintro _ ⟨p, rfl⟩
            go_wp2
            go_roundw
            case rel => exact ⟨k + 1, by omega, by go_num, HTk.out, v2, by rw [HLk.out]; exact HW3.out.later p.below⟩
            case measure => simp [intOf]; omega
          · by_cases h8 : 8 < on
            · rw [show wE 0 on = 1 by simp [wE, fixE]; omega] at hwc
              go_wp2_with fail
              refine hwc.mono ?_
              rintro e w2 ⟨rfl, v2, hw2⟩
              have HW := hide (hwr.trans hw2)
              have HBz := hide ((HW.out.below (B := w'.heap.size) (by simp) (Nat.le_refl _) (From.nil _ _ _)).1)
              have HBW := hide ((below_alloc w' (.cells #[.slice none 0 0] 27)).trans HBz.out)
              obtain ⟨_, _, heq2, _, d0, d1, d2, d3⟩ := (hO.later HBW.out).cells k _ hs.out
              obtain ⟨rfl, rfl⟩ := addr_inj heq2
              clear heq2 hw2 hwc hwr
              go_wp2_with fail
              refine (textf_any 0 ox os on hxl hsz hnn _).mono ?_
              rintro e w3 ⟨rfl, hb3⟩
              have HW3 := hide (HW.out.later hb3)
              have HBW3 := hide (HBW.out.trans (hb3.mono HBW.out.size))
              have hne := later_ne w3
              have hst : ∀ p : Later w3, _ := fun p => same_b (string_any _ _ _ _ (HW3.out.out.later p.below))
              have hz1 : ∀ p : Later w3, _ := fun p => same_b (size_any ox hxl p.val)
              have hz2 : ∀ p : Later w3, _ := fun p => same_b (rsize_any ox hxl p.val)
              obtain ⟨_, _, heq3, hbl3, _, f1, _, _⟩ := (hO.later HBW3.out).cells k _ hs.out
              obtain ⟨rfl, rfl⟩ := addr_inj heq3
              clear heq3
              simp only at f1
              have ff : ∀ p : Later w3, p.val.cell? ⟨g, off + k * 4 + 1, none⟩ = some (.int .u64 (ox : Nat)) := fun p => (p.below.cell hbl3).trans f1
              have HA := hsum
              clear hb3 d0 d1 d2 d3 f1
              generalize str (L ++ wT 0 ox os on) = S2 at *
              generalize hT : str (wT 0 ox os on) = TT at *
              generalize str L = S1 at *
              go_wp2
              refine wp_region_later (by kernel_rfl) (by kernel_rfl) ?_
              (repeat (first | go_big_quiet_skip | (go_big_quiet_want; go_big_quiet_op; go_big_quiet_on)))
              (go_big_quiet_want; go_big_quiet_op; apply Exists.intro; refine ⟨fun p => ?_, ?_⟩; (· exact later_of (hst p)); go_big_quiet_on)
              (repeat (first | go_big_quiet_skip | (go_big_quiet_want; go_big_quiet_op; go_big_quiet_on)))
              (go_big_quiet_want; go_big_quiet_op; apply Exists.intro; refine ⟨fun p => ?_, ?_⟩; (· exact later_of (hz1 p)); go_big_quiet_on)
              (repeat (first | go_big_quiet_skip | (go_big_quiet_want; go_big_quiet_op; go_big_quiet_on)))
              (go_big_quiet_want; go_big_quiet_op; apply Exists.intro; refine ⟨fun p => ?_, ?_⟩; (· exact later_of (hz2 p)); go_big_quiet_on)
              (repeat (first | go_big_quiet_skip | (go_big_quiet_want; go_big_quiet_op; go_big_quiet_on)))
              refine wpQuiet_nil ?_
              rintro _ ⟨p, rfl⟩
              go_wp2
              go_roundw
              case rel => exact ⟨k + 1, by omega, by go_num, HTk.out, v2, by rw [HLk.out]; exact HW3.out.later p.below⟩
              case measure => simp [intOf]; omega
            · rw [show wE 0 on = 0 by simp [wE, fixE]; omega] at hwc
              go_wp2_with fail
              refine hwc.mono ?_
              rintro e w2 ⟨rfl, v2, hw2⟩
              have HW := hide (hwr.trans hw2)
              have HBz := hide ((HW.out.below (B := w'.heap.size) (by simp) (Nat.le_refl _) (From.nil _ _ _)).1)
              have HBW := hide ((below_alloc w' (.cells #[.slice none 0 0] 27)).trans HBz.out)
              obtain ⟨_, _, heq2, _, d0, d1, d2, d3⟩ := (hO.later HBW.out).cells k _ hs.out
              obtain ⟨rfl, rfl⟩ := addr_inj heq2
              clear heq2 hw2 hwc hwr
              go_wp2_with fail
              refine (textf_any 0 ox os on hxl hsz hnn _).mono ?_
              rintro e w3 ⟨rfl, hb3⟩
              have HW3 := hide (HW.out.later hb3)
              have HBW3 := hide (HBW.out.trans (hb3.mono HBW.out.size))
              have hne := later_ne w3
              have hst : ∀ p : Later w3, _ := fun p => same_b (string_any _ _ _ _ (HW3.out.out.later p.below))
              have hz1 : ∀ p : Later w3, _ := fun p => same_b (size_any ox hxl p.val)
              have hz2 : ∀ p : Later w3, _ := fun p => same_b (rsize_any ox hxl p.val)
              obtain ⟨_, _, heq3, hbl3, _, f1, _, _⟩ := (hO.later HBW3.out).cells k _ hs.out
              obtain ⟨rfl, rfl⟩ := addr_inj heq3
              clear heq3
              simp only at f1
              have ff : ∀ p : Later w3, p.val.cell? ⟨g, off + k * 4 + 1, none⟩ = some (.int .u64 (ox : Nat)) := fun p => (p.below.cell hbl3).trans f1
              have HA := hsum
              clear hb3 d0 d1 d2 d3 f1
              generalize str (L ++ wT 0 ox os on) = S2 at *
              generalize hT : str (wT 0 ox os on) = TT at *
              generalize str L = S1 at *
              go_wp2
              refine wp_region_later (by kernel_rfl) (by kernel_rfl) ?_
              (repeat (first | go_big_quiet_skip | (go_big_quiet_want; go_big_quiet_op; go_big_quiet_on)))
              (go_big_quiet_want; go_big_quiet_op; apply Exists.intro; refine ⟨fun p => ?_, ?_⟩; (· exact later_of (hst p)); go_big_quiet_on)
              (repeat (first | go_big_quiet_skip | (go_big_quiet_want; go_big_quiet_op; go_big_quiet_on)))
              (go_big_quiet_want; go_big_quiet_op; apply Exists.intro; refine ⟨fun p => ?_, ?_⟩; (· exact later_of (hz1 p)); go_big_quiet_on)
              (repeat (first | go_big_quiet_skip | (go_big_quiet_want; go_big_quiet_op; go_big_quiet_on)))
              (go_big_quiet_want; go_big_quiet_op; apply Exists.intro; refine ⟨fun p => ?_, ?_⟩; (· exact later_of (hz2 p)); go_big_quiet_on)
              (repeat (first | go_big_quiet_skip | (go_big_quiet_want; go_big_quiet_op; go_big_quiet_on)))
              refine wpQuiet_nil ?_
              rintro _ ⟨p, rfl⟩
              go_wp2
              go_roundw
              case rel => exact ⟨k + 1, by omega, by go_num, HTk.out, v2, by rw [HLk.out]; exact HW3.out.later p.below⟩
              case measure => simp [intOf]; omega
        · have hk0 : (ok == 0) = false := by rw [beq_eq_false_iff_ne]; exact k0
          rw [show wE ok on = 0 by simp [wE, k0]] at hwc
          clear k0
          go_wp2_with fail
          refine hwc.mono ?_
          rintro e w2 ⟨rfl, v2, hw2⟩
          have HW := hide (hwr.trans hw2)
          have HBz := hide ((HW.out.below (B := w'.heap.size) (by simp) (Nat.le_refl _) (From.nil _ _ _)).1)
          have HBW := hide ((below_alloc w' (.cells #[.slice none 0 0] 27)).trans HBz.out)
          obtain ⟨_, _, heq2, _, d0, d1, d2, d3⟩ := (hO.later HBW.out).cells k _ hs.out
          obtain ⟨rfl, rfl⟩ := addr_inj heq2
          clear heq2 hw2 hwc hwr
          go_wp2_with fail
          refine (textf_any ok ox os on hxl hsz hnn _).mono ?_
          rintro e w3 ⟨rfl, hb3⟩
          have HW3 := hide (HW.out.later hb3)
          have HBW3 := hide (HBW.out.trans (hb3.mono HBW.out.size))
          have hne := later_ne w3
          have hst : ∀ p : Later w3, _ := fun p => same_b (string_any _ _ _ _ (HW3.out.out.later p.below))
          have hz1 : ∀ p : Later w3, _ := fun p => same_b (size_any ox hxl p.val)
          have hz2 : ∀ p : Later w3, _ := fun p => same_b (rsize_any ox hxl p.val)
          obtain ⟨_, _, heq3, hbl3, _, f1, _, _⟩ := (hO.later HBW3.out).cells k _ hs.out
          obtain ⟨rfl, rfl⟩ := addr_inj heq3
          clear heq3
          simp only at f1
          have ff : ∀ p : Later w3, p.val.cell? ⟨g, off + k * 4 + 1, none⟩ = some (.int .u64 (ox : Nat)) := fun p => (p.below.cell hbl3).trans f1
          have HA := hsum
          clear hb3 d0 d1 d2 d3 f1
          generalize str (L ++ wT ok ox os on) = S2 at *
          generalize hT : str (wT ok ox os on) = TT at *
          generalize str L = S1 at *
          go_wp2
          refine wp_region_later (by kernel_rfl) (by kernel_rfl) ?_
          (repeat (first | go_big_quiet_skip | (go_big_quiet_want; go_big_quiet_op; go_big_quiet_on)))
          (go_big_quiet_want; go_big_quiet_op; apply Exists.intro; refine ⟨fun p => ?_, ?_⟩; (· exact later_of (hst p)); go_big_quiet_on)
          (repeat (first | go_big_quiet_skip | (go_big_quiet_want; go_big_quiet_op; go_big_quiet_on)))
          (go_big_quiet_want; go_big_quiet_op; apply Exists.intro; refine ⟨fun p => ?_, ?_⟩; (· exact later_of (hz1 p)); go_big_quiet_on)
          (repeat (first | go_big_quiet_skip | (go_big_quiet_want; go_big_quiet_op; go_big_quiet_on)))
          (go_big_quiet_want; go_big_quiet_op; apply Exists.intro; refine ⟨fun p => ?_, ?_⟩; (· exact later_of (hz2 p)); go_big_quiet_on)
          (repeat (first | go_big_quiet_skip | (go_big_quiet_want; go_big_quiet_op; go_big_quiet_on)))
          refine wpQuiet_nil ?_
          rintro _ ⟨p, rfl⟩
          go_wp2
          go_roundw
          case rel => exact ⟨k + 1, by omega, by go_num, HTk.out, v2, by rw [HLk.out]; exact HW3.out.later p.below⟩
          case measure => simp [intOf]; omega
      · have HBr2 := HBr
        clear hlen
        go_wp2_with fail
        refine (awake_any _).mono ?_
        rintro e w5 ⟨rfl, hb5⟩
        go_wp2
        go_ret
        exact ⟨rfl, HBr.out.trans (hb5.mono HBr.out.size)⟩

end Wi
end Go.Proofs.Ytnpnghdjdelemaa
