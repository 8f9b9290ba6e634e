/- The law ExtmapFew. -/
import Derived.Test.YtjbgojccfkmlnaaRd
import Derived.Test.YtjbgojccfkmlnaaRb
import Derived.Test.YtjbgojccfkmlnaaLa
namespace Go.Proofs.Ytjbgojccfkmlnaa
open Go.RowKit
namespace Wi

theorem rel_nil (n : Nat) : Rel [] rf0 n := fun i => by
  rw [if_neg (fun h => by have := h.2; cases this)]
  rfl
theorem rel_put {l : List Xt} {d : Rf} {n : Nat} {x : Xt} (h : Rel l d n) (hl : ∀ y ∈ l, y.fin ≤ x.at_) (hx : x.fin ≤ n) : Rel (l ++ [x]) (d.putN x x.len) n := fun i => by
  rw [spot_append]
  by_cases hi : x.at_ ≤ i ∧ i < x.at_ + x.len
  · have e1 : spot l i = none := spot_out fun y hy => .inr (Nat.le_trans (hl y hy) hi.1)
    have e2 : (d.putN x x.len).is i = true := if_pos hi
    have e3 : (d.putN x x.len).sq i = x.seq := if_pos hi
    have e4 : (d.putN x x.len).to i = x.to + (i - x.at_) := if_pos hi
    rw [e1, e2, e3, e4, Option.none_or, spot_in (x := x) hi.1 hi.2, if_pos ⟨by unfold Xt.fin at hx; omega, rfl⟩]
  · have e1 : spot [x] i = none := by rw [spot, if_neg (by unfold Xt.fin; exact hi)]; rfl
    have e2 : (d.putN x x.len).is i = d.is i := if_neg hi
    have e3 : (d.putN x x.len).sq i = d.sq i := if_neg hi
    have e4 : (d.putN x x.len).to i = d.to i := if_neg hi
    rw [e1, e2, e3, e4, Option.or_none]
    exact h i
theorem rf0_ok : rf0.Ok := fun i => ⟨by show 0 < _; omega, by show 0 < _; omega⟩
theorem Rf.Ok.put {d : Rf} (h : d.Ok) {x : Xt} (hs : x.Sm) : (d.putN x x.len).Ok := fun i => by
  obtain ⟨s1, s2, s3⟩ := hs
  by_cases hi : x.at_ ≤ i ∧ i < x.at_ + x.len
  · have e3 : (d.putN x x.len).sq i = x.seq := if_pos hi
    have e4 : (d.putN x x.len).to i = x.to + (i - x.at_) := if_pos hi
    rw [e3, e4]
    omega
  · have e3 : (d.putN x x.len).sq i = d.sq i := if_neg hi
    have e4 : (d.putN x x.len).to i = d.to i := if_neg hi
    rw [e3, e4]
    exact h i
theorem up_first {xs : List Ix} : ∀ {k : Nat}, upB xs k = true → k ≤ xs.length → ∀ y ∈ (xof xs).take k, (y.fin : Int) ≤ endB xs k
  | 0, _, _, y, hy => by simp at hy
  | k + 1, hu, hk, y, hy => by
    obtain ⟨x, hx⟩ : ∃ x, xs[k]? = some x := ⟨_, List.getElem?_eq_getElem (by omega)⟩
    have hm := upB_may hu k x (by omega) hx
    have hn := upB_next hx (upB_less hu)
    rw [hu, hm, Bool.true_and] at hn
    have hle := of_decide_eq_true hn.symm
    have he : endB xs (k + 1) = x.a + x.n := by rw [endB, hx]
    have hxx := Ix.x_ix hm
    have hf : (x.x.fin : Int) = x.a + x.n := by
      unfold Xt.fin
      have h1 := congrArg Ix.a hxx
      have h2 := congrArg Ix.n hxx
      simp only [Xt.ix] at h1 h2
      omega
    have h1 := (Ix.sm hm).2
    rw [List.take_add_one, xof_get hx] at hy
    rw [he]
    rcases List.mem_append.1 hy with hy | hy
    · have := up_first (upB_less hu) (by omega) y hy
      unfold Xt.fin at *
      have h2 := congrArg Ix.n hxx
      simp only [Xt.ix] at h2
      omega
    · simp at hy
      subst hy
      omega
/-- The document's map of so many extents that are put. -/
def putF (xs : List Ix) (k : Nat) : Rf := ((xof xs).take k).foldl (fun d x => d.putN x x.len) rf0
theorem putF_succ {xs : List Ix} {k : Nat} {x : Ix} (h : xs[k]? = some x) : putF xs (k + 1) = (putF xs k).putN x.x x.x.len := fold_take _ _ (xof_get h)
theorem putF_rel {xs : List Ix} (hfar : ∀ x ∈ xs, farB x.a x.n = false) : ∀ {k : Nat}, upB xs k = true → k ≤ xs.length → Rel ((xof xs).take k) (putF xs k) 300 ∧ (putF xs k).Ok
  | 0, _, _ => ⟨rel_nil 300, rf0_ok⟩
  | k + 1, hu, hk => by
    obtain ⟨x, hx⟩ : ∃ x, xs[k]? = some x := ⟨_, List.getElem?_eq_getElem (by omega)⟩
    have hm := upB_may hu k x (by omega) hx
    obtain ⟨h1, h2⟩ := putF_rel hfar (upB_less hu) (by omega)
    have hn := upB_next hx (upB_less hu)
    rw [hu, hm, Bool.true_and] at hn
    have hle := of_decide_eq_true hn.symm
    have hxx := Ix.x_ix hm
    have ha := congrArg Ix.a hxx
    have hb := congrArg Ix.n hxx
    simp only [Xt.ix] at ha hb
    have hff := hfar x (List.mem_of_getElem? hx)
    have hms : mayS x.a x.n = true := by
      have hm2 := hm
      unfold Ix.may mayX at hm2
      rw [Bool.and_eq_true] at hm2
      exact hm2.1
    unfold farB at hff
    rw [hms, Bool.true_and] at hff
    have h300 := of_decide_eq_false hff
    rw [putF_succ hx, List.take_add_one, xof_get hx]
    exact ⟨rel_put h1 (fun y hy => by have := up_first (upB_less hu) (by omega) y hy; omega) (by unfold Xt.fin; omega), h2.put (Ix.sm hm).1⟩
theorem up_ris {xs : List Ix} : ∀ {k : Nat}, upB xs k = true → k ≤ xs.length → Ris ((xof xs).take k)
  | 0, _, _ => trivial
  | k + 1, hu, hk => by
    obtain ⟨x, hx⟩ : ∃ x, xs[k]? = some x := ⟨_, List.getElem?_eq_getElem (by omega)⟩
    have hm := upB_may hu k x (by omega) hx
    have hn := upB_next hx (upB_less hu)
    rw [hu, hm, Bool.true_and] at hn
    have hle := of_decide_eq_true hn.symm
    have ha := congrArg Ix.a (Ix.x_ix hm)
    simp only [Xt.ix] at ha
    rw [List.take_add_one, xof_get hx]
    refine Ris.append (up_ris (upB_less hu) (by omega)) (show Ris [x.x] from (Ix.sm hm).2) fun y hy z hz => ?_
    simp at hz
    subst hz
    have := up_first (upB_less hu) (by omega) y hy
    omega
/-- What the law compares. -/
theorem few_eq {xs : List Ix} (hfar : ∀ x ∈ xs, farB x.a x.n = false) (hu : upB xs xs.length = true) : findN (putF xs xs.length) 0 300 = joinL (xof xs) := by
  obtain ⟨h1, _⟩ := putF_rel hfar hu (Nat.le_refl _)
  have hr := up_ris hu (Nat.le_refl _)
  have ht : (xof xs).take xs.length = xof xs := List.take_of_length_le (by simp [xof])
  rw [ht] at h1 hr
  refine can_eq (findN_can _ _ _) (join_can hr) fun i => ?_
  rw [findN_spot, join_spot hr, h1 i]
  by_cases hi : i < 300
  · by_cases hd : (putF xs xs.length).is i = true
    · rw [if_pos (by omega), if_pos hd, if_pos ⟨hi, hd⟩]
    · rw [if_pos (by omega), if_neg hd, if_neg (fun e => hd e.2)]
  · rw [if_neg (by omega), if_neg (fun e => hi e.1)]
set_option maxHeartbeats 8000000 in
set_option maxRecDepth 100000 in
theorem extmapFew_walk (a : Option Addr) (n cap : Nat) (xs : List Ix) (W : World) (h : Es W a n xs) (hn : n ≤ cap) : Calls Try.prog 5 #[.slice a n cap] W fun e w' => e = .returned (.bool true) ∧ Below W.heap.size W w' := by
  have HE := hide h
  have HL := hide h.len
  have hm := h.most
  clear h
  by_cases h40 : 40 < n
  · have hc := awake_any W
    go_enter Try.func5, Try.ntmps5
    go_wp2_with fail
    refine hc.mono ?_
    rintro e w1 ⟨rfl, hb1⟩
    have HB := hide hb1
    clear hc hb1
    go_wp2
    go_ret
    exact ⟨rfl, HB.out⟩
  · go_enter Try.func5, Try.ntmps5
    go_wp2
    go_loopw [3, 4] (fun s i wr => ∃ k : Nat, k ≤ n ∧ i = .int .i64 k ∧ s = .bool (upB xs k) ∧ (∀ (j : Nat) x, j < k → xs[j]? = some x → farB x.a x.n = false) ∧ Below W.heap.size W wr) (fun _ i _ => n - (intOf i).toNat)
    case atStart => exact ⟨0, Nat.zero_le _, rfl, rfl, fun j x h => by omega, Below.refl _ _⟩
    case round =>
      obtain ⟨k, hk, rfl, rfl, hall, hb⟩ := hrel
      by_cases hlt : k < n
      · obtain ⟨x, hx⟩ : ∃ x, xs[k]? = some x := ⟨_, List.getElem?_eq_getElem (by have := HL.out; omega)⟩
        have hr := HE.out.rng x (List.mem_of_getElem? hx)
        obtain ⟨g, off, rfl, hg, c0, c1, c2, c3⟩ := (HE.out.later hb).cells k x hx
        have HEA : Hid (∀ w', Below wr.heap.size wr w' → ∀ (j : Nat) y, xs[j]? = some y → w'.cell? ⟨g, off + j * 4, none⟩ = some (.int .i64 y.a) ∧ w'.cell? ⟨g, off + j * 4 + 1, none⟩ = some (.int .i64 y.n) ∧ w'.cell? ⟨g, off + j * 4 + 2, none⟩ = some (.int .i64 y.q) ∧ w'.cell? ⟨g, off + j * 4 + 3, none⟩ = some (.int .i64 y.t)) := fun w' hb2 j y hy => by
          obtain ⟨g', off', e, _, r0, r1, r2, r3⟩ := (HE.out.later (hb.trans (hb2.mono hb.size))).cells j y hy
          injection e with e
          injection e with e1 e2 _
          subst e1 e2
          exact ⟨r0, r1, r2, r3⟩
        have HEK : Hid (∀ w', Below wr.heap.size wr w' → _) := fun w' hb2 => HEA.out w' hb2 k x hx
        have hc := far_any x.a x.n x.q x.t hr.a hr.n wr
        have HB := hide hb
        have HX := hide hx
        have HALL := hide hall
        have HUN : Hid (upB xs k = true → _) := fun hu => upB_next hx hu
        have HUF : Hid (upB xs k = false → upB xs (k + 1) = false) := fun hu => by rw [upB, hu]; rfl
        have HUM : Hid (upB xs k = true → ∀ (j : Nat) y, j < k → xs[j]? = some y → y.may = true) := fun hu => upB_may hu
        have HR := hide hr
        obtain ⟨xa, xn, xq, xt⟩ := x
        simp only at *
        clear hx hb hall
        cases hf : farB xa xn with
        | true =>
          rw [hf] at hc
          clear hf
          go_wp2_with fail
          refine hc.mono ?_
          rintro e w2 ⟨rfl, hb2⟩
          have HB2 := hide (HB.out.trans (hb2.mono HB.out.size))
          have hc2 := awake_any w2
          clear hc hb2
          go_wp2_with fail
          refine hc2.mono ?_
          rintro e w3 ⟨rfl, hb3⟩
          have HB3 := hide (HB2.out.trans (hb3.mono HB2.out.size))
          clear hc2 hb3
          go_wp2
          go_ret
          exact ⟨rfl, HB3.out⟩
        | false =>
          rw [hf] at hc
          have HF0 := hide hf
          have HFA : Hid (∀ (j : Nat) y, j < k + 1 → xs[j]? = some y → farB y.a y.n = false) := fun j y hj hy => by
            by_cases e : j = k
            · subst e
              have := HX.out
              rw [hy] at this
              injection this with this
              rw [this]
              exact HF0.out
            · exact HALL.out j y (by omega) hy
          clear hf
          go_wp2_with fail
          refine hc.mono ?_
          rintro e w2 ⟨rfl, hb2⟩
          have HB2 := hide hb2
          clear hc hb2 c0 c1 c2 c3
          have p0 : ∀ P : Later w2, _ := fun P => (HEK.out P.val (HB2.out.trans (P.below.mono HB2.out.size))).1
          have p1 : ∀ P : Later w2, _ := fun P => (HEK.out P.val (HB2.out.trans (P.below.mono HB2.out.size))).2.1
          have p2 : ∀ P : Later w2, _ := fun P => (HEK.out P.val (HB2.out.trans (P.below.mono HB2.out.size))).2.2.1
          have p3 : ∀ P : Later w2, _ := fun P => (HEK.out P.val (HB2.out.trans (P.below.mono HB2.out.size))).2.2.2
          have hc1 : ∀ P : Later w2, _ := fun P => may_any xa xn xq xt HR.out.a HR.out.n P.val
          have hc2 : ∀ P : Later w2, _ := fun P => refmay_any xa xn xq xt HR.out.a HR.out.n P.val
          unfold vX at hc1
          have hne := later_ne w2
          cases hmx : mayX xa xn xq xt with
          | true =>
            rw [hmx] at hc1 hc2
            rw [show erB true = 0 from rfl] at hc1
            have HMX : Hid (Ix.may ⟨xa, xn, xq, xt⟩ = true) := hmx
            go_wp2
            refine wp_region_later (by kernel_rfl) (by kernel_rfl) ?_
            (repeat (first | go_big_quiet_skip | (go_big_quiet_want; go_big_quiet_op; go_big_quiet_on)))
            (go_big_quiet_want; go_big_quiet_op; apply Exists.intro; refine ⟨fun p => ?_, ?_⟩; (· exact later_of (hc1 p)); go_big_quiet_on)
            (repeat (first | go_big_quiet_skip | (go_big_quiet_want; go_big_quiet_op; go_big_quiet_on)))
            (go_big_quiet_want; go_big_quiet_op; apply Exists.intro; refine ⟨fun p => ?_, ?_⟩; (· exact later_of (hc2 p)); go_big_quiet_on)
            (repeat (first | go_big_quiet_skip | (go_big_quiet_want; go_big_quiet_op; go_big_quiet_on)))
            refine wpQuiet_nil ?_
            rintro _ ⟨P, rfl⟩
            have HB3 := hide (HB2.out.trans (P.below.mono HB2.out.size))
            clear p0 p1 p2 p3 hc1 hc2 hne
            generalize P.val = w3 at *
            have p0 : ∀ P : Later w3, _ := fun P => (HEK.out P.val (HB3.out.trans (P.below.mono HB3.out.size))).1
            have p1 : ∀ P : Later w3, _ := fun P => (HEK.out P.val (HB3.out.trans (P.below.mono HB3.out.size))).2.1
            have p2 : ∀ P : Later w3, _ := fun P => (HEK.out P.val (HB3.out.trans (P.below.mono HB3.out.size))).2.2.1
            have p3 : ∀ P : Later w3, _ := fun P => (HEK.out P.val (HB3.out.trans (P.below.mono HB3.out.size))).2.2.2
            have hc2 : ∀ P : Later w3, _ := fun P => refmay_any xa xn xq xt HR.out.a HR.out.n P.val
            rw [hmx] at hc2
            have hne := later_ne w3
            clear hmx
            cases hu : upB xs k with
            | false =>
              have HUK := hide (HUF.out hu)
              clear hu
              go_wp2
              refine wp_region_later (by kernel_rfl) (by kernel_rfl) ?_
              (repeat (first | go_big_quiet_skip | (go_big_quiet_want; go_big_quiet_op; go_big_quiet_on)))
              refine wpQuiet_nil ?_
              rintro _ ⟨P, rfl⟩
              have HB4 := hide (HB.out.trans ((HB3.out.trans (P.below.mono HB3.out.size)).mono HB.out.size))
              clear p0 p1 p2 p3 hc2 hne
              generalize P.val = w4 at *
              go_wp2
              go_roundw
              case rel => exact ⟨k + 1, by omega, by go_num, by rw [HUK.out], HFA.out, HB4.out⟩
              case measure => simp [intOf]; omega
            | true =>
              have HUK := hide (HUN.out hu)
              by_cases hk0 : k = 0
              · subst hk0
                have hx0 : 0 ≤ xa := by
                  have := HMX.out
                  unfold Ix.may mayX mayS at this
                  simp at this
                  omega
                have HUV : Hid (upB xs (0 + 1) = true) := by
                  show _ = _
                  rw [HUK.out, HMX.out, Bool.true_and]
                  exact decide_eq_true hx0
                clear hu
                simp only [Nat.zero_mul, Nat.add_zero] at p0 p1 p2 p3
                go_wp2
                refine wp_region_later (by kernel_rfl) (by kernel_rfl) ?_
                (repeat (first | go_big_quiet_skip | (go_big_quiet_want; go_big_quiet_op; go_big_quiet_on)))
                (go_big_quiet_want; go_big_quiet_op; apply Exists.intro; refine ⟨fun p => ?_, ?_⟩; (· exact later_of (hc2 p)); go_big_quiet_on)
                (repeat (first | go_big_quiet_skip | (go_big_quiet_want; go_big_quiet_op; go_big_quiet_on)))
                refine wpQuiet_nil ?_
                rintro _ ⟨P, rfl⟩
                have HB4 := hide (HB.out.trans ((HB3.out.trans (P.below.mono HB3.out.size)).mono HB.out.size))
                clear p0 p1 p2 p3 hc2 hne
                generalize P.val = w4 at *
                go_wp2
                go_roundw
                case rel => exact ⟨0 + 1, by omega, by go_num, by rw [HUV.out], HFA.out, HB4.out⟩
                case measure => simp [intOf]; omega
              · obtain ⟨j, hj⟩ : ∃ j, j + 1 = k := ⟨k - 1, by omega⟩
                obtain ⟨y, hy⟩ : ∃ y, xs[j]? = some y := ⟨_, List.getElem?_eq_getElem (by have := HL.out; omega)⟩
                have hym := HUM.out hu j y (by omega) hy
                have hyr := HE.out.rng y (List.mem_of_getElem? hy)
                have HEY : Hid (endB xs k = y.a + y.n) := by show _ = _; rw [← hj, endB, hy]
                have q0 : ∀ P : Later w3, _ := fun P => (HEA.out P.val (HB3.out.trans (P.below.mono HB3.out.size)) j y hy).1
                have q1 : ∀ P : Later w3, _ := fun P => (HEA.out P.val (HB3.out.trans (P.below.mono HB3.out.size)) j y hy).2.1
                have q2 : ∀ P : Later w3, _ := fun P => (HEA.out P.val (HB3.out.trans (P.below.mono HB3.out.size)) j y hy).2.2.1
                have q3 : ∀ P : Later w3, _ := fun P => (HEA.out P.val (HB3.out.trans (P.below.mono HB3.out.size)) j y hy).2.2.2
                have hc3 : ∀ P : Later w3, _ := fun P => refmay_any y.a y.n y.q y.t hyr.a hyr.n P.val
                rw [show mayX y.a y.n y.q y.t = true from hym] at hc3
                have hys : mayS y.a y.n = true := by
                  have := hym
                  unfold Ix.may mayX at this
                  rw [Bool.and_eq_true] at this
                  exact this.1
                obtain ⟨m1, m2, m3, m4⟩ := mayS_nat hys
                obtain ⟨ya, yn, yq, yt⟩ := y
                simp only at *
                have b1 : 0 ≤ ya := by omega
                have b2 : ya ≤ 65536 := by omega
                have b3 : 1 ≤ yn := by omega
                have b4 : yn ≤ 65536 := by omega
                have hwj : IntKind.i64.wrap ((k : Int) - 1) = (j : Int) := by rw [IntKind.wrap_i64]; omega
                have hwy : IntKind.i64.wrap (ya + yn) = ya + yn := by rw [IntKind.wrap_i64]; omega
                have hk1 : ((k : Int) == 0) = false := by simp; omega
                have hjn : j < n := by omega
                have HJ := hide hj
                clear hy hym hyr hys m1 m2 m3 m4 hu hj hk0
                by_cases hle : ya + yn ≤ xa
                · have HUV : Hid (upB xs (k + 1) = true) := by
                    show _ = _
                    rw [HUK.out, HMX.out, Bool.true_and, HEY.out]
                    exact decide_eq_true hle
                  have hd : decide (ya + yn ≤ xa) = true := decide_eq_true hle
                  go_wp2
                  refine wp_region_later (by kernel_rfl) (by kernel_rfl) ?_
                  (repeat (first | go_big_quiet_skip | (go_big_quiet_want; go_big_quiet_op; go_big_quiet_on)))
                  (go_big_quiet_want; go_big_quiet_op; apply Exists.intro; refine ⟨fun p => ?_, ?_⟩; (· exact later_of (hc2 p)); go_big_quiet_on)
                  (repeat (first | go_big_quiet_skip | (go_big_quiet_want; go_big_quiet_op; go_big_quiet_on)))
                  (go_big_quiet_want; go_big_quiet_op; apply Exists.intro; refine ⟨fun p => ?_, ?_⟩; (· exact later_of (hc3 p)); go_big_quiet_on)
                  (repeat (first | go_big_quiet_skip | (go_big_quiet_want; go_big_quiet_op; go_big_quiet_on)))
                  refine wpQuiet_nil ?_
                  rintro _ ⟨P, rfl⟩
                  have HB4 := hide (HB.out.trans ((HB3.out.trans (P.below.mono HB3.out.size)).mono HB.out.size))
                  clear p0 p1 p2 p3 hc2 hne q0 q1 q2 q3 hc3
                  generalize P.val = w4 at *
                  go_wp2
                  go_roundw
                  case rel => exact ⟨k + 1, by omega, by go_num, by rw [HUV.out], HFA.out, HB4.out⟩
                  case measure => simp [intOf]; omega
                · have HUV : Hid (upB xs (k + 1) = false) := by
                    show _ = _
                    rw [HUK.out, HMX.out, Bool.true_and, HEY.out]
                    exact decide_eq_false hle
                  have hd : decide (ya + yn ≤ xa) = false := decide_eq_false hle
                  go_wp2
                  refine wp_region_later (by kernel_rfl) (by kernel_rfl) ?_
                  (repeat (first | go_big_quiet_skip | (go_big_quiet_want; go_big_quiet_op; go_big_quiet_on)))
                  (go_big_quiet_want; go_big_quiet_op; apply Exists.intro; refine ⟨fun p => ?_, ?_⟩; (· exact later_of (hc2 p)); go_big_quiet_on)
                  (repeat (first | go_big_quiet_skip | (go_big_quiet_want; go_big_quiet_op; go_big_quiet_on)))
                  (go_big_quiet_want; go_big_quiet_op; apply Exists.intro; refine ⟨fun p => ?_, ?_⟩; (· exact later_of (hc3 p)); go_big_quiet_on)
                  (repeat (first | go_big_quiet_skip | (go_big_quiet_want; go_big_quiet_op; go_big_quiet_on)))
                  refine wpQuiet_nil ?_
                  rintro _ ⟨P, rfl⟩
                  have HB4 := hide (HB.out.trans ((HB3.out.trans (P.below.mono HB3.out.size)).mono HB.out.size))
                  clear p0 p1 p2 p3 hc2 hne q0 q1 q2 q3 hc3
                  generalize P.val = w4 at *
                  go_wp2
                  go_roundw
                  case rel => exact ⟨k + 1, by omega, by go_num, by rw [HUV.out], HFA.out, HB4.out⟩
                  case measure => simp [intOf]; omega
          | false =>
            rw [hmx] at hc1 hc2
            rw [show erB false = 1 from rfl] at hc1
            have HMX : Hid (Ix.may ⟨xa, xn, xq, xt⟩ = false) := hmx
            go_wp2
            refine wp_region_later (by kernel_rfl) (by kernel_rfl) ?_
            (repeat (first | go_big_quiet_skip | (go_big_quiet_want; go_big_quiet_op; go_big_quiet_on)))
            (go_big_quiet_want; go_big_quiet_op; apply Exists.intro; refine ⟨fun p => ?_, ?_⟩; (· exact later_of (hc1 p)); go_big_quiet_on)
            (repeat (first | go_big_quiet_skip | (go_big_quiet_want; go_big_quiet_op; go_big_quiet_on)))
            (go_big_quiet_want; go_big_quiet_op; apply Exists.intro; refine ⟨fun p => ?_, ?_⟩; (· exact later_of (hc2 p)); go_big_quiet_on)
            (repeat (first | go_big_quiet_skip | (go_big_quiet_want; go_big_quiet_op; go_big_quiet_on)))
            refine wpQuiet_nil ?_
            rintro _ ⟨P, rfl⟩
            have HB3 := hide (HB2.out.trans (P.below.mono HB2.out.size))
            clear p0 p1 p2 p3 hc1 hc2 hne
            generalize P.val = w3 at *
            have p0 : ∀ P : Later w3, _ := fun P => (HEK.out P.val (HB3.out.trans (P.below.mono HB3.out.size))).1
            have p1 : ∀ P : Later w3, _ := fun P => (HEK.out P.val (HB3.out.trans (P.below.mono HB3.out.size))).2.1
            have p2 : ∀ P : Later w3, _ := fun P => (HEK.out P.val (HB3.out.trans (P.below.mono HB3.out.size))).2.2.1
            have p3 : ∀ P : Later w3, _ := fun P => (HEK.out P.val (HB3.out.trans (P.below.mono HB3.out.size))).2.2.2
            have hc2 : ∀ P : Later w3, _ := fun P => refmay_any xa xn xq xt HR.out.a HR.out.n P.val
            rw [hmx] at hc2
            have hne := later_ne w3
            clear hmx
            cases hu : upB xs k with
            | false =>
              have HUK := hide (HUF.out hu)
              clear hu
              go_wp2
              refine wp_region_later (by kernel_rfl) (by kernel_rfl) ?_
              (repeat (first | go_big_quiet_skip | (go_big_quiet_want; go_big_quiet_op; go_big_quiet_on)))
              refine wpQuiet_nil ?_
              rintro _ ⟨P, rfl⟩
              have HB4 := hide (HB.out.trans ((HB3.out.trans (P.below.mono HB3.out.size)).mono HB.out.size))
              clear p0 p1 p2 p3 hc2 hne
              generalize P.val = w4 at *
              go_wp2
              go_roundw
              case rel => exact ⟨k + 1, by omega, by go_num, by rw [HUK.out], HFA.out, HB4.out⟩
              case measure => simp [intOf]; omega
            | true =>
              have HUK : Hid (upB xs (k + 1) = false) := by
                show _ = _
                rw [HUN.out hu, HMX.out, Bool.false_and]
              clear hu
              go_wp2
              refine wp_region_later (by kernel_rfl) (by kernel_rfl) ?_
              (repeat (first | go_big_quiet_skip | (go_big_quiet_want; go_big_quiet_op; go_big_quiet_on)))
              (go_big_quiet_want; go_big_quiet_op; apply Exists.intro; refine ⟨fun p => ?_, ?_⟩; (· exact later_of (hc2 p)); go_big_quiet_on)
              (repeat (first | go_big_quiet_skip | (go_big_quiet_want; go_big_quiet_op; go_big_quiet_on)))
              refine wpQuiet_nil ?_
              rintro _ ⟨P, rfl⟩
              have HB4 := hide (HB.out.trans ((HB3.out.trans (P.below.mono HB3.out.size)).mono HB.out.size))
              clear p0 p1 p2 p3 hc2 hne
              generalize P.val = w4 at *
              go_wp2
              go_roundw
              case rel => exact ⟨k + 1, by omega, by go_num, by rw [HUK.out], HFA.out, HB4.out⟩
              case measure => simp [intOf]; omega
      · obtain rfl : k = n := by omega
        have hfar : ∀ x ∈ xs, farB x.a x.n = false := fun x hx => by
          obtain ⟨j, hj, rfl⟩ := List.mem_iff_getElem.1 hx
          exact hall j _ (by have := HL.out; omega) (List.getElem?_eq_getElem hj)
        have HFAR := hide hfar
        have hc := progfew_any (HE.out.later hb) hn (by omega)
        have HB := hide hb
        clear hb hall hfar
        go_wp2_with fail
        refine hc.mono ?_
        rintro e w1 ⟨f, rfl, hf, hnf, hb1⟩
        have HB1 := hide (HB.out.trans (hb1.mono HB.out.size))
        have HN1 : Hid (From W.heap.size f) := fun i hi => Nat.le_trans HB.out.size (hnf i hi)
        have HF := hide hf
        clear hc hf hnf hb1
        cases hu : upB xs k with
        | false =>
          have hff : f = .slice none 0 0 := by
            have h := HF.out
            unfold FewP at h
            rw [hu] at h
            exact h
          subst hff
          have hc2 := awake_any w1
          clear hu
          go_wp2_with fail
          refine hc2.mono ?_
          rintro e w2 ⟨rfl, hb2⟩
          have HB2 := hide (HB1.out.trans (hb2.mono HB1.out.size))
          clear hc2 hb2
          go_wp2
          go_ret
          exact ⟨rfl, HB2.out⟩
        | true =>
          have hxf : Xs w1 f (joinL (xof xs)) := by
            have h := HF.out
            unfold FewP at h
            rw [hu] at h
            exact h
          have HM1 : Hid (Mine W w1 (listT f (joinL (xof xs)))) := ⟨fun i => f.ownBlock = some i, ⟨hxf, fun i => Iff.rfl⟩, fun i hi => HN1.out i hi, HB1.out⟩
          obtain ⟨fa, fc, rfl, _, _⟩ := hxf.len
          have HU := hide hu
          have HALLM : Hid (∀ x ∈ xs, x.may = true) := fun x hx => by
            obtain ⟨j, hj, rfl⟩ := List.mem_iff_getElem.1 hx
            exact upB_may hu j _ (by have := HL.out; omega) (List.getElem?_eq_getElem hj)
          have hc2 := refnew_any w1
          clear hxf hu
          go_wp2_with fail
          refine hc2.mono ?_
          rintro e w2 ⟨r, X, rfl, hr, hge, hb2⟩
          have HM2 := hide (Mine.new (listT_good _ _) HM1.out hb2 ⟨X, hr, hge⟩)
          clear hc2 hr hge hb2 HM1
          go_wp2
          go_loopw [7] (fun i wr => ∃ m : Nat, m ≤ k ∧ i = .int .i64 m ∧ Mine W wr ((refT r 300 (putF xs m)).and (listT (.slice fa (joinL (xof xs)).length fc) (joinL (xof xs))))) (fun i _ => k - (intOf i).toNat)
          case atStart => exact ⟨0, Nat.zero_le _, rfl, HM2.out⟩
          case round =>
            clear HM2
            obtain ⟨m, hmk, rfl, hM⟩ := hrel
            by_cases hlt2 : m < k
            · obtain ⟨x, hx⟩ : ∃ x, xs[m]? = some x := ⟨_, List.getElem?_eq_getElem (by have := HL.out; omega)⟩
              have hxm := HALLM.out x (List.mem_of_getElem? hx)
              have hps := putF_succ hx
              have hsm := Ix.sm hxm
              have hxx := Ix.x_ix hxm
              have hff := HFAR.out x (List.mem_of_getElem? hx)
              obtain ⟨g, off, rfl, hg, c0, c1, c2, c3⟩ := (HE.out.later hM.below).cells m x hx
              have ha := congrArg Ix.a hxx
              have hb := congrArg Ix.n hxx
              simp only [Xt.ix] at ha hb
              have hms : mayS x.a x.n = true := by
                have hm2 := hxm
                unfold Ix.may mayX at hm2
                rw [Bool.and_eq_true] at hm2
                exact hm2.1
              unfold farB at hff
              rw [hms, Bool.true_and] at hff
              have h300 := of_decide_eq_false hff
              rw [← hxx] at c0 c1 c2 c3
              obtain ⟨⟨s1, s2, s3⟩, s4⟩ := hsm
              unfold Xt.fin at s1
              obtain ⟨X, ⟨gi, gs, hR, hX⟩, hge, hgo⟩ := Mine.go (listT_good _ _) hM
              generalize hy : x.x = y at *
              obtain ⟨ya, yl, yq, yt⟩ := y
              simp only [Xt.ix] at *
              have hc3 := refput_any hR (by omega) ya yl yq yt (by omega) s3
              have HGO : Hid (∀ w', RefL wr w' r gi gs 300 ((putF xs m).putN ⟨ya, yl, yq, yt⟩ yl) → Mine W w' ((refT r 300 (putF xs (m + 1))).and (listT (.slice fa (joinL (xof xs)).length fc) (joinL (xof xs))))) := fun w' h => by rw [hps]; exact hgo (h.left hX)
              clear hM hR hX hge hgo hps hxx hff hms h300 ha hb hx hxm hy
              go_wp2_with fail
              refine hc3.mono ?_
              rintro e w3 ⟨rfl, hl3⟩
              have HM3 := hide (HGO.out w3 hl3)
              clear hc3 hl3 HGO
              go_wp2
              go_roundw
              case rel => exact ⟨m + 1, by omega, by go_num, HM3.out⟩
              case measure => simp [intOf]; omega
            · obtain rfl : m = k := by omega
              have HM := hide hM
              obtain ⟨hrel1, hok⟩ := putF_rel HFAR.out HU.out (by rw [← HL.out]; exact Nat.le_refl _)
              have HFE : Hid (findN (putF xs m) 0 300 = joinL (xof xs)) := by
                have := few_eq HFAR.out (by rw [← HL.out]; exact HU.out)
                rwa [← HL.out] at this
              obtain ⟨X, ⟨gi, gs, hR, hX⟩, hge, hgo⟩ := Mine.go (listT_good _ _) hM
              have hc3 := reffind_any hR hok (by omega) 0 300 (by omega)
              rw [HFE.out] at hc3
              clear hM hR hX hge hgo hrel1 hok
              go_wp2_with fail
              refine hc3.mono ?_
              rintro e w3 ⟨f3, rfl, hf3, hn3, hb3⟩
              have HM3 := hide (Mine.later ((refT_good _ _ _).and (listT_good _ _)) HM.out hb3)
              have hx3 : Xs w3 (.slice fa (joinL (xof xs)).length fc) (joinL (xof xs)) := by
                obtain ⟨_, ⟨_, _, _, h2, _⟩, _⟩ := HM3.out
                exact h2.1
              have hlen := joinL_len (xof xs)
              have hxl : (xof xs).length = m := by rw [HL.out]; simp [xof]
              have hc4 := same_yes hx3 hf3 (by omega)
              have HB3 := hide HM3.out.below
              clear hc3 hf3 hn3 hb3 hx3 HM3 HM hlen hxl
              go_wp2_with fail
              refine hc4.mono ?_
              rintro e w4 ⟨rfl, hb4⟩
              have HB4 := hide (HB3.out.trans (hb4.mono HB3.out.size))
              have hc5 := awake_any w4
              clear hc4 hb4
              go_wp2_with fail
              refine hc5.mono ?_
              rintro e w5 ⟨rfl, hb5⟩
              have HB5 := hide (HB4.out.trans (hb5.mono HB4.out.size))
              clear hc5 hb5
              go_wp2
              go_ret
              exact ⟨rfl, HB5.out⟩

end Wi
end Go.Proofs.Ytjbgojccfkmlnaa
