/- The document's bucket: Size, Get and List. -/
import Derived.Test.YthnhapjjgaicdaaRe
namespace Go.Proofs.Ythnhapjjgaicdaa
open Go.RowKit
namespace Wi

section
variable {w : World} {b : Nat} {X : Nat → Prop} {d : Bk}
set_option maxHeartbeats 4000000 in
theorem rsize_any (h : refT b d w X) (ho : d.objs.length ≤ 900000) (hf : d.fates.length ≤ 1000000) (s : ByteArray) (hs : s.size ≤ 9223372036854775807) : Calls Try.prog 34 #[.pointer (some ⟨b, 0, none⟩), .string s] w fun e w' => e = .returned (.tuple #[.int .i64 (d.sizeN s : Nat), .int .i64 (d.sizeE s)]) ∧ LeftT (refT b (d.ask (nameB s))) w X w' := by
  have hnm := rname_any s hs w
  cases hn : nameB s with
  | false =>
    have e1 : d.sizeN s = 0 := by simp [Bk.sizeN, hn]
    have e2 : d.sizeE s = 1 := by simp [Bk.sizeE, hn]
    rw [e1, e2, show d.ask false = d from rfl]
    rw [hn] at hnm
    have HL := hide (LeftT.refl h)
    clear h hn e1 e2
    go_enter Try.func34, Try.ntmps34
    go_wp2_with fail
    refine hnm.mono ?_
    rintro e w' ⟨rfl, rfl⟩
    clear hnm
    go_wp2
    go_ret2
    exact ⟨rfl, HL.out⟩
  | true =>
    have e1 : d.sizeN s = (d.fetchS s).size := by simp [Bk.sizeN, hn]
    have e2 : d.sizeE s = d.fetchE s := by simp [Bk.sizeE, hn]
    rw [e1, e2, show d.ask true = d.next from rfl]
    rw [hn] at hnm
    have hft := rnext_any h hf
    have hok := h.ok
    have hlt4 := fate_lt hok
    by_cases e0 : d.fate0 = 0
    · rw [show d.fetchE s = if foundB d.objs s then 0 else 15 by simp [Bk.fetchE, e0], show d.fetchS s = (got d.objs s).getD { data := #[] } by simp [Bk.fetchS, e0]]
      rw [e0] at hft
      clear e0 h hlt4 e1 e2 hn
      cases hfd : foundB d.objs s with
      | false =>
        rw [got_none hok.rise (foundB_none hfd)]
        simp only [Bool.false_eq_true, if_false, Option.getD_none]
        go_enter Try.func34, Try.ntmps34
        go_wp2_with fail
        refine hnm.mono ?_
        rintro e w' ⟨rfl, rfl⟩
        clear hnm
        go_wp2_with fail
        refine hft.mono ?_
        rintro e w2 ⟨rfl, hl2⟩
        have HL := hide hl2
        obtain ⟨X2, ⟨ov, fv, lv, fs, h2, _, _, hok2, _⟩, _⟩ := hl2
        have hfi := rfind_any h2 hok2.rise (show d.next.objs.length ≤ 1000000 by show d.objs.length ≤ _; omega) s
        rw [show d.next.objs = d.objs from rfl, show idxOf d.objs s = -1 by simp [idxOf, hfd]] at hfi
        clear hft h2 hok2
        go_wp2_with fail
        refine hfi.mono ?_
        rintro e w3 ⟨rfl, hww⟩
        subst hww
        clear hfi
        go_wp2
        go_ret2
        exact ⟨rfl, HL.out⟩
      | true =>
        obtain ⟨o, hoo, hos⟩ := foundB_some hfd
        have hsz : o.2.size ≤ 9223372036854775807 := by
          have h1 := mem_total (List.mem_of_getElem? hoo)
          have h2 := hok.room
          have h3 := hok.most
          omega
        rw [got_some hok.rise hoo hos]
        simp only [if_true, Option.getD_some]
        go_enter Try.func34, Try.ntmps34
        go_wp2_with fail
        refine hnm.mono ?_
        rintro e w' ⟨rfl, rfl⟩
        clear hnm
        go_wp2_with fail
        refine hft.mono ?_
        rintro e w2 ⟨rfl, hl2⟩
        have HL := hide hl2
        obtain ⟨X2, ⟨ov, fv, lv, fs, h2, _, _, hok2, _⟩, _⟩ := hl2
        have hfi := rfind_any h2 hok2.rise (show d.next.objs.length ≤ 1000000 by show d.objs.length ≤ _; omega) s
        rw [show d.next.objs = d.objs from rfl, show idxOf d.objs s = (place d.objs s : Nat) by simp [idxOf, hfd]] at hfi
        have hlt : place d.objs s < d.objs.length := (List.getElem?_eq_some_iff.1 hoo).1
        obtain ⟨g, off, cap, rfl, hgl, hnc, hcm⟩ := h2.os.pos (show 0 < d.next.objs.length by show 0 < d.objs.length; omega)
        have k0 := h2.c.1
        have k1 := (rob_cells h2.os hoo).2
        rw [show d.next.objs = d.objs from rfl] at k0
        clear hft h2 hok2 hfd hoo hos
        generalize place d.objs s = P at *
        generalize d.objs.length = N at *
        obtain ⟨O1, O2⟩ := o
        simp only at *
        go_wp2_with fail
        refine hfi.mono ?_
        rintro e w3 ⟨rfl, hww⟩
        subst hww
        clear hfi
        go_wp2
        go_ret2
        exact ⟨rfl, HL.out⟩
    · rw [show d.fetchE s = 34 by simp [Bk.fetchE, e0], show d.fetchS s = { data := #[] } by simp [Bk.fetchS, e0]]
      clear h hn e1 e2
      obtain ⟨f, hf0⟩ : ∃ f, d.fate0 = f := ⟨_, rfl⟩
      rw [hf0] at hft e0 hlt4
      have b0 : ((f : Int) == 0) = false := by simp; omega
      have b1 : ((f : Int) != 0) = true := by simp; omega
      clear hf0
      go_enter Try.func34, Try.ntmps34
      go_wp2_with fail
      refine hnm.mono ?_
      rintro e w' ⟨rfl, rfl⟩
      clear hnm
      go_wp2_with fail
      refine hft.mono ?_
      rintro e w2 ⟨rfl, hl2⟩
      have HL := hide hl2
      clear hft hl2
      go_wp2
      go_ret2
      exact ⟨rfl, HL.out⟩
set_option maxHeartbeats 8000000 in
theorem rget_any (h : refT b d w X) (ho : d.objs.length ≤ 900000) (hf : d.fates.length ≤ 1000000) (s : ByteArray) (hs : s.size ≤ 9223372036854775807) (a n : Int) (ha : Num a) (hn : Num n) : Calls Try.prog 33 #[.pointer (some ⟨b, 0, none⟩), .string s, .int .i64 a, .int .i64 n] w fun e w' => e = .returned (.tuple #[.string (d.getS s a n), .int .i64 (d.getE s a n)]) ∧ LeftT (refT b (d.ask (Bk.askOk s a n))) w X w' := by
  have hnm := rname_any s hs w
  obtain ⟨a1, a2⟩ := ha
  obtain ⟨n1, n2⟩ := hn
  cases hk : Bk.askOk s a n with
  | false =>
    have e1 : d.getE s a n = 1 := by simp [Bk.getE, hk]
    have e2 : d.getS s a n = { data := #[] } := by simp [Bk.getS, e1]
    rw [e1, e2, show d.ask false = d from rfl]
    have HL := hide (LeftT.refl h)
    clear h e1 e2
    cases hnb : nameB s with
    | false =>
      rw [hnb] at hnm
      clear hk hnb
      go_enter Try.func33, Try.ntmps33
      go_wp2_with fail
      refine hnm.mono ?_
      rintro e w' ⟨rfl, rfl⟩
      clear hnm
      go_wp2
      go_ret2
      exact ⟨rfl, HL.out⟩
    | true =>
      have hor : a < 0 ∨ n < 0 := by
        rw [Bk.askOk, hnb] at hk
        simp at hk
        omega
      rw [hnb] at hnm
      clear hk hnb
      by_cases h1 : a < 0
      · go_enter Try.func33, Try.ntmps33
        go_wp2_with fail
        refine hnm.mono ?_
        rintro e w' ⟨rfl, rfl⟩
        clear hnm
        go_wp2
        go_ret2
        exact ⟨rfl, HL.out⟩
      · have h2 : n < 0 := by omega
        have h3 : 0 ≤ a := by omega
        clear hor h1
        go_enter Try.func33, Try.ntmps33
        go_wp2_with fail
        refine hnm.mono ?_
        rintro e w' ⟨rfl, rfl⟩
        clear hnm
        go_wp2
        go_ret2
        exact ⟨rfl, HL.out⟩
  | true =>
    have hk' := hk
    simp only [Bk.askOk, Bool.and_eq_true, decide_eq_true_eq] at hk'
    obtain ⟨⟨hnb, h3⟩, h4⟩ := hk'
    obtain ⟨A, rfl⟩ := Int.eq_ofNat_of_zero_le h3
    obtain ⟨N0, rfl⟩ := Int.eq_ofNat_of_zero_le h4
    rw [hnb] at hnm
    rw [show d.ask true = d.next from rfl]
    have hft := rnext_any h hf
    have hok := h.ok
    have hlt4 := fate_lt hok
    by_cases e0 : d.fate0 = 0
    · rw [e0] at hft
      cases hfd : foundB d.objs s with
      | false =>
        have x1 : d.fetchE s = 15 := by simp [Bk.fetchE, e0, hfd]
        have e1 : d.getE s A N0 = 15 := by simp [Bk.getE, hk, x1]
        have e2 : d.getS s A N0 = { data := #[] } := by simp [Bk.getS, e1]
        rw [e1, e2]
        clear h hk hnb e1 e2 e0 hlt4 x1
        go_enter Try.func33, Try.ntmps33
        go_wp2_with fail
        refine hnm.mono ?_
        rintro e w' ⟨rfl, rfl⟩
        clear hnm
        go_wp2_with fail
        refine hft.mono ?_
        rintro e w2 ⟨rfl, hl2⟩
        have HL := hide hl2
        obtain ⟨X2, ⟨ov, fv, lv, fs, h2, _, _, hok2, _⟩, _⟩ := hl2
        have hfi := rfind_any h2 hok2.rise (show d.next.objs.length ≤ 1000000 by show d.objs.length ≤ _; omega) s
        rw [show d.next.objs = d.objs from rfl, show idxOf d.objs s = -1 by simp [idxOf, hfd]] at hfi
        clear hft h2 hok2
        go_wp2_with fail
        refine hfi.mono ?_
        rintro e w3 ⟨rfl, hww⟩
        subst hww
        clear hfi
        go_wp2
        go_ret2
        exact ⟨rfl, HL.out⟩
      | true =>
        obtain ⟨o, hoo, hos⟩ := foundB_some hfd
        have hsz : o.2.size ≤ 9223372036854775807 := by
          have h1 := mem_total (List.mem_of_getElem? hoo)
          have h2 := hok.room
          have h3 := hok.most
          omega
        have x1 : d.fetchE s = 0 := by simp [Bk.fetchE, e0, hfd]
        have x2 : d.fetchS s = o.2 := by simp [Bk.fetchS, e0, got_some hok.rise hoo hos]
        by_cases hA : o.2.size < A
        · have e1 : d.getE s A N0 = 31 := by simp [Bk.getE, hk, x1, x2, hA]
          have e2 : d.getS s A N0 = { data := #[] } := by simp [Bk.getS, e1]
          rw [e1, e2]
          clear h hk hnb e1 e2 e0 hlt4 x1 x2
          go_enter Try.func33, Try.ntmps33
          go_wp2_with fail
          refine hnm.mono ?_
          rintro e w' ⟨rfl, rfl⟩
          clear hnm
          go_wp2_with fail
          refine hft.mono ?_
          rintro e w2 ⟨rfl, hl2⟩
          have HL := hide hl2
          obtain ⟨X2, ⟨ov, fv, lv, fs, h2, _, _, hok2, _⟩, _⟩ := hl2
          have hfi := rfind_any h2 hok2.rise (show d.next.objs.length ≤ 1000000 by show d.objs.length ≤ _; omega) s
          rw [show d.next.objs = d.objs from rfl, show idxOf d.objs s = (place d.objs s : Nat) by simp [idxOf, hfd]] at hfi
          have hlt : place d.objs s < d.objs.length := (List.getElem?_eq_some_iff.1 hoo).1
          obtain ⟨g, off, cap, rfl, hgl, hnc, hcm⟩ := h2.os.pos (show 0 < d.next.objs.length by show 0 < d.objs.length; omega)
          have k0 := h2.c.1
          have k1 := (rob_cells h2.os hoo).2
          rw [show d.next.objs = d.objs from rfl] at k0
          clear hft h2 hok2 hfd hoo hos
          generalize place d.objs s = P at *
          generalize d.objs.length = N at *
          obtain ⟨O1, O2⟩ := o
          simp only at *
          go_wp2_with fail
          refine hfi.mono ?_
          rintro e w3 ⟨rfl, hww⟩
          subst hww
          clear hfi
          go_wp2
          go_ret2
          exact ⟨rfl, HL.out⟩
        · have e1 : d.getE s A N0 = 0 := by simp [Bk.getE, hk, x1, x2]; omega
          have e2 : d.getS s A N0 = cutOf o.2 A N0 := by simp [Bk.getS, e1, x2]
          rw [e1, e2]
          clear h hk hnb e1 e2 e0 hlt4 x1 x2
          have hA' : A ≤ o.2.size := by omega
          obtain ⟨T, hT⟩ : ∃ T, T = o.2.extract A o.2.size := ⟨_, rfl⟩
          have hTz : T.size ≤ o.2.size := by rw [hT, ByteArray.size_extract]; omega
          have HT : Hid (cutOf o.2 A N0 = T.extract 0 (min N0 T.size)) := by
            show _ = _
            unfold cutOf
            rw [show ((A : Int)).toNat = A by omega, ← hT, show (min (N0 : Int) (T.size : Int)).toNat = min N0 T.size by omega]
          rw [HT.out]
          by_cases hm : N0 < T.size
          · rw [Nat.min_eq_left (by omega)]
            have hTe : o.2.extract A o.2.size = T := hT.symm
            clear hT HT
            go_enter Try.func33, Try.ntmps33
            go_wp2_with fail
            refine hnm.mono ?_
            rintro e w' ⟨rfl, rfl⟩
            clear hnm
            go_wp2_with fail
            refine hft.mono ?_
            rintro e w2 ⟨rfl, hl2⟩
            have HL := hide hl2
            obtain ⟨X2, ⟨ov, fv, lv, fs, h2, _, _, hok2, _⟩, _⟩ := hl2
            have hfi := rfind_any h2 hok2.rise (show d.next.objs.length ≤ 1000000 by show d.objs.length ≤ _; omega) s
            rw [show d.next.objs = d.objs from rfl, show idxOf d.objs s = (place d.objs s : Nat) by simp [idxOf, hfd]] at hfi
            have hlt : place d.objs s < d.objs.length := (List.getElem?_eq_some_iff.1 hoo).1
            obtain ⟨g, off, cap, rfl, hgl, hnc, hcm⟩ := h2.os.pos (show 0 < d.next.objs.length by show 0 < d.objs.length; omega)
            have k0 := h2.c.1
            have k1 := (rob_cells h2.os hoo).2
            rw [show d.next.objs = d.objs from rfl] at k0
            clear hft h2 hok2 hfd hoo hos
            generalize place d.objs s = P at *
            generalize d.objs.length = N at *
            obtain ⟨O1, O2⟩ := o
            simp only at *
            go_wp2_with fail
            refine hfi.mono ?_
            rintro e w3 ⟨rfl, hww⟩
            subst hww
            clear hfi
            go_wp2
            go_ret2
            exact ⟨rfl, HL.out⟩
          · rw [Nat.min_eq_right (by omega), show T.extract 0 T.size = T by simp]
            have hm2 : T.size ≤ N0 := by omega
            have hTe : o.2.extract A o.2.size = T := hT.symm
            clear hT HT
            go_enter Try.func33, Try.ntmps33
            go_wp2_with fail
            refine hnm.mono ?_
            rintro e w' ⟨rfl, rfl⟩
            clear hnm
            go_wp2_with fail
            refine hft.mono ?_
            rintro e w2 ⟨rfl, hl2⟩
            have HL := hide hl2
            obtain ⟨X2, ⟨ov, fv, lv, fs, h2, _, _, hok2, _⟩, _⟩ := hl2
            have hfi := rfind_any h2 hok2.rise (show d.next.objs.length ≤ 1000000 by show d.objs.length ≤ _; omega) s
            rw [show d.next.objs = d.objs from rfl, show idxOf d.objs s = (place d.objs s : Nat) by simp [idxOf, hfd]] at hfi
            have hlt : place d.objs s < d.objs.length := (List.getElem?_eq_some_iff.1 hoo).1
            obtain ⟨g, off, cap, rfl, hgl, hnc, hcm⟩ := h2.os.pos (show 0 < d.next.objs.length by show 0 < d.objs.length; omega)
            have k0 := h2.c.1
            have k1 := (rob_cells h2.os hoo).2
            rw [show d.next.objs = d.objs from rfl] at k0
            clear hft h2 hok2 hfd hoo hos
            generalize place d.objs s = P at *
            generalize d.objs.length = N at *
            obtain ⟨O1, O2⟩ := o
            simp only at *
            go_wp2_with fail
            refine hfi.mono ?_
            rintro e w3 ⟨rfl, hww⟩
            subst hww
            clear hfi
            go_wp2
            go_ret2
            exact ⟨rfl, HL.out⟩
    · have x1 : d.fetchE s = 34 := by simp [Bk.fetchE, e0]
      have e1 : d.getE s A N0 = 34 := by simp [Bk.getE, hk, x1]
      have e2 : d.getS s A N0 = { data := #[] } := by simp [Bk.getS, e1]
      rw [e1, e2]
      clear h hk hnb e1 e2 x1
      obtain ⟨f, hf0⟩ : ∃ f, d.fate0 = f := ⟨_, rfl⟩
      rw [hf0] at hft e0 hlt4
      have b0 : ((f : Int) == 0) = false := by simp; omega
      have b1 : ((f : Int) != 0) = true := by simp; omega
      clear hf0
      go_enter Try.func33, Try.ntmps33
      go_wp2_with fail
      refine hnm.mono ?_
      rintro e w' ⟨rfl, rfl⟩
      clear hnm
      go_wp2_with fail
      refine hft.mono ?_
      rintro e w2 ⟨rfl, hl2⟩
      have HL := hide hl2
      clear hft hl2
      go_wp2
      go_ret2
      exact ⟨rfl, HL.out⟩
theorem names_snoc {l : List Ob} {k : Nat} {o : Ob} (h : l[k]? = some o) (p : ByteArray) : namesOf (l.take (k + 1)) p = namesOf (l.take k) p ++ (if begins o.1 p then [o.1] else []) := by
  unfold namesOf
  rw [snoc_take _ _ _ h, List.filter_append, List.map_append]
  congr 1
  cases hb : begins o.1 p <;> simp [hb]
set_option maxHeartbeats 8000000 in
theorem rlist_any (h : refT b d w X) (ho : d.objs.length ≤ 900000) (hf : d.fates.length ≤ 1000000) (hz : ∀ o ∈ d.objs, o.1.size ≤ 9223372036854775807) (p : ByteArray) (_hp : p.size ≤ 9223372036854775807) : Calls Try.prog 35 #[.pointer (some ⟨b, 0, none⟩), .string p] w fun e w' => ∃ v w1, e = .returned (.tuple #[v, .int .i64 d.listE]) ∧ LeftT (refT b d.next) w X w1 ∧ NewSs w1 (d.listL p) w' v := by
  obtain ⟨i0, hi, hz0, hz1, hz2⟩ := info_parts info9
  have hft := rnext_any h hf
  have hok := h.ok
  have hlt4 := fate_lt hok
  by_cases e0 : d.fate0 = 0
  · rw [show d.listE = 0 by simp [Bk.listE, e0], show d.listL p = namesOf d.objs p by simp [Bk.listL, e0]]
    rw [e0] at hft
    clear e0 h hlt4
    go_enter Try.func35, Try.ntmps35
    go_wp2_with fail
    refine hft.mono ?_
    rintro e w2 ⟨rfl, hl2⟩
    have HL := hide hl2
    obtain ⟨X2, ⟨ov, fv, lv, fs, h2, _, _, hok2, _⟩, _⟩ := hl2
    have c0 := h2.c.1
    have lB := h2.lt
    obtain ⟨a, cap, rfl⟩ := h2.os.form
    have HOS := hide h2.os
    rw [show d.next.objs = d.objs from rfl] at c0 HOS
    have HZ := hide hz
    clear hft h2 hok2 hok hz
    have HN : d.objs.length ≤ 900000 := ho
    generalize hNN : d.objs.length = N at *
    have HNN := hide hNN
    clear hNN
    have HS : Hid (NewSs w2 (namesOf (d.objs.take 0) p) w2 (.slice none 0 0)) := ⟨Rw.nil _ _ _, From.nil _ _ _, Below.refl _ _⟩
    go_wp2
    go_loopw [6, 7] (fun v i wr => ∃ k : Nat, k ≤ N ∧ i = .int .i64 k ∧ NewSs w2 (namesOf (d.objs.take k) p) wr v) (fun _ i _ => N - (intOf i).toNat)
    case atStart => exact ⟨0, Nat.zero_le _, rfl, HS.out⟩
    case round =>
      clear HS
      obtain ⟨k, hk, rfl, hN⟩ := hrel
      have q0 := (hN.below.cell (p := ⟨b, 0, none⟩) lB).trans c0
      by_cases hlt : k < N
      · obtain ⟨o, hoo⟩ : ∃ o, d.objs[k]? = some o := ⟨_, List.getElem?_eq_getElem (by have := HNN.out; omega)⟩
        have hoz := HZ.out o (List.mem_of_getElem? hoo)
        have hD := HOS.out.later hN.below
        obtain ⟨g, off, cap', hv, hgl, _⟩ := hD.pos (by omega)
        injection hv with x1 x2 x3
        subst x1 x3
        clear x2
        rw [← HNN.out] at hD
        obtain ⟨t0, t1⟩ := rob_cells hD hoo
        have HT := hide (names_snoc hoo p)
        have hlen : (namesOf (d.objs.take k) p).length ≤ 900000 := by
          have h1 := namesOf_length (d.objs.take k) p
          rw [List.length_take] at h1
          omega
        clear hD hoo
        obtain ⟨O1, O2⟩ := o
        simp only at *
        cases hbg : begins O1 p with
        | true =>
          have HF0 : Hid (namesOf (d.objs.take (k + 1)) p = namesOf (d.objs.take k) p ++ [O1]) := by show _ = _; rw [HT.out, hbg]; rfl
          have hb4 := below_alloc wr (.cells #[.string O1] 9)
          have hN4 := hN.later hb4
          have hrow := hide hN4.row
          have HN4 := hide hN4
          have HCN := hide (cell_one_new wr (.string O1) 9)
          have HON : Hid (∀ u ∈ [Value.string O1], u.oneCell' = true) := fun u hu => by rw [List.mem_singleton.1 hu]; rfl
          have hmx : (namesOf (d.objs.take k) p).length + 1 ≤ maxLen := by unfold maxLen; omega
          have hby : ((namesOf (d.objs.take k) p).length + 1) * 16 ≤ 140737488355328 := by omega
          rw [begins_eq] at hbg
          obtain ⟨hsz, hex⟩ := of_decide_eq_true hbg
          have v1 : (p.toList == p.toList) = true := beq_lists rfl
          clear hN hN4 hb4 hbg hlen HT
          go_wp2_with (at_builtin; refine wpList_append_rw rfl (.tmp 42) (.tmp 44) 36 rfl 9 i0 _ 1 16 Try.underlying36 hi hz0 hz1 hz2 rfl (by decide) _ _ _ rfl hrow.out ⟨wr.heap.size, 0, none⟩ 1 1 [.string O1] rfl rfl HCN.out HON.out hmx hby ?_; intro v2 w3 g1 g2 g3; replace g1 := hide g1; replace g2 := hide g2; replace g3 := hide g3)
          have HF : Hid (NewSs w2 (namesOf (d.objs.take (k + 1)) p) w3 v2) := by
            have := HN4.out.push (Below.refl _ _) g1.out g2.out g3.out
            show NewSs _ _ _ _
            rw [HF0.out]
            exact this
          clear g1 g2 g3
          go_roundw
          case rel => exact ⟨k + 1, by omega, by go_num, HF.out⟩
          case measure => simp [intOf]; omega
        | false =>
          have HF0 : Hid (namesOf (d.objs.take (k + 1)) p = namesOf (d.objs.take k) p) := by show _ = _; rw [HT.out, hbg]; simp
          have HF := hide hN
          rw [← HF0.out] at HF
          rw [begins_eq] at hbg
          have hbg := of_decide_eq_false hbg
          clear hN hlen HT
          by_cases hsz : p.size ≤ O1.size
          · obtain ⟨T, hT⟩ : ∃ T, O1.extract 0 p.size = T := ⟨_, rfl⟩
            have v1 : (T.toList == p.toList) = false := bne_lists fun e => hbg ⟨hsz, hT.trans e⟩
            clear hbg
            go_wp2
            go_roundw
            case rel => exact ⟨k + 1, by omega, by go_num, HF.out⟩
            case measure => simp [intOf]; omega
          · clear hbg
            go_wp2
            go_roundw
            case rel => exact ⟨k + 1, by omega, by go_num, HF.out⟩
            case measure => simp [intOf]; omega
      · obtain rfl : k = N := by omega
        have HF := hide hN
        rw [← HNN.out, List.take_length] at HF
        clear hN
        go_wp2
        go_ret2
        exact ⟨_, _, rfl, HL.out, HF.out⟩
  · rw [show d.listE = 34 by simp [Bk.listE, e0], show d.listL p = [] by simp [Bk.listL, e0]]
    obtain ⟨f, hf0⟩ : ∃ f, d.fate0 = f := ⟨_, rfl⟩
    rw [hf0] at hft e0 hlt4
    have b0 : ((f : Int) == 0) = false := by simp; omega
    have b1 : ((f : Int) != 0) = true := by simp; omega
    clear hf0 h
    go_enter Try.func35, Try.ntmps35
    go_wp2_with fail
    refine hft.mono ?_
    rintro e w2 ⟨rfl, hl2⟩
    have HL := hide hl2
    clear hft hl2
    go_wp2
    go_ret2
    exact ⟨_, _, rfl, HL.out, ⟨Rw.nil _ _ _, From.nil _ _ _, Below.refl _ _⟩⟩
end

end Wi
end Go.Proofs.Ythnhapjjgaicdaa
