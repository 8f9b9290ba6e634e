/- The document's bucket: names, fates, where an object is, how many bytes there are. -/
import Derived.Test.YthnhapjjgaicdaaRa
namespace Go.Proofs.Ythnhapjjgaicdaa
open Go.RowKit
namespace Wi

set_option maxHeartbeats 8000000 in
theorem rname_any (s : ByteArray) (hs : s.size ≤ 9223372036854775807) (w : World) : Calls Try.prog 50 #[.string s] w fun e w' => e = .returned (.bool (nameB s)) ∧ w' = w := by
  go_enter Try.func50, Try.ntmps50
  go_wp2
  go_loop [3] (fun i => ∃ k : Nat, k ≤ s.size ∧ i = .int .i64 k ∧ Hid (((bs s).take k).all nb = true)) (fun i => s.size - (intOf i).toNat)
  case atStart => exact ⟨0, Nat.zero_le _, rfl, by show _ = _; simp⟩
  case round =>
    obtain ⟨k, hk, rfl, hA⟩ := hrel
    by_cases hlt : k < s.size
    · have hg := bs_get s k hlt
      have hlt256 : s[k].toNat < 256 := s[k].toNat_lt
      have HS := hide (snoc_take _ _ _ hg)
      have HM := hide (List.mem_of_getElem? hg)
      clear hg
      cases hb : nb s[k].toNat with
      | true =>
        have HN : Hid (((bs s).take (k + 1)).all nb = true) := by
          show _ = _
          rw [HS.out, List.all_append, hA.out]
          simp [hb]
        unfold nb at hb
        simp only [decide_eq_true_eq] at hb
        rcases hb with h1 | h1 | h1 | h1 | ⟨h1, h2⟩ | ⟨h1, h2⟩
        · have l1 : s[k].toNat < 48 := by omega
          have e46 : ((s[k].toNat : Int) == 46) = true := by rw [h1]; rfl
          have n46 : ((s[k].toNat : Int) != 46) = false := by rw [h1]; rfl
          have e45 : ((s[k].toNat : Int) == 45) = false := by rw [h1]; rfl
          have n45 : ((s[k].toNat : Int) != 45) = true := by rw [h1]; rfl
          have e95 : ((s[k].toNat : Int) == 95) = false := by rw [h1]; rfl
          have n95 : ((s[k].toNat : Int) != 95) = true := by rw [h1]; rfl
          have e47 : ((s[k].toNat : Int) == 47) = false := by rw [h1]; rfl
          have n47 : ((s[k].toNat : Int) != 47) = true := by rw [h1]; rfl
          clear h1
          go_wp2
          go_round
          case rel => exact ⟨k + 1, by omega, by go_num, HN⟩
          case measure => simp [intOf]; omega
        · have l1 : s[k].toNat < 48 := by omega
          have e46 : ((s[k].toNat : Int) == 46) = false := by rw [h1]; rfl
          have n46 : ((s[k].toNat : Int) != 46) = true := by rw [h1]; rfl
          have e45 : ((s[k].toNat : Int) == 45) = true := by rw [h1]; rfl
          have n45 : ((s[k].toNat : Int) != 45) = false := by rw [h1]; rfl
          have e95 : ((s[k].toNat : Int) == 95) = false := by rw [h1]; rfl
          have n95 : ((s[k].toNat : Int) != 95) = true := by rw [h1]; rfl
          have e47 : ((s[k].toNat : Int) == 47) = false := by rw [h1]; rfl
          have n47 : ((s[k].toNat : Int) != 47) = true := by rw [h1]; rfl
          clear h1
          go_wp2
          go_round
          case rel => exact ⟨k + 1, by omega, by go_num, HN⟩
          case measure => simp [intOf]; omega
        · have l1 : 57 < s[k].toNat := by omega
          have l2 : s[k].toNat < 97 := by omega
          have e46 : ((s[k].toNat : Int) == 46) = false := by rw [h1]; rfl
          have n46 : ((s[k].toNat : Int) != 46) = true := by rw [h1]; rfl
          have e45 : ((s[k].toNat : Int) == 45) = false := by rw [h1]; rfl
          have n45 : ((s[k].toNat : Int) != 45) = true := by rw [h1]; rfl
          have e95 : ((s[k].toNat : Int) == 95) = true := by rw [h1]; rfl
          have n95 : ((s[k].toNat : Int) != 95) = false := by rw [h1]; rfl
          have e47 : ((s[k].toNat : Int) == 47) = false := by rw [h1]; rfl
          have n47 : ((s[k].toNat : Int) != 47) = true := by rw [h1]; rfl
          clear h1
          go_wp2
          go_round
          case rel => exact ⟨k + 1, by omega, by go_num, HN⟩
          case measure => simp [intOf]; omega
        · have l1 : s[k].toNat < 48 := by omega
          have e46 : ((s[k].toNat : Int) == 46) = false := by rw [h1]; rfl
          have n46 : ((s[k].toNat : Int) != 46) = true := by rw [h1]; rfl
          have e45 : ((s[k].toNat : Int) == 45) = false := by rw [h1]; rfl
          have n45 : ((s[k].toNat : Int) != 45) = true := by rw [h1]; rfl
          have e95 : ((s[k].toNat : Int) == 95) = false := by rw [h1]; rfl
          have n95 : ((s[k].toNat : Int) != 95) = true := by rw [h1]; rfl
          have e47 : ((s[k].toNat : Int) == 47) = true := by rw [h1]; rfl
          have n47 : ((s[k].toNat : Int) != 47) = false := by rw [h1]; rfl
          clear h1
          go_wp2
          go_round
          case rel => exact ⟨k + 1, by omega, by go_num, HN⟩
          case measure => simp [intOf]; omega
        · skip
          go_wp2
          go_round
          case rel => exact ⟨k + 1, by omega, by go_num, HN⟩
          case measure => simp [intOf]; omega
        · skip
          go_wp2
          go_round
          case rel => exact ⟨k + 1, by omega, by go_num, HN⟩
          case measure => simp [intOf]; omega
      | false =>
        have HN : Hid (nameB s = false) := by
          show _ = _
          unfold nameB
          rw [show (bs s).all nb = false by rw [List.all_eq_false]; exact ⟨_, HM.out, by simp [hb]⟩, Bool.and_false]
        unfold nb at hb
        simp only [decide_eq_false_iff_not] at hb
        have e46 : ((s[k].toNat : Int) == 46) = false := by simp; omega
        have n46 : ((s[k].toNat : Int) != 46) = true := by simp; omega
        have e45 : ((s[k].toNat : Int) == 45) = false := by simp; omega
        have n45 : ((s[k].toNat : Int) != 45) = true := by simp; omega
        have e95 : ((s[k].toNat : Int) == 95) = false := by simp; omega
        have n95 : ((s[k].toNat : Int) != 95) = true := by simp; omega
        have e47 : ((s[k].toNat : Int) == 47) = false := by simp; omega
        have n47 : ((s[k].toNat : Int) != 47) = true := by simp; omega
        by_cases h1 : s[k].toNat < 97
        · by_cases h2 : s[k].toNat < 48
          · clear hb
            go_wp2
            go_ret
            exact ⟨by rw [HN.out]; rfl, rfl⟩
          · have h3 : 57 < s[k].toNat := by omega
            clear hb
            go_wp2
            go_ret
            exact ⟨by rw [HN.out]; rfl, rfl⟩
        · have h3 : 122 < s[k].toNat := by omega
          have h4 : 57 < s[k].toNat := by omega
          clear hb
          go_wp2
          go_ret
          exact ⟨by rw [HN.out]; rfl, rfl⟩
    · obtain rfl : k = s.size := by omega
      have HA : Hid ((bs s).all nb = true) := by
        have := hA.out
        rw [← bs_length s, List.take_length] at this
        exact this
      clear hA
      by_cases h1 : s.size < 1
      · have HN : Hid (nameB s = false) := by show _ = _; unfold nameB; rw [decide_eq_false (by omega), Bool.false_and]
        go_wp2
        go_ret
        exact ⟨by rw [HN.out]; rfl, rfl⟩
      · have HN : Hid (nameB s = decide ((s.size : Int) ≤ 64)) := by
          show _ = _
          unfold nameB
          rw [HA.out, Bool.and_true, decide_eq_decide]
          omega
        go_wp2
        go_ret
        exact ⟨ret_bool HN.out.symm, rfl⟩

section
variable {w : World} {b : Nat} {X : Nat → Prop} {d : Bk}
theorem rnext_left {ov fv lv : Value} {fs : List Int} (h : RawD w b ov fv lv (d.quota : Nat) d.objs fs d.late) (h1 : fs.map fateOf = d.fates) (h2 : ∀ x ∈ fs, Num x) (hok : d.Ok) {v : Value} (hr : Rw w 3 1 v fs.tail.length (encI fs.tail)) (ho : v.ownBlock = fv.ownBlock) : LeftT (refT b d.next) w (xB b ov fv lv) (w.setCell ⟨b, 2, none⟩ v) :=
  ⟨xB b ov v lv, ⟨ov, v, lv, fs.tail, h.setFates hr ho, by rw [List.map_tail, h1]; rfl, fun x hx => h2 x (List.mem_of_mem_tail hx), hok.next, rfl⟩, Keep.setCell w _ _ (.inl rfl), fun k hk => .inl (by
    rcases hk with e | e | e | e
    · exact .inl e
    · exact .inr (.inl e)
    · rw [ho] at e; exact .inr (.inr (.inl e))
    · exact .inr (.inr (.inr e)))⟩
set_option maxHeartbeats 2000000 in
theorem rnext_any (h : refT b d w X) (hn : d.fates.length ≤ 1000000) : Calls Try.prog 52 #[.pointer (some ⟨b, 0, none⟩)] w fun e w' => e = .returned (.int .i64 (d.fate0 : Nat)) ∧ LeftT (refT b d.next) w X w' := by
  have h0 := h
  obtain ⟨ov, fv, lv, fs, h, hm, hnum, hok, rfl⟩ := h
  obtain ⟨c0, c1, c2, c3⟩ := h.c
  have hlen : fs.length = d.fates.length := by rw [← hm, List.length_map]
  cases hf : fs with
  | nil =>
    have hd : d.fates = [] := by rw [← hm, hf]; rfl
    have hv : d.next = d := by
      obtain ⟨o, q, f, l⟩ := d
      simp only at hd
      subst hd
      rfl
    have e0 : d.fate0 = 0 := by simp [Bk.fate0, hd]
    obtain ⟨a, cap, rfl⟩ := h.fs.form
    rw [hf] at c2
    rw [hv, e0]
    have HL := hide (LeftT.refl h0)
    clear h0 h hv e0 hd hm hlen hnum
    go_enter Try.func52, Try.ntmps52
    go_wp2
    go_ret
    exact ⟨rfl, HL.out⟩
  | cons x r =>
    obtain ⟨g, off, cap, rfl, hgl, hnc, hcm⟩ := h.fs.pos (by rw [hf]; simp)
    have hx : (encI fs)[0]? = some (.int .i64 x) := by rw [hf]; rfl
    obtain ⟨q0, _⟩ := h.fs.cell hx
    have f2 := h.fr 2
    have e0 : d.fate0 = fateOf x := by simp [Bk.fate0, ← hm, hf]
    have hl : fs.length = r.length + 1 := by rw [hf]; rfl
    have hd := h.fs.drop (k := 1) (by omega)
    rw [encI_drop, Nat.one_mul, List.drop_one] at hd
    have ho := drop_own (a := some ⟨g, off, none⟩) (n := fs.length) (cap := cap) (k := 1) (size := 1)
    have HF := hide (rnext_left h hm hnum hok (by rw [List.length_tail]; exact hd) ho)
    clear ho
    rw [e0]
    obtain ⟨m1, m2⟩ := hnum x (by rw [hf]; simp)
    obtain ⟨q, hr, r1, r2, r3⟩ := rest4 x
    have r4 := fateOf_lt x
    have r5 : (q + 4).tmod 4 = (fateOf x : Int) := by rw [Int.tmod_eq_emod_of_nonneg (by omega)]; exact r3
    have hc1 : 1 ≤ cap := by omega
    rw [hl] at c2 hnc HF
    have hr1 : r.length ≤ 1000000 := by omega
    clear h0 h hd hx hf hl e0 hm hnum hlen r3
    rw [Nat.add_zero] at q0
    generalize fateOf x = F at *
    by_cases hc : cap = 1
    · subst hc
      have hrl : r.length = 0 := by omega
      rw [hrl] at c2 HF
      simp only [if_true, Nat.sub_self] at HF
      clear hrl
      go_enter Try.func52, Try.ntmps52
      go_wp2
      go_ret
      exact ⟨rfl, HF.out⟩
    · simp only [if_neg hc, Nat.add_sub_cancel] at HF
      go_enter Try.func52, Try.ntmps52
      go_wp2
      go_ret
      exact ⟨rfl, HF.out⟩
set_option maxHeartbeats 4000000 in
theorem rfind_any {ov fv lv : Value} {quota : Int} {objs : List Ob} {fs : List Int} {late : List Ch} (h : RawD w b ov fv lv quota objs fs late) (hr : Rise objs) (hn : objs.length ≤ 1000000) (s : ByteArray) : Calls Try.prog 53 #[.pointer (some ⟨b, 0, none⟩), .string s] w fun e w' => e = .returned (.int .i64 (idxOf objs s)) ∧ w' = w := by
  obtain ⟨c0, c1, c2, c3⟩ := h.c
  obtain ⟨a, cap, rfl⟩ := h.os.form
  have HO := hide h.os
  have HI := hide hr
  clear h hr c1 c2 c3
  go_enter Try.func53, Try.ntmps53
  go_wp2
  go_loop [5] (fun i => ∃ k : Nat, k ≤ objs.length ∧ i = .int .i64 k ∧ Hid (∀ o ∈ objs.take k, o.1 ≠ s)) (fun i => objs.length - (intOf i).toNat)
  case atStart => exact ⟨0, Nat.zero_le _, rfl, by show ∀ o ∈ _, _; simp⟩
  case round =>
    obtain ⟨k, hk, rfl, hA⟩ := hrel
    by_cases hlt : k < objs.length
    · obtain ⟨o, ho⟩ : ∃ o, objs[k]? = some o := ⟨_, List.getElem?_eq_getElem hlt⟩
      obtain ⟨g, off, cap', hv, hgl, _⟩ := HO.out.pos (by omega)
      simp only [Value.slice.injEq] at hv
      obtain ⟨rfl, _, rfl⟩ := hv
      obtain ⟨q0, q1⟩ := rob_cells HO.out ho
      have HOO := hide ho
      have HT := hide (snoc_take _ _ _ ho)
      clear ho
      obtain ⟨O1, O2⟩ := o
      simp only at *
      by_cases he : O1 = s
      · have HX := hide (idxOf_eq HI.out HOO.out he)
        have v1 : (O1.toList == s.toList) = true := beq_lists he
        clear he hA
        go_wp2
        go_ret
        exact ⟨ret_int HX.out.symm, rfl⟩
      · have HN : Hid (∀ o ∈ objs.take (k + 1), o.1 ≠ s) := fun o hm => by
          rw [HT.out] at hm
          rcases List.mem_append.1 hm with h1 | h1
          · exact hA.out o h1
          · rw [List.mem_singleton.1 h1]; exact he
        have v1 : (O1.toList == s.toList) = false := bne_lists he
        clear he hA
        go_wp2
        go_round
        case rel => exact ⟨k + 1, by omega, by go_num, HN⟩
        case measure => simp [intOf]; omega
    · obtain rfl : k = objs.length := by omega
      have HX : Hid (idxOf objs s = -1) := idxOf_none (by have := hA.out; rw [List.take_length] at this; exact this)
      clear hA
      go_wp2
      go_ret
      exact ⟨ret_int HX.out.symm, rfl⟩
set_option maxHeartbeats 4000000 in
theorem rused_any {ov fv lv : Value} {quota : Int} {objs : List Ob} {fs : List Int} {late : List Ch} (h : RawD w b ov fv lv quota objs fs late) (hn : objs.length ≤ 1000000) (ht : total objs ≤ 9223372036854775807) : Calls Try.prog 38 #[.pointer (some ⟨b, 0, none⟩)] w fun e w' => e = .returned (.int .i64 (total objs : Nat)) ∧ w' = w := by
  obtain ⟨c0, c1, c2, c3⟩ := h.c
  obtain ⟨a, cap, rfl⟩ := h.os.form
  have HO := hide h.os
  clear h c1 c2 c3
  go_enter Try.func38, Try.ntmps38
  go_wp2
  go_loop [3, 4] (fun n i => ∃ k t : Nat, k ≤ objs.length ∧ i = .int .i64 k ∧ n = .int .i64 t ∧ t ≤ 9223372036854775807 ∧ Hid (t = total (objs.take k))) (fun _ i => objs.length - (intOf i).toNat)
  case atStart => exact ⟨0, 0, Nat.zero_le _, rfl, rfl, by omega, by show _ = _; simp [total]⟩
  case round =>
    obtain ⟨k, t, hk, rfl, rfl, htt, hA⟩ := hrel
    by_cases hlt : k < objs.length
    · obtain ⟨o, ho⟩ : ∃ o, objs[k]? = some o := ⟨_, List.getElem?_eq_getElem hlt⟩
      obtain ⟨g, off, cap', hv, hgl, _⟩ := HO.out.pos (by omega)
      simp only [Value.slice.injEq] at hv
      obtain ⟨rfl, _, rfl⟩ := hv
      obtain ⟨q0, q1⟩ := rob_cells HO.out ho
      have HT := hide (total_take ho)
      have hle : t + o.2.size ≤ 9223372036854775807 := by
        have h1 := total_take_le objs (k + 1)
        rw [HT.out, ← hA.out] at h1
        omega
      clear ho
      obtain ⟨O1, O2⟩ := o
      simp only at *
      have HN : Hid (t + O2.size = total (objs.take (k + 1))) := by show _ = _; rw [HT.out, hA.out]
      clear hA HT
      go_wp2
      go_round
      case rel => exact ⟨k + 1, t + O2.size, by omega, by go_num, by go_num, hle, HN⟩
      case measure => simp [intOf]; omega
    · obtain rfl : k = objs.length := by omega
      have HX : Hid (t = total objs) := by have := hA.out; rw [List.take_length] at this; exact this
      clear hA
      go_wp2
      go_ret
      exact ⟨ret_int (by rw [HX.out]), rfl⟩
end

end Wi
end Go.Proofs.Ythnhapjjgaicdaa
