/- Package bucket: late calls land. -/
import Derived.Test.YthnhapjjgaicdaaWs
import Derived.Laws.EntriesVeiled
namespace Go.Proofs.Ythnhapjjgaicdaa
open Go.RowKit
namespace Wi

theorem acts_snoc {d : Bk} {l : List Ch} {k : Nat} {c : Ch} (h : l[k]? = some c) : d.acts (l.take (k + 1)) = (d.acts (l.take k)).act c := by
  rw [snoc_take _ _ _ h]
  simp [Bk.acts]
theorem acts_same : ∀ (l : List Ch) (d : Bk), (d.acts l).fates = d.fates ∧ (d.acts l).late = d.late ∧ (d.acts l).quota = d.quota
  | [], _ => ⟨rfl, rfl, rfl⟩
  | c :: r, d => by
    have h1 := acts_same r (d.act c)
    have h2 := act_same d c
    exact ⟨h1.1.trans h2.1, h1.2.1.trans h2.2.1, h1.2.2.trans h2.2.2⟩
theorem acts_size : ∀ (l : List Ch) (d : Bk), (d.acts l).objs.length ≤ d.objs.length + l.length
  | [], _ => Nat.le_refl _
  | c :: r, d => by
    have h1 := acts_size r (d.act c)
    have h2 := act_size d c
    show ((d.act c).acts r).objs.length ≤ _
    simp only [List.length_cons]
    omega
theorem Bk.Ok.acts : ∀ (l : List Ch) {d : Bk}, d.Ok → (d.acts l).Ok
  | [], _, h => h
  | c :: r, _, h => Bk.Ok.acts r (h.act c)
theorem ch_cells {w : World} {g off cap : Nat} {late : List Ch} (h : Rw w 81 3 (.slice (some ⟨g, off, none⟩) late.length cap) late.length (encLs late)) {i : Nat} {c : Ch} (hi : late[i]? = some c) : w.cell? ⟨g, off + i * 3, none⟩ = some (fnOf c.1) ∧ w.cell? ⟨g, off + i * 3 + 1, none⟩ = some (.string c.2.1) ∧ w.cell? ⟨g, off + i * 3 + 2, none⟩ = some (.string c.2.2) := by
  have hp : ((encLs late).drop (i * 3)).take 3 = encCh c := flat_part (f := encCh) (k := 3) late i c (fun _ _ => rfl) hi
  have h0 : (encLs late)[i * 3]? = some (fnOf c.1) := by
    have e := congrArg (fun l : List Value => l[0]?) hp
    simpa [encCh] using e
  have h1 : (encLs late)[i * 3 + 1]? = some (.string c.2.1) := by
    have e := congrArg (fun l : List Value => l[1]?) hp
    simpa [encCh] using e
  have h2 : (encLs late)[i * 3 + 2]? = some (.string c.2.2) := by
    have e := congrArg (fun l : List Value => l[2]?) hp
    simpa [encCh] using e
  exact ⟨(h.cell h0).1, (h.cell h1).1, (h.cell h2).1⟩
set_option maxHeartbeats 8000000 in
theorem land_any {w : World} {b : Nat} {X : Nat → Prop} {d : Bk} (h : bkT b d w X) (hl : d.objs.length + d.late.length ≤ 1000000) (n : Int) (hn : Num n) : Calls Try.prog 21 #[.pointer (some ⟨b, 0, none⟩), .int .i64 n] w fun e w' => e = .returned (.int .i64 (upTo n d.late.length : Nat)) ∧ LeftT (bkT b (d.land n)) w X w' := by
  obtain ⟨ov, fv, lv, h, rfl⟩ := h
  have hle := upTo_le n d.late.length
  have hup : ∀ p : Later w, _ := fun p => same_b (upto_any (h.raw.later p.below) (by omega) n hn)
  have hlok := h.ok.late
  have c4' : ∀ p : Later w, p.val.cell? ⟨b, 4, none⟩ = some lv := fun p => (h.raw.later p.below).c.2.2.2.2
  have HT0 : Hid (oT fv lv b (d.acts (d.late.take 0)) w (xB b ov fv lv)) := ⟨ov, h, rfl⟩
  have HN := hide hn
  obtain ⟨n1, n2⟩ := hn
  have hne := later_ne w
  have HEND : Hid (∀ wr, LeftT (oT fv lv b (d.acts (d.late.take (upTo n d.late.length)))) w (xB b ov fv lv) wr → Calls Try.prog 31 #[.pointer (some ⟨b, 0, none⟩), .int .i64 n] wr fun e w' => e = .returned (.int .i64 (upTo n d.late.length : Nat)) ∧ LeftT (bkT b (d.land n)) w (xB b ov fv lv) w') := fun wr ⟨X2, hA, hk2, hm2⟩ => by
    have hs := (acts_same (d.late.take (upTo n d.late.length)) d).2.1
    have hd := drop_any hA.bk (by rw [hs]; omega) n HN.out
    rw [hs] at hd
    exact hd.mono fun e w' ⟨h1, h2⟩ => ⟨h1, LeftT.trans hk2 hm2 h2⟩
  obtain ⟨K, hK⟩ : ∃ K, K = upTo n d.late.length := ⟨_, rfl⟩
  rw [← hK] at hup hle HEND ⊢
  clear hK
  rcases h.raw.ls.2 with ⟨rfl, hL⟩ | ⟨g, off, cap, cur, rfl, hg, k1, k2, k3, k4⟩
  · obtain rfl : K = 0 := by omega
    clear h hle hL
    go_enter Try.func21, Try.ntmps21
    go_wp2
    refine wp_region_later (by kernel_rfl) (by kernel_rfl) ?_
    (repeat (first | go_big_quiet_skip | (go_big_quiet_want; go_big_quiet_op; go_big_quiet_on)))
    (go_big_quiet_want; go_big_quiet_op; apply Exists.intro; refine ⟨fun p => ?_, ?_⟩; (· exact later_of (hup _)); go_big_quiet_on)
    (repeat (first | go_big_quiet_skip | (go_big_quiet_want; go_big_quiet_op; go_big_quiet_on)))
    refine wpQuiet_nil ?_
    rintro _ ⟨p, rfl⟩
    have HS : Hid (LeftT (oT fv (.slice none 0 0) b (d.acts (d.late.take 0))) w (xB b ov fv (.slice none 0 0)) p.val) := ⟨_, (oT_good _ _ _ _).later HT0.out p.below, Keep.of_below p.below, fun _ e => .inl e⟩
    clear hup c4' hne
    generalize p.val = w2 at *
    go_wp2
    go_loopw [18] (fun i wr => ∃ k : Nat, k ≤ 0 ∧ i = .int .i64 k ∧ LeftT (oT fv (.slice none 0 0) b (d.acts (d.late.take k))) w (xB b ov fv (.slice none 0 0)) wr) (fun i _ => 0 - (intOf i).toNat)
    case atStart => exact ⟨0, Nat.zero_le _, rfl, HS.out⟩
    case round =>
      clear HS
      obtain ⟨k, hk, rfl, hLf⟩ := hrel
      obtain rfl : k = 0 := by omega
      have hc := HEND.out wr hLf
      clear hLf
      go_wp2_with fail
      refine hc.mono ?_
      rintro e w5 ⟨rfl, hl5⟩
      have HF := hide hl5
      clear hc hl5
      go_wp2
      go_ret
      exact ⟨rfl, HF.out⟩
  · have hcm : cap ≤ 9223372036854775807 := by unfold maxLen at k2; omega
    clear h k3 k4 hg k2
    have hKc : K ≤ cap := by omega
    by_cases hc0 : cap = 0
    · subst hc0
      obtain rfl : K = 0 := by omega
      clear hle hKc
      have hL0 : d.late.length = 0 := by omega
      have HL0 := hide hL0
      clear hL0
      go_enter Try.func21, Try.ntmps21
      go_wp2
      refine wp_region_later (by kernel_rfl) (by kernel_rfl) ?_
      (repeat (first | go_big_quiet_skip | (go_big_quiet_want; go_big_quiet_op; go_big_quiet_on)))
      (go_big_quiet_want; go_big_quiet_op; apply Exists.intro; refine ⟨fun p => ?_, ?_⟩; (· exact later_of (hup _)); go_big_quiet_on)
      (repeat (first | go_big_quiet_skip | (go_big_quiet_want; go_big_quiet_op; go_big_quiet_on)))
      refine wpQuiet_nil ?_
      rintro _ ⟨p, rfl⟩
      have HS : Hid (LeftT (oT fv (.slice (some ⟨g, off, none⟩) d.late.length 0) b (d.acts (d.late.take 0))) w (xB b ov fv (.slice (some ⟨g, off, none⟩) d.late.length 0)) p.val) := ⟨_, (oT_good _ _ _ _).later HT0.out p.below, Keep.of_below p.below, fun _ e => .inl e⟩
      clear hup c4' hne
      generalize p.val = w2 at *
      go_wp2
      go_loopw [18] (fun i wr => ∃ k : Nat, k ≤ 0 ∧ i = .int .i64 k ∧ LeftT (oT fv (.slice (some ⟨g, off, none⟩) d.late.length 0) b (d.acts (d.late.take k))) w (xB b ov fv (.slice (some ⟨g, off, none⟩) d.late.length 0)) wr) (fun i _ => 0 - (intOf i).toNat)
      case atStart => exact ⟨0, Nat.zero_le _, rfl, HS.out⟩
      case round =>
        clear HS
        obtain ⟨k, hk, rfl, hLf⟩ := hrel
        obtain rfl : k = 0 := by omega
        have hc := HEND.out wr hLf
        clear hLf
        go_wp2_with fail
        refine hc.mono ?_
        rintro e w5 ⟨rfl, hl5⟩
        have HF := hide hl5
        clear hc hl5
        go_wp2
        go_ret
        exact ⟨rfl, HF.out⟩
    · skip
      go_enter Try.func21, Try.ntmps21
      go_wp2
      refine wp_region_later (by kernel_rfl) (by kernel_rfl) ?_
      (repeat (first | go_big_quiet_skip | (go_big_quiet_want; go_big_quiet_op; go_big_quiet_on)))
      (go_big_quiet_want; go_big_quiet_op; apply Exists.intro; refine ⟨fun p => ?_, ?_⟩; (· exact later_of (hup _)); go_big_quiet_on)
      (repeat (first | go_big_quiet_skip | (go_big_quiet_want; go_big_quiet_op; go_big_quiet_on)))
      refine wpQuiet_nil ?_
      rintro _ ⟨p, rfl⟩
      have HS : Hid (LeftT (oT fv (.slice (some ⟨g, off, none⟩) d.late.length cap) b (d.acts (d.late.take 0))) w (xB b ov fv (.slice (some ⟨g, off, none⟩) d.late.length cap)) p.val) := ⟨_, (oT_good _ _ _ _).later HT0.out p.below, Keep.of_below p.below, fun _ e => .inl e⟩
      clear hup c4' hne
      generalize p.val = w2 at *
      go_wp2
      go_loopw [18] (fun i wr => ∃ k : Nat, k ≤ K ∧ i = .int .i64 k ∧ LeftT (oT fv (.slice (some ⟨g, off, none⟩) d.late.length cap) b (d.acts (d.late.take k))) w (xB b ov fv (.slice (some ⟨g, off, none⟩) d.late.length cap)) wr) (fun i _ => K - (intOf i).toNat)
      case atStart => exact ⟨0, Nat.zero_le _, rfl, HS.out⟩
      case round =>
        clear HS
        obtain ⟨k, hk, rfl, hLf⟩ := hrel
        by_cases hlt : k < K
        · obtain ⟨c, hc⟩ : ∃ c, d.late[k]? = some c := ⟨_, List.getElem?_eq_getElem (by omega)⟩
          have hx := hlok c (List.mem_of_getElem? hc)
          have HSN := hide (acts_snoc (d := d) hc)
          have hsz := acts_size (d.late.take k) d
          rw [List.length_take] at hsz
          obtain ⟨X2, hA, hk2, hm2⟩ := hLf
          have hA0 := hA
          obtain ⟨ov2, hA1, rfl⟩ := hA
          have hls := hA1.raw.ls
          rw [(acts_same (d.late.take k) d).2.1] at hls
          obtain ⟨q0, q1, q2⟩ := ch_cells hls hc
          have hb3 := below_alloc wr (.cells (encCh c).toArray 81)
          have hact := act_o ((oT_good _ _ _ _).later hA0 hb3) (by omega) c hx
          have HK2 := hide hk2
          have HM2 := hide hm2
          have HB3 := hide hb3
          clear hA0 hA1 hls hk2 hm2 hb3 hc hsz
          generalize d.acts (d.late.take k) = D at *
          obtain ⟨pp, s, x⟩ := c
          cases pp with
          | true =>
            simp only [encCh, fnOf, if_true] at *
            generalize D.actE (true, s, x) = E at *
            go_wp2_with fail
            refine hact.mono ?_
            rintro e w4 ⟨rfl, hl4⟩
            have HF := hide (LeftT.trans HK2.out HM2.out (hl4.first HB3.out))
            rw [← HSN.out] at HF
            clear hact hl4
            go_wp2
            go_roundw
            case rel => exact ⟨k + 1, by omega, by go_num, HF.out⟩
            case measure => simp [intOf]; omega
          | false =>
            simp only [encCh, fnOf, Bool.false_eq_true, if_false] at *
            generalize D.actE (false, s, x) = E at *
            go_wp2_with fail
            refine hact.mono ?_
            rintro e w4 ⟨rfl, hl4⟩
            have HF := hide (LeftT.trans HK2.out HM2.out (hl4.first HB3.out))
            rw [← HSN.out] at HF
            clear hact hl4
            go_wp2
            go_roundw
            case rel => exact ⟨k + 1, by omega, by go_num, HF.out⟩
            case measure => simp [intOf]; omega
        · obtain rfl : k = K := by omega
          have hc := HEND.out wr hLf
          clear hLf
          go_wp2_with fail
          refine hc.mono ?_
          rintro e w5 ⟨rfl, hl5⟩
          have HF := hide hl5
          clear hc hl5
          go_wp2
          go_ret
          exact ⟨rfl, HF.out⟩

end Wi
end Go.Proofs.Ythnhapjjgaicdaa
