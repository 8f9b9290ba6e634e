/- The document's bucket: a call by its fate; Put and Delete. -/
import Derived.Test.YthnhapjjgaicdaaRd
namespace Go.Proofs.Ythnhapjjgaicdaa
open Go.RowKit
namespace Wi

theorem info88 : (Try.prog.info? 88).map (fun i => (i.zero, i.size, i.bytes)) = some (some (.agg #[.bool false, .string { data := #[] }, .string { data := #[] }]), 3, 40) := by kernel_rfl
section
variable {w : World} {b : Nat} {X : Nat → Prop} {d : Bk}
set_option maxHeartbeats 4000000 in
set_option maxRecDepth 20000 in
theorem rcall_any (h : refT b d w X) (ho : d.objs.length ≤ 900000) (hf : d.fates.length ≤ 1000000) (hl : d.late.length ≤ 1000000) (hF : Fd d) (c : Ch) (hx : c.2.2.size ≤ 65536) : Calls Try.prog 51 #[.pointer (some ⟨b, 0, none⟩), .agg (encK c).toArray] w fun e w' => e = .returned (.int .i64 (d.callE c)) ∧ LeftT (refT b (d.call c)) w X w' := by
  have hb0 := below_alloc w (.cells (encK c).toArray 88)
  have hN0 := heap_alloc_new w (.cells (encK c).toArray 88)
  have hlb : ∀ k, X k → k < w.heap.size := (refT_good b d).lt h
  have h1 := (refT_good b d).later h hb0
  have hok : d.Ok := h.ok
  have hcok := hok.call c hx
  have hft := rnext_any h1 hf
  have hlt4 := fate_lt hok
  obtain ⟨w0, hw0⟩ : ∃ w0, w0 = w.alloc (.cells (encK c).toArray 88) := ⟨_, rfl⟩
  rw [← hw0] at hb0 hN0 h1 hft
  have HCELL : Hid (∀ w', LeftT (refT b d.next) w0 X w' → w'.heap[w.heap.size]? = some (.cells (encK c).toArray 88 (0, 0))) := fun w' ⟨_, _, hk, _⟩ => (hk.block w.heap.size (lt_of_block hN0) (fun e => Nat.lt_irrefl _ (hlb _ e))).trans hN0
  have HW0 := hide hw0
  have HB0 := hide hb0
  have hact : ∀ (w' : World) (X' : Nat → Prop), refT b d.next w' X' → _ := fun _ _ h' => rdo_any (d := d.next) h' ho hF c hx
  have HACT := hide hact
  clear hact hw0 hb0 hN0 h h1 hlb
  have HONE := hide (encK_one c)
  obtain ⟨p, s, x⟩ := c
  have HENC : Hid (encKs (d.late ++ [(p, s, x)]) = encKs d.late ++ [.bool p, .string s, .string x]) := by show _ = _; rw [encKs_append]; rfl
  simp only [encK] at *
  rcases (show d.fate0 = 0 ∨ d.fate0 = 1 ∨ d.fate0 = 2 ∨ d.fate0 = 3 by omega) with e0 | e0 | e0 | e0
  · have e1 : d.call (p, s, x) = d.next.act (p, s, x) := by simp [Bk.call, e0]
    have e2 : d.callE (p, s, x) = d.next.actE (p, s, x) := by simp [Bk.callE, e0]
    rw [e1, e2]
    rw [e0] at hft
    clear e0 e1 e2 hlt4
    generalize d.next.actE (p, s, x) = E at *
    go_enter Try.func51, Try.ntmps51
    go_wp2_with fail
    rw [← HW0.out]
    refine hft.mono ?_
    rintro e w2 ⟨rfl, hl2⟩
    have hblk := HCELL.out _ hl2
    have c0 := cell_of_row w2 w.heap.size 0 _ _ _ hblk
    have c1 := cell_of_row w2 w.heap.size 1 _ _ _ hblk
    have c2 := cell_of_row w2 w.heap.size 2 _ _ _ hblk
    simp only [List.getElem?_toArray, List.getElem?_cons_zero, List.getElem?_cons_succ] at c0 c1 c2
    obtain ⟨X2, hT2, hk2, hm2⟩ := hl2
    have hc := HACT.out _ _ hT2
    have HK2 := hide hk2
    have HM2 := hide hm2
    clear hft hblk hT2 hk2 hm2 HACT HCELL
    go_wp2_with fail
    refine hc.mono ?_
    rintro e w3 ⟨rfl, hl3⟩
    have HF := hide ((LeftT.trans HK2.out HM2.out hl3).first HB0.out)
    clear hc hl3
    go_wp2
    go_ret
    exact ⟨rfl, HF.out⟩
  · have e1 : d.call (p, s, x) = d.next := by simp [Bk.call, e0]
    have e2 : d.callE (p, s, x) = 34 := by simp [Bk.callE, e0]
    rw [e1, e2]
    rw [e0] at hft
    clear e0 e1 e2 hlt4 HACT HCELL
    go_enter Try.func51, Try.ntmps51
    go_wp2_with fail
    rw [← HW0.out]
    refine hft.mono ?_
    rintro e w2 ⟨rfl, hl2⟩
    have HF := hide (hl2.first HB0.out)
    clear hft hl2
    go_wp2
    go_ret
    exact ⟨rfl, HF.out⟩
  · have e1 : d.call (p, s, x) = d.next.act (p, s, x) := by simp [Bk.call, e0]
    have e2 : d.callE (p, s, x) = 34 := by simp [Bk.callE, e0]
    rw [e1, e2]
    rw [e0] at hft
    clear e0 e1 e2 hlt4
    generalize d.next.actE (p, s, x) = E at *
    go_enter Try.func51, Try.ntmps51
    go_wp2_with fail
    rw [← HW0.out]
    refine hft.mono ?_
    rintro e w2 ⟨rfl, hl2⟩
    have hblk := HCELL.out _ hl2
    have c0 := cell_of_row w2 w.heap.size 0 _ _ _ hblk
    have c1 := cell_of_row w2 w.heap.size 1 _ _ _ hblk
    have c2 := cell_of_row w2 w.heap.size 2 _ _ _ hblk
    simp only [List.getElem?_toArray, List.getElem?_cons_zero, List.getElem?_cons_succ] at c0 c1 c2
    obtain ⟨X2, hT2, hk2, hm2⟩ := hl2
    have hc := HACT.out _ _ hT2
    have HK2 := hide hk2
    have HM2 := hide hm2
    clear hft hblk hT2 hk2 hm2 HACT HCELL
    go_wp2_with fail
    refine hc.mono ?_
    rintro e w3 ⟨rfl, hl3⟩
    have HF := hide ((LeftT.trans HK2.out HM2.out hl3).first HB0.out)
    clear hc hl3
    go_wp2
    go_ret
    exact ⟨rfl, HF.out⟩
  · have e1 : d.call (p, s, x) = { d.next with late := d.late ++ [(p, s, x)] } := by simp [Bk.call, e0]
    have e2 : d.callE (p, s, x) = 34 := by simp [Bk.callE, e0]
    rw [e1] at hcok
    rw [e1, e2]
    rw [e0] at hft
    obtain ⟨i0, hi, hz0, hz1, hz2⟩ := info_parts info88
    clear e0 e1 e2 hlt4 HACT
    have hmx : d.late.length + 1 ≤ maxLen := by unfold maxLen; omega
    have hby : (d.late.length + 1) * 40 ≤ 140737488355328 := by omega
    go_enter Try.func51, Try.ntmps51
    go_wp2_with fail
    rw [← HW0.out]
    refine hft.mono ?_
    rintro e w2 ⟨rfl, hl2⟩
    have hblk := HCELL.out _ hl2
    have c0 := cell_of_row w2 w.heap.size 0 _ _ _ hblk
    have c1 := cell_of_row w2 w.heap.size 1 _ _ _ hblk
    have c2 := cell_of_row w2 w.heap.size 2 _ _ _ hblk
    simp only [List.getElem?_toArray, List.getElem?_cons_zero, List.getElem?_cons_succ] at c0 c1 c2
    obtain ⟨X2, ⟨ov, fv, lv, fs, hA, hm, hnum, hok2, rfl⟩, hk2, hm2⟩ := hl2
    have HK2 := hide hk2
    have HM2 := hide hm2
    have HA := hide hA
    have HM := hide hm
    have c4 := hA.c.2.2.2
    have f4 := hA.fr 3
    have lB := hA.lt
    have nB := hA.nl
    have hb3 := (below_alloc w2 (.cells #[.bool p, .string s, .string x] 88)).drew
    have hrow := hide (hA.ls.later hb3)
    have HB3 := hide hb3
    have HCN := hide (cells_new w2 [.bool p, .string s, .string x] 88)
    clear hft hblk hk2 hm2 hA HCELL hb3 hm
    go_wp2
    go_region_law (refine step_append_rw rfl (.tmp 23) (.tmp 25) 32 rfl 88 i0 _ 3 40 Try.underlying32 hi hz0 hz1 hz2 rfl (by decide) _ _ _ (by simp [Act.eval]) hrow.out ⟨w2.heap.size, 0, none⟩ 1 1 [.bool p, .string s, .string x] (by simp [Act.eval]) rfl HCN.out HONE.out hmx hby ?_; intro v2 w3 g1 g2 g3; obtain ⟨a2, n2, c2, rfl⟩ := g1.own_form; have cB2 := cell_grown c4 lB nB g2; have fB2 := free_grown f4 lB nB g2; replace g1 := hide g1; replace g2 := hide g2; replace g3 := hide g3)
    all_goals
      have HF : Hid (LeftT (refT b { d.next with late := d.late ++ [(p, s, x)] }) w X (w3.setCell ⟨b, 3, none⟩ (.slice a2 n2 c2))) := by
        have hG : Grew w2 88 3 lv (d.late ++ [(p, s, x)]).length (encKs (d.late ++ [(p, s, x)])) w3 (.slice a2 n2 c2) := by
          refine ⟨by rw [HENC.out, List.length_append]; exact g1.out, (Keep.of_below (X := fun k => lv.ownBlock = some k) HB3.out).trans (Keep.grown g2.out fun _ e => e) fun _ _ e => e, g3.out.imp id fun hf k hk => Nat.le_trans HB3.out.size (hf k hk)⟩
        obtain ⟨r1, r2, r3⟩ := HA.out.putLate hG
        exact (LeftT.trans HK2.out HM2.out ⟨_, ⟨ov, fv, _, fs, r1, HM.out, hnum, hcok, rfl⟩, r2, r3⟩).first HB0.out
      clear g1 g2 g3
      go_wp2
      go_ret
      exact ⟨rfl, HF.out⟩
set_option maxHeartbeats 2000000 in
theorem rput_any (h : refT b d w X) (ho : d.objs.length ≤ 900000) (hf : d.fates.length ≤ 1000000) (hl : d.late.length ≤ 1000000) (hF : Fd d) (s x : ByteArray) (hs : s.size ≤ 9223372036854775807) (hx : x.size ≤ 9223372036854775807) : Calls Try.prog 32 #[.pointer (some ⟨b, 0, none⟩), .string s, .string x] w fun e w' => e = .returned (.int .i64 (d.putE s x)) ∧ LeftT (refT b (d.put s x)) w X w' := by
  have hnm := rname_any s hs w
  cases hn : nameB s with
  | false =>
    have e1 : d.putE s x = 1 := by simp [Bk.putE, hn]
    have e2 : d.put s x = d := by simp [Bk.put, hn]
    rw [e1, e2]
    rw [hn] at hnm
    have HL := hide (LeftT.refl h)
    clear h hn e1 e2
    go_enter Try.func32, Try.ntmps32
    go_wp2_with fail
    refine hnm.mono ?_
    rintro e w' ⟨rfl, rfl⟩
    go_wp2
    go_ret
    exact ⟨rfl, HL.out⟩
  | true =>
    rw [hn] at hnm
    by_cases h6 : x.size ≤ 65536
    · have e1 : d.putE s x = d.callE (true, s, x) := by simp [Bk.putE, hn, h6]
      have e2 : d.put s x = d.call (true, s, x) := by simp [Bk.put, hn, h6]
      have hc := rcall_any h ho hf hl hF (true, s, x) h6
      simp only [encK] at hc
      rw [e1, e2]
      clear h hn e1 e2
      generalize d.callE (true, s, x) = E at *
      go_enter Try.func32, Try.ntmps32
      go_wp2_with fail
      refine hnm.mono ?_
      rintro e w' ⟨rfl, rfl⟩
      clear hnm
      go_wp2_with fail
      refine hc.mono ?_
      rintro e w2 ⟨rfl, hl2⟩
      have HL := hide hl2
      clear hc hl2
      go_wp2
      go_ret
      exact ⟨rfl, HL.out⟩
    · have e1 : d.putE s x = 1 := by simp [Bk.putE, h6]
      have e2 : d.put s x = d := by simp [Bk.put, h6]
      rw [e1, e2]
      have HL := hide (LeftT.refl h)
      clear h hn e1 e2
      go_enter Try.func32, Try.ntmps32
      go_wp2_with fail
      refine hnm.mono ?_
      rintro e w' ⟨rfl, rfl⟩
      go_wp2
      go_ret
      exact ⟨rfl, HL.out⟩
set_option maxHeartbeats 2000000 in
theorem rdel_any (h : refT b d w X) (ho : d.objs.length ≤ 900000) (hf : d.fates.length ≤ 1000000) (hl : d.late.length ≤ 1000000) (hF : Fd d) (s : ByteArray) (hs : s.size ≤ 9223372036854775807) : Calls Try.prog 36 #[.pointer (some ⟨b, 0, none⟩), .string s] w fun e w' => e = .returned (.int .i64 (d.delE s)) ∧ LeftT (refT b (d.del s)) w X w' := by
  have hnm := rname_any s hs w
  cases hn : nameB s with
  | false =>
    have e1 : d.delE s = 1 := by simp [Bk.delE, hn]
    have e2 : d.del s = d := by simp [Bk.del, hn]
    rw [e1, e2]
    rw [hn] at hnm
    have HL := hide (LeftT.refl h)
    clear h hn e1 e2
    go_enter Try.func36, Try.ntmps36
    go_wp2_with fail
    refine hnm.mono ?_
    rintro e w' ⟨rfl, rfl⟩
    go_wp2
    go_ret
    exact ⟨rfl, HL.out⟩
  | true =>
    rw [hn] at hnm
    have e1 : d.delE s = d.callE (false, s, { data := #[] }) := by simp [Bk.delE, hn]
    have e2 : d.del s = d.call (false, s, { data := #[] }) := by simp [Bk.del, hn]
    have hc := rcall_any h ho hf hl hF (false, s, { data := #[] }) (by show 0 ≤ _; omega)
    simp only [encK] at hc
    rw [e1, e2]
    clear h hn e1 e2
    generalize d.callE (false, s, { data := #[] }) = E at *
    go_enter Try.func36, Try.ntmps36
    go_wp2_with fail
    refine hnm.mono ?_
    rintro e w' ⟨rfl, rfl⟩
    clear hnm
    go_wp2_with fail
    refine hc.mono ?_
    rintro e w2 ⟨rfl, hl2⟩
    have HL := hide hl2
    clear hc hl2
    go_wp2
    go_ret
    exact ⟨rfl, HL.out⟩
end

end Wi
end Go.Proofs.Ythnhapjjgaicdaa
