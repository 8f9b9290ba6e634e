/- Package bucket: a call meets its fate. -/
import Derived.Test.YthnhapjjgaicdaaWn
namespace Go.Proofs.Ythnhapjjgaicdaa
open Go.RowKit
namespace Wi

theorem info81 : (Try.prog.info? 81).map (fun i => (i.zero, i.size, i.bytes)) = some (some (.agg #[.nilFunc, .string { data := #[] }, .string { data := #[] }]), 3, 40) := by kernel_rfl
/-- Other late calls, and the store of their slice. -/
theorem RawB.putLate {w w' : World} {b : Nat} {ov fv lv : Value} {used quota : Int} {objs : List Ob} {fates : List Nat} {late : List Ch} (h : RawB w b ov fv lv used quota objs fates late) {late' : List Ch} {v : Value} (hg : Grew w 81 3 lv late'.length (encLs late') w' v) : RawB (w'.setCell ⟨b, 4, none⟩ v) b ov fv v used quota objs fates late' ∧ Keep (xB b ov fv lv) w (w'.setCell ⟨b, 4, none⟩ v) ∧ ∀ k, xB b ov fv v k → xB b ov fv lv k ∨ w.heap.size ≤ k := by
  have hne : v.ownBlock ≠ some b := apart_moved h.nl hg.moved h.lt
  have k := Keep.setCell (X := fun j => j = b) w' ⟨b, 4, none⟩ v rfl
  have hblk := (hg.keep.block b h.lt h.nl).trans h.blk
  refine ⟨⟨setCell_blk hblk _, (h.os.keep hg.keep fun i hi e => h.nol i hi e).keep k fun i hi e => h.no (e ▸ hi), (h.fs.keep hg.keep fun i hi e => h.nfl i hi e).keep k fun i hi e => h.nf (e ▸ hi), hg.row.keep k fun i hi e => hne (e ▸ hi), h.no, h.nf, hne, h.nof, fun i hi => apart_moved (h.nol i hi) hg.moved (h.os.lt i hi), fun i hi => apart_moved (h.nfl i hi) hg.moved (h.fs.lt i hi)⟩, ?_, fun i hi => ?_⟩
  · refine Keep.trans (X := xB b ov fv lv) ⟨hg.keep.os, hg.keep.tape, hg.keep.output, hg.keep.size, fun i hi hn => hg.keep.block i hi fun e => hn (.inr (.inr (.inr e)))⟩ (Keep.setCell (X := xB b ov fv lv) w' _ _ (.inl rfl)) fun _ _ e => e
  · rcases hi with e | e | e | e
    · exact .inl (.inl e)
    · exact .inl (.inr (.inl e))
    · exact .inl (.inr (.inr (.inl e)))
    · rcases hg.moved with hm | hm
      · exact .inl (.inr (.inr (.inr (hm ▸ e))))
      · exact .inr (hm i e)
theorem act_o {w : World} {b : Nat} {X : Nat → Prop} {d : Bk} {fv lv : Value} (h : oT fv lv b d w X) (hn : d.objs.length ≤ 1000000) (c : Ch) (hx : c.2.2.size ≤ 65536) : Calls Try.prog (if c.1 then 44 else 49) #[.pointer (some ⟨b, 0, none⟩), .string c.2.1, .string c.2.2] w fun e w' => e = .returned (.int .i64 (d.actE c)) ∧ LeftT (oT fv lv b (d.act c)) w X w' := by
  obtain ⟨p, s, x⟩ := c
  cases p with
  | true => exact add_o h hn s x hx
  | false => exact remove_o h hn s x
theorem act_any {w : World} {b : Nat} {X : Nat → Prop} {d : Bk} (h : bkT b d w X) (hn : d.objs.length ≤ 1000000) (c : Ch) (hx : c.2.2.size ≤ 65536) : Calls Try.prog (if c.1 then 44 else 49) #[.pointer (some ⟨b, 0, none⟩), .string c.2.1, .string c.2.2] w fun e w' => e = .returned (.int .i64 (d.actE c)) ∧ LeftT (bkT b (d.act c)) w X w' := by
  obtain ⟨fv, lv, h⟩ := h.o
  exact (act_o h hn c hx).mono fun _ _ ⟨h1, h2⟩ => ⟨h1, h2.bk⟩
theorem fate_lt {d : Bk} (h : d.Ok) : d.fate0 < 4 := by
  unfold Bk.fate0
  cases hf : d.fates with
  | nil => simp
  | cons x r => exact h.fate x (by rw [hf]; simp)
theorem LeftT.chain {A B : Th} {w w1 w2 : World} {X : Nat → Prop} (h1 : LeftT A w X w1) (h2 : ∀ X1, A w1 X1 → LeftT B w1 X1 w2) : LeftT B w X w2 := by
  obtain ⟨X1, a1, a2, a3⟩ := h1
  exact LeftT.trans a2 a3 (h2 X1 a1)
set_option maxHeartbeats 4000000 in
theorem call_any {w : World} {b : Nat} {X : Nat → Prop} {d : Bk} (h : bkT b d w X) (ho : d.objs.length ≤ 1000000) (hf : d.fates.length ≤ 1000000) (hl : d.late.length ≤ 1000000) (c : Ch) (hx : c.2.2.size ≤ 65536) : Calls Try.prog 43 #[.pointer (some ⟨b, 0, none⟩), .agg (encCh c).toArray] w fun e w' => e = .returned (.int .i64 (d.callE c)) ∧ LeftT (bkT b (d.call c)) w X w' := by
  have hb0 := below_alloc w (.cells (encCh c).toArray 81)
  have hN0 := heap_alloc_new w (.cells (encCh c).toArray 81)
  have hlb : ∀ k, X k → k < w.heap.size := (bkT_good b d).lt h
  have h1 := (bkT_good b d).later h hb0
  have hok : d.Ok := by obtain ⟨_, _, _, h, _⟩ := h; exact h.ok
  have hcok := hok.call c hx
  have hft := fate_any h1 hf
  have hlt4 := fate_lt hok
  obtain ⟨w0, hw0⟩ : ∃ w0, w0 = w.alloc (.cells (encCh c).toArray 81) := ⟨_, rfl⟩
  rw [← hw0] at hb0 hN0 h1 hft
  have HCELL : Hid (∀ w', LeftT (bkT b d.next) w0 X w' → w'.heap[w.heap.size]? = some (.cells (encCh c).toArray 81 (0, 0))) := fun w' ⟨_, _, hk, _⟩ => (hk.block w.heap.size (lt_of_block hN0) (fun e => Nat.lt_irrefl _ (hlb _ e))).trans hN0
  have HW0 := hide hw0
  have HB0 := hide hb0
  have hact : ∀ (w' : World) (X' : Nat → Prop), bkT b d.next w' X' → _ := fun _ _ h' => act_any (d := d.next) h' ho c hx
  have HACT := hide hact
  clear hact hw0 hb0 hN0 h h1 hlb
  obtain ⟨p, s, x⟩ := c
  simp only [encCh] at *
  rcases (show d.fate0 = 0 ∨ d.fate0 = 1 ∨ d.fate0 = 2 ∨ d.fate0 = 3 by omega) with e0 | e0 | e0 | e0
  · have e1 : d.call (p, s, x) = d.next.act (p, s, x) := by simp [Bk.call, e0]
    have e2 : d.callE (p, s, x) = d.next.actE (p, s, x) := by simp [Bk.callE, e0]
    rw [e1, e2]
    rw [e0] at hft
    clear e0 e1 e2 hlt4
    cases p with
    | true =>
      simp only [fnOf, if_true] at *
      generalize d.next.actE (true, s, x) = E at *
      go_enter Try.func43, Try.ntmps43
      go_wp2_with fail
      rw [← HW0.out]
      refine hft.mono ?_
      rintro e w2 ⟨rfl, hl2⟩
      have hblk := HCELL.out _ hl2
      have c0 := cell_of_row w2 w.heap.size 0 _ _ _ hblk
      have c1 := cell_of_row w2 w.heap.size 1 _ _ _ hblk
      have c2 := cell_of_row w2 w.heap.size 2 _ _ _ hblk
      simp only [List.getElem?_toArray, List.getElem?_cons_zero, List.getElem?_cons_succ] at c0 c1 c2
      obtain ⟨X2, hT2, hk2, hm2⟩ := hl2
      have hc := HACT.out _ _ hT2
      have HK2 := hide hk2
      have HM2 := hide hm2
      clear hft hblk hT2 hk2 hm2 HACT HCELL
      go_wp2_with fail
      refine hc.mono ?_
      rintro e w3 ⟨rfl, hl3⟩
      have HF := hide ((LeftT.trans HK2.out HM2.out hl3).first HB0.out)
      clear hc hl3
      go_wp2
      go_ret
      exact ⟨rfl, HF.out⟩
    | false =>
      simp only [fnOf, Bool.false_eq_true, if_false] at *
      generalize d.next.actE (false, s, x) = E at *
      go_enter Try.func43, Try.ntmps43
      go_wp2_with fail
      rw [← HW0.out]
      refine hft.mono ?_
      rintro e w2 ⟨rfl, hl2⟩
      have hblk := HCELL.out _ hl2
      have c0 := cell_of_row w2 w.heap.size 0 _ _ _ hblk
      have c1 := cell_of_row w2 w.heap.size 1 _ _ _ hblk
      have c2 := cell_of_row w2 w.heap.size 2 _ _ _ hblk
      simp only [List.getElem?_toArray, List.getElem?_cons_zero, List.getElem?_cons_succ] at c0 c1 c2
      obtain ⟨X2, hT2, hk2, hm2⟩ := hl2
      have hc := HACT.out _ _ hT2
      have HK2 := hide hk2
      have HM2 := hide hm2
      clear hft hblk hT2 hk2 hm2 HACT HCELL
      go_wp2_with fail
      refine hc.mono ?_
      rintro e w3 ⟨rfl, hl3⟩
      have HF := hide ((LeftT.trans HK2.out HM2.out hl3).first HB0.out)
      clear hc hl3
      go_wp2
      go_ret
      exact ⟨rfl, HF.out⟩
  · have e1 : d.call (p, s, x) = d.next := by simp [Bk.call, e0]
    have e2 : d.callE (p, s, x) = 34 := by simp [Bk.callE, e0]
    rw [e1, e2]
    rw [e0] at hft
    clear e0 e1 e2 hlt4 HACT HCELL
    generalize fnOf p = FN at *
    go_enter Try.func43, Try.ntmps43
    go_wp2_with fail
    rw [← HW0.out]
    refine hft.mono ?_
    rintro e w2 ⟨rfl, hl2⟩
    have HF := hide (hl2.first HB0.out)
    clear hft hl2
    go_wp2
    go_ret
    exact ⟨rfl, HF.out⟩
  · have e1 : d.call (p, s, x) = d.next.act (p, s, x) := by simp [Bk.call, e0]
    have e2 : d.callE (p, s, x) = 34 := by simp [Bk.callE, e0]
    rw [e1, e2]
    rw [e0] at hft
    clear e0 e1 e2 hlt4
    cases p with
    | true =>
      simp only [fnOf, if_true] at *
      generalize d.next.actE (true, s, x) = E at *
      go_enter Try.func43, Try.ntmps43
      go_wp2_with fail
      rw [← HW0.out]
      refine hft.mono ?_
      rintro e w2 ⟨rfl, hl2⟩
      have hblk := HCELL.out _ hl2
      have c0 := cell_of_row w2 w.heap.size 0 _ _ _ hblk
      have c1 := cell_of_row w2 w.heap.size 1 _ _ _ hblk
      have c2 := cell_of_row w2 w.heap.size 2 _ _ _ hblk
      simp only [List.getElem?_toArray, List.getElem?_cons_zero, List.getElem?_cons_succ] at c0 c1 c2
      obtain ⟨X2, hT2, hk2, hm2⟩ := hl2
      have hc := HACT.out _ _ hT2
      have HK2 := hide hk2
      have HM2 := hide hm2
      clear hft hblk hT2 hk2 hm2 HACT HCELL
      go_wp2_with fail
      refine hc.mono ?_
      rintro e w3 ⟨rfl, hl3⟩
      have HF := hide ((LeftT.trans HK2.out HM2.out hl3).first HB0.out)
      clear hc hl3
      go_wp2
      go_ret
      exact ⟨rfl, HF.out⟩
    | false =>
      simp only [fnOf, Bool.false_eq_true, if_false] at *
      generalize d.next.actE (false, s, x) = E at *
      go_enter Try.func43, Try.ntmps43
      go_wp2_with fail
      rw [← HW0.out]
      refine hft.mono ?_
      rintro e w2 ⟨rfl, hl2⟩
      have hblk := HCELL.out _ hl2
      have c0 := cell_of_row w2 w.heap.size 0 _ _ _ hblk
      have c1 := cell_of_row w2 w.heap.size 1 _ _ _ hblk
      have c2 := cell_of_row w2 w.heap.size 2 _ _ _ hblk
      simp only [List.getElem?_toArray, List.getElem?_cons_zero, List.getElem?_cons_succ] at c0 c1 c2
      obtain ⟨X2, hT2, hk2, hm2⟩ := hl2
      have hc := HACT.out _ _ hT2
      have HK2 := hide hk2
      have HM2 := hide hm2
      clear hft hblk hT2 hk2 hm2 HACT HCELL
      go_wp2_with fail
      refine hc.mono ?_
      rintro e w3 ⟨rfl, hl3⟩
      have HF := hide ((LeftT.trans HK2.out HM2.out hl3).first HB0.out)
      clear hc hl3
      go_wp2
      go_ret
      exact ⟨rfl, HF.out⟩
  · have e1 : d.call (p, s, x) = { d.next with late := d.late ++ [(p, s, x)] } := by simp [Bk.call, e0]
    have e2 : d.callE (p, s, x) = 34 := by simp [Bk.callE, e0]
    rw [e1] at hcok
    rw [e1, e2]
    rw [e0] at hft
    obtain ⟨i0, hi, hz0, hz1, hz2⟩ := info_parts info81
    clear e0 e1 e2 hlt4 HACT
    have hmx : d.late.length + 1 ≤ maxLen := by unfold maxLen; omega
    have hby : (d.late.length + 1) * 40 ≤ 140737488355328 := by omega
    cases p with
    | true =>
      have HONE : Hid (∀ u ∈ encCh (true, s, x), u.oneCell' = true) := fun u hu => encLs_one [(true, s, x)] u (by simpa [encLs] using hu)
      have HENC : Hid (encLs (d.late ++ [(true, s, x)]) = encLs d.late ++ [.func (.func 44) #[] #[], .string s, .string x]) := by show _ = _; rw [encLs_append]; rfl
      simp only [encCh, fnOf, if_true] at *
      go_enter Try.func43, Try.ntmps43
      go_wp2_with fail
      rw [← HW0.out]
      refine hft.mono ?_
      rintro e w2 ⟨rfl, hl2⟩
      have hblk := HCELL.out _ hl2
      have c0 := cell_of_row w2 w.heap.size 0 _ _ _ hblk
      have c1 := cell_of_row w2 w.heap.size 1 _ _ _ hblk
      have c2 := cell_of_row w2 w.heap.size 2 _ _ _ hblk
      simp only [List.getElem?_toArray, List.getElem?_cons_zero, List.getElem?_cons_succ] at c0 c1 c2
      obtain ⟨X2, ⟨ov, fv, lv, hA, rfl⟩, hk2, hm2⟩ := hl2
      have HK2 := hide hk2
      have HM2 := hide hm2
      have HA := hide hA
      have c4 := hA.raw.c.2.2.2.2
      have f4 := hA.raw.fr 4
      have lB := hA.raw.lt
      have nB := hA.raw.nl
      have hb3 := (below_alloc w2 (.cells #[.func (.func 44) #[] #[], .string s, .string x] 81)).drew
      have hrow := hide (hA.raw.ls.later hb3)
      have HB3 := hide hb3
      clear hft hblk hk2 hm2 hA HCELL hb3
      go_wp2
      go_region_law (refine step_append_rw rfl (.tmp 33) (.tmp 35) 67 rfl 81 i0 _ 3 40 Try.underlying67 hi hz0 hz1 hz2 rfl (by decide) _ _ _ (by simp [Act.eval]) hrow.out ⟨w2.heap.size, 0, none⟩ 1 1 [.func (.func 44) #[] #[], .string s, .string x] (by simp [Act.eval]) rfl (cells_new w2 [_, _, _] 81) HONE.out hmx hby ?_; intro v2 w3 g1 g2 g3; obtain ⟨a2, n2, c2, rfl⟩ := g1.own_form; have cB2 := cell_grown c4 lB nB g2; have fB2 := free_grown f4 lB nB g2; replace g1 := hide g1; replace g2 := hide g2; replace g3 := hide g3)
      all_goals
        have HF : Hid (LeftT (bkT b { d.next with late := d.late ++ [(true, s, x)] }) w X (w3.setCell ⟨b, 4, none⟩ (.slice a2 n2 c2))) := by
          have hG : Grew w2 81 3 lv (d.late ++ [(true, s, x)]).length (encLs (d.late ++ [(true, s, x)])) w3 (.slice a2 n2 c2) := by
            refine ⟨by rw [HENC.out, List.length_append]; exact g1.out, (Keep.of_below (X := fun k => lv.ownBlock = some k) HB3.out).trans (Keep.grown g2.out fun _ e => e) fun _ _ e => e, g3.out.imp id fun hf k hk => Nat.le_trans HB3.out.size (hf k hk)⟩
          obtain ⟨r1, r2, r3⟩ := HA.out.raw.putLate hG
          exact (LeftT.trans HK2.out HM2.out ⟨_, ⟨ov, fv, _, ⟨r1, hcok⟩, rfl⟩, r2, r3⟩).first HB0.out
        clear g1 g2 g3
        go_wp2
        go_ret
        exact ⟨rfl, HF.out⟩
    | false =>
      have HONE : Hid (∀ u ∈ encCh (false, s, x), u.oneCell' = true) := fun u hu => encLs_one [(false, s, x)] u (by simpa [encLs] using hu)
      have HENC : Hid (encLs (d.late ++ [(false, s, x)]) = encLs d.late ++ [.func (.func 49) #[] #[], .string s, .string x]) := by show _ = _; rw [encLs_append]; rfl
      simp only [encCh, fnOf, Bool.false_eq_true, if_false] at *
      go_enter Try.func43, Try.ntmps43
      go_wp2_with fail
      rw [← HW0.out]
      refine hft.mono ?_
      rintro e w2 ⟨rfl, hl2⟩
      have hblk := HCELL.out _ hl2
      have c0 := cell_of_row w2 w.heap.size 0 _ _ _ hblk
      have c1 := cell_of_row w2 w.heap.size 1 _ _ _ hblk
      have c2 := cell_of_row w2 w.heap.size 2 _ _ _ hblk
      simp only [List.getElem?_toArray, List.getElem?_cons_zero, List.getElem?_cons_succ] at c0 c1 c2
      obtain ⟨X2, ⟨ov, fv, lv, hA, rfl⟩, hk2, hm2⟩ := hl2
      have HK2 := hide hk2
      have HM2 := hide hm2
      have HA := hide hA
      have c4 := hA.raw.c.2.2.2.2
      have f4 := hA.raw.fr 4
      have lB := hA.raw.lt
      have nB := hA.raw.nl
      have hb3 := (below_alloc w2 (.cells #[.func (.func 49) #[] #[], .string s, .string x] 81)).drew
      have hrow := hide (hA.raw.ls.later hb3)
      have HB3 := hide hb3
      clear hft hblk hk2 hm2 hA HCELL hb3
      go_wp2
      go_region_law (refine step_append_rw rfl (.tmp 33) (.tmp 35) 67 rfl 81 i0 _ 3 40 Try.underlying67 hi hz0 hz1 hz2 rfl (by decide) _ _ _ (by simp [Act.eval]) hrow.out ⟨w2.heap.size, 0, none⟩ 1 1 [.func (.func 49) #[] #[], .string s, .string x] (by simp [Act.eval]) rfl (cells_new w2 [_, _, _] 81) HONE.out hmx hby ?_; intro v2 w3 g1 g2 g3; obtain ⟨a2, n2, c2, rfl⟩ := g1.own_form; have cB2 := cell_grown c4 lB nB g2; have fB2 := free_grown f4 lB nB g2; replace g1 := hide g1; replace g2 := hide g2; replace g3 := hide g3)
      all_goals
        have HF : Hid (LeftT (bkT b { d.next with late := d.late ++ [(false, s, x)] }) w X (w3.setCell ⟨b, 4, none⟩ (.slice a2 n2 c2))) := by
          have hG : Grew w2 81 3 lv (d.late ++ [(false, s, x)]).length (encLs (d.late ++ [(false, s, x)])) w3 (.slice a2 n2 c2) := by
            refine ⟨by rw [HENC.out, List.length_append]; exact g1.out, (Keep.of_below (X := fun k => lv.ownBlock = some k) HB3.out).trans (Keep.grown g2.out fun _ e => e) fun _ _ e => e, g3.out.imp id fun hf k hk => Nat.le_trans HB3.out.size (hf k hk)⟩
          obtain ⟨r1, r2, r3⟩ := HA.out.raw.putLate hG
          exact (LeftT.trans HK2.out HM2.out ⟨_, ⟨ov, fv, _, ⟨r1, hcok⟩, rfl⟩, r2, r3⟩).first HB0.out
        clear g1 g2 g3
        go_wp2
        go_ret
        exact ⟨rfl, HF.out⟩

end Wi
end Go.Proofs.Ythnhapjjgaicdaa
