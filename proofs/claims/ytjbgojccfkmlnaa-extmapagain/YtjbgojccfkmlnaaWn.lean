/- Extents joined to as few as can be, in new memory. -/
import Derived.Test.YtjbgojccfkmlnaaWm
import Derived.Test.YtjbgojccfkmlnaaMf
namespace Go.Proofs.Ytjbgojccfkmlnaa
open Go.RowKit
namespace Wi

theorem Sm.step {A : List Xt} {x : Xt} (hA : Sm A) (hx : x.Sm) : Sm (stepJ A x) := by
  rcases List.eq_nil_or_concat A with rfl | ⟨B, y, rfl⟩
  · intro z hz
    rw [stepJ_nil] at hz
    simp at hz
    subst hz
    exact hx
  · rw [List.concat_eq_append] at hA ⊢
    rw [stepJ_snoc]
    have hy := hA y (by simp)
    split
    · rename_i hg
      intro z hz
      rcases List.mem_append.1 hz with hz | hz
      · exact hA z (by simp [hz])
      · simp at hz
        subst hz
        obtain ⟨g1, g2, g3⟩ := hg
        obtain ⟨h1, h2, h3⟩ := hx
        obtain ⟨k1, k2, k3⟩ := hy
        unfold Xt.Sm Xt.more Xt.fin at *
        simp only
        omega
    · intro z hz
      rcases List.mem_append.1 hz with hz | hz
      · exact hA z hz
      · simp at hz
        subst hz
        exact hx
theorem Sm.join {l : List Xt} (h : Sm l) : Sm (joinL l) := by
  rw [← foldJ]
  have main : ∀ (r A : List Xt), Sm A → Sm r → Sm (r.foldl stepJ A) := by
    intro r
    induction r with
    | nil => exact fun A hA _ => hA
    | cons x r ih => exact fun A hA hr => ih _ (hA.step (hr x (by simp))) fun z hz => hr z (by simp [hz])
  exact main l [] (fun z hz => by simp at hz) h
theorem join_take {l : List Xt} {k : Nat} {x : Xt} (h : l[k]? = some x) : joinL (l.take (k + 1)) = stepJ (joinL (l.take k)) x := by
  rw [List.take_add_one, h]
  exact joinL_snoc _ _
theorem Sm.take {l : List Xt} (h : Sm l) (k : Nat) : Sm (l.take k) := fun x hx => h x (List.mem_of_mem_take hx)
theorem join_len : ∀ (r : List Xt) (A : List Xt), (r.foldl stepJ A).length ≤ A.length + r.length
  | [], A => by simp
  | x :: r, A => by
    have := join_len r (stepJ A x)
    have h : (stepJ A x).length ≤ A.length + 1 := by
      rcases List.eq_nil_or_concat A with rfl | ⟨B, y, rfl⟩
      · simp [stepJ_nil]
      · rw [List.concat_eq_append, stepJ_snoc]
        split <;> simp
    rw [List.foldl_cons, List.length_cons]
    omega
theorem joinL_len (l : List Xt) : (joinL l).length ≤ l.length := by
  rw [← foldJ]
  have := join_len l []
  simpa using this
theorem encXs_last (A : List Xt) (y x : Xt) : splice (encXs (A ++ [y])) (A.length * 4 + 1) [.int .i64 ((y.len : Nat) + (x.len : Nat) : Int)] = encXs (A ++ [y.more x]) := by
  rw [encXs_append, encXs_append, ← encXs_length, splice_behind]
  simp [encXs, encX, splice, Xt.more]
theorem push_x {w W w4 : World} {f v4 : Value} {A : List Xt} {x : Xt} {n : Nat} (hn : A.length = n) (hFr : From w.heap.size f) (hB : Below w.heap.size w W) (g1 : Rw w4 40 4 v4 (n + 1) (encXs A ++ encX x)) (g2 : W.grownBy w4 f.ownBlock) (g3 : Moved W f v4) : Xs w4 v4 (A ++ [x]) ∧ From w.heap.size v4 ∧ Below w.heap.size w w4 := by
  subst hn
  refine ⟨?_, hFr.moved g3 hB.size, below_grown hB g2 hB.size hFr⟩
  have e : encXs (A ++ [x]) = encXs A ++ encX x := by rw [encXs_append]; simp [encXs]
  unfold Xs
  rw [e, List.length_append]
  exact g1
set_option maxHeartbeats 8000000 in
set_option maxRecDepth 100000 in
theorem join_any {w : World} {v : Value} {l : List Xt} (h : Xs w v l) (hs : Sm l) (hn : l.length ≤ 1000000) :
    Calls Try.prog 44 #[v] w fun e w' => ∃ v', e = .returned v' ∧ Xs w' v' (joinL l) ∧ From w.heap.size v' ∧ Below w.heap.size w w' := by
  obtain ⟨a, cap, rfl, hlc, hcm⟩ := h.len
  have HX := hide h
  have HS := hide hs
  obtain ⟨n, hL⟩ : ∃ n, l.length = n := ⟨_, rfl⟩
  have HL := hide hL
  rw [hL] at hn hlc HX ⊢
  clear h hs hL
  go_enter Try.func44, Try.ntmps44
  go_wp2
  go_loopw [3, 9] (fun f i wr => ∃ (k : Nat), k ≤ n ∧ i = .int .i64 k ∧ Xs wr f (joinL (l.take k)) ∧ From w.heap.size f ∧ Below w.heap.size w wr) (fun _ i _ => n - (intOf i).toNat)
  case atStart => exact ⟨0, Nat.zero_le _, rfl, Xs.nil _, From.nil _ _ _, Below.refl _ _⟩
  case round =>
    obtain ⟨k, hk, rfl, hF, hFr, hb⟩ := hrel
    obtain ⟨fa, fc, rfl, hfl, hfm⟩ := hF.len
    by_cases hlt : k < n
    · obtain ⟨x, hx⟩ : ∃ x, l[k]? = some x := ⟨_, List.getElem?_eq_getElem (by rw [HL.out]; exact hlt)⟩
      have hxs := HS.out.get hx
      have hJ := joinL_len (l.take k)
      rw [List.length_take] at hJ
      have hT := join_take hx
      have hFS := (HS.out.take k).join
      obtain ⟨hxx, hat⟩ := Xs.at (n := n) (by have := HX.out; exact this)
      clear hxx
      obtain ⟨g, off, rfl, hX⟩ := hat k x hx
      obtain ⟨c0, c1, c2, c3, _, _⟩ := hX.later hb
      have hbx := hide (new_x wr x 40)
      have hbb := hide (below_alloc wr (.cells (encX x).toArray 40))
      have HF := hide (hF.later hbb.out)
      have HFr := hide hFr
      have HB := hide (hb.trans (hbb.out.mono hb.size))
      rcases List.eq_nil_or_concat (joinL (l.take k)) with e | ⟨A, y, e⟩
      · rw [e] at HF hT HFr
        rw [stepJ_nil] at hT
        rw [e]
        simp only [List.length_nil] at *
        have HT : Hid (joinL (l.take (k + 1)) = [] ++ [x]) := hT
        obtain ⟨xa, xl, xq, xt⟩ := x
        simp only at *
        clear hX hat hF hFr hb hx hT e hJ hFS hfl
        go_wp2_with fail
        obtain ⟨W, hW⟩ : ∃ W, W = wr.alloc (.cells #[.int .i64 (xa : Nat), .int .i64 (xl : Nat), .int .i64 (xq : Nat), .int .i64 (xt : Nat)] 40) := ⟨_, rfl⟩
        have HWE : Hid (W = wr.alloc (.cells #[.int .i64 (xa : Nat), .int .i64 (xl : Nat), .int .i64 (xq : Nat), .int .i64 (xt : Nat)] 40)) := hW
        have HBX : Hid (XCell W wr.heap.size 0 ⟨xa, xl, xq, xt⟩) := by show XCell _ _ _ _; rw [hW]; exact hbx.out
        have HFW : Hid (Xs W (.slice fa 0 fc) []) := by show Xs _ _ _; rw [hW]; exact HF.out
        have HBW : Hid (Below w.heap.size w W) := by show Below _ _ _; rw [hW]; exact HB.out
        rw [← hW]
        clear hW hbx hbb HF HB c0 c1 c2 c3
        have hne := later_ne W
        refine wp_region_later (by kernel_rfl) (by kernel_rfl) ?_
        (repeat (first | go_big_quiet_skip | (go_big_quiet_want; go_big_quiet_op; go_big_quiet_on)))
        refine wpQuiet_nil ?_
        rintro _ ⟨P, rfl⟩
        have hbP := P.below
        have HB3 := hide (HBW.out.trans (hbP.mono HBW.out.size))
        have HF3 := hide (HFW.out.later hbP)
        obtain ⟨d0, d1, d2, d3, _, _⟩ := HBX.out.later hbP
        clear hbP hne
        generalize P.val = w3 at *
        go_wp2_with (at_builtin; refine append30 rfl (.tmp 39) (.tmp 41) rfl _ 0 _ rfl (HF3.out.later (below_alloc _ _)) (some ⟨w3.heap.size, 0, none⟩) 1 1 _ rfl (row_block (x := ⟨xa, xl, xq, xt⟩) (heap_alloc_new _ _)) (encX_oneCell _) (by unfold maxLen; omega) (by omega) ?_; intro v4 w4 g1 g2 g3; replace g1 := hide g1; replace g2 := hide g2; replace g3 := hide g3)
        obtain ⟨p1, p2, p3⟩ := push_x rfl HFr.out (HB3.out.alloc HB3.out.size _) g1.out g2.out g3.out
        have P1 := hide p1
        have P2 := hide p2
        have P3 := hide p3
        clear g1 g2 g3 p1 p2 p3
        go_wp2
        go_roundw
        case rel => exact ⟨k + 1, by omega, by go_num, by rw [HT.out]; exact P1.out, P2.out, P3.out⟩
        case measure => simp [intOf]; omega
      · rw [List.concat_eq_append] at e
        rw [e] at HF hT HFr hFS hJ
        rw [stepJ_snoc] at hT
        have hy := hFS y (by simp)
        rw [e]
        rw [List.length_append, List.length_singleton] at *
        have hAl : A.length + 1 ≤ 1000000 := by omega
        have HT := hide hT
        obtain ⟨fg, foff, hfa⟩ : ∃ fg foff, fa = some ⟨fg, foff, none⟩ := by
          have h0 := HF.out
          rw [← List.length_singleton (a := y), ← List.length_append] at h0
          obtain ⟨_, h1⟩ := h0.at
          obtain ⟨g', off', h2, _⟩ := h1 A.length y (by simp)
          exact ⟨g', off', h2⟩
        subst hfa
        obtain ⟨xa, xl, xq, xt⟩ := x
        obtain ⟨ya, yl, yq, yt⟩ := y
        simp only at *
        clear hX hat hF hFr hb hx hT e hJ hFS hfl
        generalize hm : A.length = m at *
        have w1 : (m : Int) + 1 - 1 = (m : Int) := by omega
        have HM := hide hm
        clear hm
        go_wp2_with fail
        obtain ⟨W, hW⟩ : ∃ W, W = wr.alloc (.cells #[.int .i64 (xa : Nat), .int .i64 (xl : Nat), .int .i64 (xq : Nat), .int .i64 (xt : Nat)] 40) := ⟨_, rfl⟩
        have HWE : Hid (W = wr.alloc (.cells #[.int .i64 (xa : Nat), .int .i64 (xl : Nat), .int .i64 (xq : Nat), .int .i64 (xt : Nat)] 40)) := hW
        have HBX : Hid (XCell W wr.heap.size 0 ⟨xa, xl, xq, xt⟩) := by show XCell _ _ _ _; rw [hW]; exact hbx.out
        have HFW : Hid (Xs W (.slice (some ⟨fg, foff, none⟩) (m + 1) fc) (A ++ [⟨ya, yl, yq, yt⟩])) := by show Xs _ _ _; rw [hW]; exact HF.out
        have HBW : Hid (Below w.heap.size w W) := by show Below _ _ _; rw [hW]; exact HB.out
        have hc : ∀ P : Later W, _ := fun P => goes_any ya yl yq yt xa xl xq xt hy hxs P.val
        have HFX : Hid (∀ P : Later W, XCell P.val fg (foff + m * 4) ⟨ya, yl, yq, yt⟩) := fun P => by
          have h0 := HFW.out.later P.below
          exact h0.cell (i := m) (by rw [← HM.out]; simp)
        have y0 : ∀ P : Later W, _ := fun P => (HFX.out P).c0
        have y1 : ∀ P : Later W, _ := fun P => (HFX.out P).c1
        have y2 : ∀ P : Later W, _ := fun P => (HFX.out P).c2
        have y3 : ∀ P : Later W, _ := fun P => (HFX.out P).c3
        have x0 : ∀ P : Later W, _ := fun P => (HBX.out.later P.below).c0
        have x1 : ∀ P : Later W, _ := fun P => (HBX.out.later P.below).c1
        have x2 : ∀ P : Later W, _ := fun P => (HBX.out.later P.below).c2
        have x3 : ∀ P : Later W, _ := fun P => (HBX.out.later P.below).c3
        rw [← hW]
        clear hW hbx hbb HF HB c0 c1 c2 c3
        have hne := later_ne W
        by_cases hG : Goes ⟨ya, yl, yq, yt⟩ ⟨xa, xl, xq, xt⟩
        · rw [if_pos hG] at HT
          simp only [decide_eq_true hG] at hc
          refine wp_region_later (by kernel_rfl) (by kernel_rfl) ?_
          (repeat (first | go_big_quiet_skip | (go_big_quiet_want; go_big_quiet_op; go_big_quiet_on)))
          (go_big_quiet_want; go_big_quiet_op; apply Exists.intro; refine ⟨fun p => ?_, ?_⟩; (· exact later_of (hc p)); go_big_quiet_on)
          (repeat (first | go_big_quiet_skip | (go_big_quiet_want; go_big_quiet_op; go_big_quiet_on)))
          refine wpQuiet_nil ?_
          rintro _ ⟨P, rfl⟩
          have hbP := P.below
          have HB3 := hide (HBW.out.trans (hbP.mono HBW.out.size))
          have HF3 := hide (HFW.out.later hbP)
          obtain ⟨d0, d1, d2, d3, df, dl⟩ := HBX.out.later hbP
          obtain ⟨e0, e1, e2, e3, ef, el⟩ := HFX.out P
          clear hbP hne hc y0 y1 y2 y3 x0 x1 x2 x3 HFX
          generalize P.val = w3 at *
          clear hG
          replace ef := ef (foff + m * 4 + 1)
          have t1 : xl ≤ 65536 := by have := hxs.1; unfold Xt.fin at this; simp only at this; omega
          have t2 : yl ≤ 65536 := by have := hy.1; unfold Xt.fin at this; simp only at this; omega
          have P1 : Hid (Xs (w3.setCell ⟨fg, foff + m * 4 + 1, none⟩ (.int .i64 ((yl : Int) + (xl : Int)))).drew (.slice (some ⟨fg, foff, none⟩) (m + 1) fc) (A ++ [Xt.more ⟨ya, yl, yq, yt⟩ ⟨xa, xl, xq, xt⟩])) := by
            have h0 := HF3.out
            unfold Xs at h0
            rw [List.length_append, List.length_singleton, HM.out] at h0
            have h1 := h0.set (o := m * 4 + 1) (vs := [.int .i64 ((yl : Int) + (xl : Int))]) (by simp; omega) (by simp [Value.oneCell'])
            have h2 := encXs_last A ⟨ya, yl, yq, yt⟩ ⟨xa, xl, xq, xt⟩
            rw [HM.out] at h2
            simp only at h2
            rw [h2, ← Nat.add_assoc] at h1
            have h3 := h1.later (Below.refl _ _).drew
            show Rw _ _ _ _ _ _
            rw [List.length_append, List.length_singleton, HM.out]
            exact h3
          have P3 : Hid (Below w.heap.size w (w3.setCell ⟨fg, foff + m * 4 + 1, none⟩ (.int .i64 ((yl : Int) + (xl : Int)))).drew) := by
            have hk := Keep.setCell (X := fun j => j = fg) w3 ⟨fg, foff + m * 4 + 1, none⟩ (.int .i64 ((yl : Int) + (xl : Int))) rfl
            exact (HB3.out.trans (hk.below HB3.out.size fun k hk e => by have := HFr.out fg rfl; omega)).drew
          go_wp2
          go_region
          rename_i KK hKK
          refine hKK _ _ ?_
          clear d0 d1 d2 d3 e0 e1 e2 e3 df ef
          go_wp2
          go_roundw
          case rel => exact ⟨k + 1, by omega, by go_num, by rw [HT.out]; exact P1.out, HFr.out, P3.out⟩
          case measure => simp [intOf]; omega
        · rw [if_neg hG] at HT
          simp only [decide_eq_false hG] at hc
          refine wp_region_later (by kernel_rfl) (by kernel_rfl) ?_
          (repeat (first | go_big_quiet_skip | (go_big_quiet_want; go_big_quiet_op; go_big_quiet_on)))
          (go_big_quiet_want; go_big_quiet_op; apply Exists.intro; refine ⟨fun p => ?_, ?_⟩; (· exact later_of (hc p)); go_big_quiet_on)
          (repeat (first | go_big_quiet_skip | (go_big_quiet_want; go_big_quiet_op; go_big_quiet_on)))
          refine wpQuiet_nil ?_
          rintro _ ⟨P, rfl⟩
          have hbP := P.below
          have HB3 := hide (HBW.out.trans (hbP.mono HBW.out.size))
          have HF3 := hide (HFW.out.later hbP)
          obtain ⟨d0, d1, d2, d3, _, _⟩ := HBX.out.later hbP
          clear hbP hne hc y0 y1 y2 y3 x0 x1 x2 x3 HFX
          generalize P.val = w3 at *
          clear hG
          have HF4 : Hid (Rw w3 40 4 (.slice (some ⟨fg, foff, none⟩) (m + 1) fc) (m + 1) (encXs (A ++ [⟨ya, yl, yq, yt⟩]))) := by
            have h0 := HF3.out
            unfold Xs at h0
            rwa [List.length_append, List.length_singleton, HM.out] at h0
          have HL2 : Hid ((A ++ [(⟨ya, yl, yq, yt⟩ : Xt)]).length = m + 1) := by show _ = _; rw [List.length_append, List.length_singleton, HM.out]
          go_wp2_with (at_builtin; refine append30 rfl (.tmp 39) (.tmp 41) rfl _ (m + 1) _ rfl (HF4.out.later (below_alloc _ _)) (some ⟨w3.heap.size, 0, none⟩) 1 1 _ rfl (row_block (x := ⟨xa, xl, xq, xt⟩) (heap_alloc_new _ _)) (encX_oneCell _) (by unfold maxLen; omega) (by omega) ?_; intro v4 w4 g1 g2 g3; replace g1 := hide g1; replace g2 := hide g2; replace g3 := hide g3)
          obtain ⟨p1, p2, p3⟩ := push_x HL2.out HFr.out (HB3.out.alloc HB3.out.size _) g1.out g2.out g3.out
          have P1 := hide p1
          have P2 := hide p2
          have P3 := hide p3
          clear g1 g2 g3 p1 p2 p3
          go_wp2
          go_roundw
          case rel => exact ⟨k + 1, by omega, by go_num, by rw [HT.out]; exact P1.out, P2.out, P3.out⟩
          case measure => simp [intOf]; omega
    · obtain rfl : k = n := by omega
      have HF : Hid (Xs wr (.slice fa (joinL (l.take k)).length fc) (joinL l)) := by
        have := hF
        rw [List.take_of_length_le (by rw [HL.out]; exact Nat.le_refl _)] at this ⊢
        exact this
      have HB := hide hb
      have HFr := hide hFr
      clear hF hb hFr
      go_wp2
      go_ret
      exact ⟨_, rfl, HF.out, HFr.out, HB.out⟩

end Wi
end Go.Proofs.Ytjbgojccfkmlnaa
