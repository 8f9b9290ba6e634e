/- Few, of extents that are handed in. -/
import Derived.Test.YtjbgojccfkmlnaaRc
namespace Go.Proofs.Ytjbgojccfkmlnaa
open Go.RowKit
namespace Wi

/-- The four cells of an extent that is only read. -/
structure XR (w : World) (g o : Nat) (x : Xt) : Prop where
  c0 : w.cell? ⟨g, o, none⟩ = some (.int .i64 (x.at_ : Nat))
  c1 : w.cell? ⟨g, o + 1, none⟩ = some (.int .i64 (x.len : Nat))
  c2 : w.cell? ⟨g, o + 2, none⟩ = some (.int .i64 (x.seq : Nat))
  c3 : w.cell? ⟨g, o + 3, none⟩ = some (.int .i64 (x.to : Nat))
  lt : g < w.heap.size
structure Rd (w : World) (a : Option Addr) (n : Nat) (l : List Xt) : Prop where
  len : n = l.length
  cells : ∀ i x, l[i]? = some x → ∃ g off, a = some ⟨g, off, none⟩ ∧ XR w g (off + i * 4) x
theorem XR.later {w w' : World} {g o : Nat} {x : Xt} (h : XR w g o x) (hb : Below w.heap.size w w') : XR w' g o x :=
  ⟨(hb.cell (p := ⟨g, _, none⟩) h.lt).trans h.c0, (hb.cell (p := ⟨g, _, none⟩) h.lt).trans h.c1, (hb.cell (p := ⟨g, _, none⟩) h.lt).trans h.c2, (hb.cell (p := ⟨g, _, none⟩) h.lt).trans h.c3, Nat.lt_of_lt_of_le h.lt hb.size⟩
theorem Rd.later {w w' : World} {a : Option Addr} {n : Nat} {l : List Xt} (h : Rd w a n l) (hb : Below w.heap.size w w') : Rd w' a n l :=
  ⟨h.len, fun i x hi => by
    obtain ⟨g, off, ha, hx⟩ := h.cells i x hi
    exact ⟨g, off, ha, hx.later hb⟩⟩
theorem Es.rd {w : World} {a : Option Addr} {n : Nat} {xs : List Ix} (h : Es w a n xs) (hm : ∀ x ∈ xs, x.may = true) : Rd w a n (xof xs) :=
  ⟨by rw [h.len]; simp [xof], fun i y hi => by
    unfold xof at hi
    rw [List.getElem?_map] at hi
    cases hx : xs[i]? with
    | none => rw [hx] at hi; cases hi
    | some x =>
      rw [hx] at hi
      injection hi with hi
      subst hi
      obtain ⟨g, off, ha, hg, c0, c1, c2, c3⟩ := h.cells i x hx
      have he := Ix.x_ix (hm x (List.mem_of_getElem? hx))
      rw [← he] at c0 c1 c2 c3
      exact ⟨g, off, ha, c0, c1, c2, c3, hg⟩⟩
set_option maxHeartbeats 8000000 in
set_option maxRecDepth 100000 in
theorem join_rd {w : World} {a : Option Addr} {n cap : Nat} {l : List Xt} (h : Rd w a n l) (hcn : n ≤ cap) (hs : Sm l) (hn : n ≤ 1000000) :
    Calls Try.prog 44 #[.slice a n cap] w fun e w' => ∃ v', e = .returned v' ∧ Xs w' v' (joinL l) ∧ From w.heap.size v' ∧ Below w.heap.size w w' := by
  have HX := hide h
  have HS := hide hs
  have HL : Hid (l.length = n) := h.len.symm
  clear h hs
  go_enter Try.func44, Try.ntmps44
  go_wp2
  go_loopw [3, 9] (fun f i wr => ∃ (k : Nat), k ≤ n ∧ i = .int .i64 k ∧ Xs wr f (joinL (l.take k)) ∧ From w.heap.size f ∧ Below w.heap.size w wr) (fun _ i _ => n - (intOf i).toNat)
  case atStart => exact ⟨0, Nat.zero_le _, rfl, Xs.nil _, From.nil _ _ _, Below.refl _ _⟩
  case round =>
    obtain ⟨k, hk, rfl, hF, hFr, hb⟩ := hrel
    obtain ⟨fa, fc, rfl, hfl, hfm⟩ := hF.len
    by_cases hlt : k < n
    · obtain ⟨x, hx⟩ : ∃ x, l[k]? = some x := ⟨_, List.getElem?_eq_getElem (by rw [HL.out]; exact hlt)⟩
      have hxs := HS.out.get hx
      have hJ := joinL_len (l.take k)
      rw [List.length_take] at hJ
      have hT := join_take hx
      have hFS := (HS.out.take k).join
      obtain ⟨g, off, rfl, hX⟩ := (HX.out.later hb).cells k x hx
      obtain ⟨c0, c1, c2, c3, _⟩ := hX
      have hbx := hide (new_x wr x 40)
      have hbb := hide (below_alloc wr (.cells (encX x).toArray 40))
      have HF := hide (hF.later hbb.out)
      have HFr := hide hFr
      have HB := hide (hb.trans (hbb.out.mono hb.size))
      rcases List.eq_nil_or_concat (joinL (l.take k)) with e | ⟨A, y, e⟩
      · rw [e] at HF hT HFr
        rw [stepJ_nil] at hT
        rw [e]
        simp only [List.length_nil] at *
        have HT : Hid (joinL (l.take (k + 1)) = [] ++ [x]) := hT
        obtain ⟨xa, xl, xq, xt⟩ := x
        simp only at *
        clear hF hFr hb hx hT e hJ hFS hfl
        go_wp2_with fail
        obtain ⟨W, hW⟩ : ∃ W, W = wr.alloc (.cells #[.int .i64 (xa : Nat), .int .i64 (xl : Nat), .int .i64 (xq : Nat), .int .i64 (xt : Nat)] 40) := ⟨_, rfl⟩
        have HWE : Hid (W = wr.alloc (.cells #[.int .i64 (xa : Nat), .int .i64 (xl : Nat), .int .i64 (xq : Nat), .int .i64 (xt : Nat)] 40)) := hW
        have HBX : Hid (XCell W wr.heap.size 0 ⟨xa, xl, xq, xt⟩) := by show XCell _ _ _ _; rw [hW]; exact hbx.out
        have HFW : Hid (Xs W (.slice fa 0 fc) []) := by show Xs _ _ _; rw [hW]; exact HF.out
        have HBW : Hid (Below w.heap.size w W) := by show Below _ _ _; rw [hW]; exact HB.out
        rw [← hW]
        clear hW hbx hbb HF HB c0 c1 c2 c3
        have hne := later_ne W
        refine wp_region_later (by kernel_rfl) (by kernel_rfl) ?_
        (repeat (first | go_big_quiet_skip | (go_big_quiet_want; go_big_quiet_op; go_big_quiet_on)))
        refine wpQuiet_nil ?_
        rintro _ ⟨P, rfl⟩
        have hbP := P.below
        have HB3 := hide (HBW.out.trans (hbP.mono HBW.out.size))
        have HF3 := hide (HFW.out.later hbP)
        obtain ⟨d0, d1, d2, d3, _, _⟩ := HBX.out.later hbP
        clear hbP hne
        generalize P.val = w3 at *
        go_wp2_with (at_builtin; refine append30 rfl (.tmp 39) (.tmp 41) rfl _ 0 _ rfl (HF3.out.later (below_alloc _ _)) (some ⟨w3.heap.size, 0, none⟩) 1 1 _ rfl (row_block (x := ⟨xa, xl, xq, xt⟩) (heap_alloc_new _ _)) (encX_oneCell _) (by unfold maxLen; omega) (by omega) ?_; intro v4 w4 g1 g2 g3; replace g1 := hide g1; replace g2 := hide g2; replace g3 := hide g3)
        obtain ⟨p1, p2, p3⟩ := push_x rfl HFr.out (HB3.out.alloc HB3.out.size _) g1.out g2.out g3.out
        have P1 := hide p1
        have P2 := hide p2
        have P3 := hide p3
        clear g1 g2 g3 p1 p2 p3
        go_wp2
        go_roundw
        case rel => exact ⟨k + 1, by omega, by go_num, by rw [HT.out]; exact P1.out, P2.out, P3.out⟩
        case measure => simp [intOf]; omega
      · rw [List.concat_eq_append] at e
        rw [e] at HF hT HFr hFS hJ
        rw [stepJ_snoc] at hT
        have hy := hFS y (by simp)
        rw [e]
        rw [List.length_append, List.length_singleton] at *
        have hAl : A.length + 1 ≤ 1000000 := by omega
        have HT := hide hT
        obtain ⟨fg, foff, hfa⟩ : ∃ fg foff, fa = some ⟨fg, foff, none⟩ := by
          have h0 := HF.out
          rw [← List.length_singleton (a := y), ← List.length_append] at h0
          obtain ⟨_, h1⟩ := h0.at
          obtain ⟨g', off', h2, _⟩ := h1 A.length y (by simp)
          exact ⟨g', off', h2⟩
        subst hfa
        obtain ⟨xa, xl, xq, xt⟩ := x
        obtain ⟨ya, yl, yq, yt⟩ := y
        simp only at *
        clear hF hFr hb hx hT e hJ hFS hfl
        generalize hm : A.length = m at *
        have w1 : (m : Int) + 1 - 1 = (m : Int) := by omega
        have HM := hide hm
        clear hm
        go_wp2_with fail
        obtain ⟨W, hW⟩ : ∃ W, W = wr.alloc (.cells #[.int .i64 (xa : Nat), .int .i64 (xl : Nat), .int .i64 (xq : Nat), .int .i64 (xt : Nat)] 40) := ⟨_, rfl⟩
        have HWE : Hid (W = wr.alloc (.cells #[.int .i64 (xa : Nat), .int .i64 (xl : Nat), .int .i64 (xq : Nat), .int .i64 (xt : Nat)] 40)) := hW
        have HBX : Hid (XCell W wr.heap.size 0 ⟨xa, xl, xq, xt⟩) := by show XCell _ _ _ _; rw [hW]; exact hbx.out
        have HFW : Hid (Xs W (.slice (some ⟨fg, foff, none⟩) (m + 1) fc) (A ++ [⟨ya, yl, yq, yt⟩])) := by show Xs _ _ _; rw [hW]; exact HF.out
        have HBW : Hid (Below w.heap.size w W) := by show Below _ _ _; rw [hW]; exact HB.out
        have hc : ∀ P : Later W, _ := fun P => goes_any ya yl yq yt xa xl xq xt hy hxs P.val
        have HFX : Hid (∀ P : Later W, XCell P.val fg (foff + m * 4) ⟨ya, yl, yq, yt⟩) := fun P => by
          have h0 := HFW.out.later P.below
          exact h0.cell (i := m) (by rw [← HM.out]; simp)
        have y0 : ∀ P : Later W, _ := fun P => (HFX.out P).c0
        have y1 : ∀ P : Later W, _ := fun P => (HFX.out P).c1
        have y2 : ∀ P : Later W, _ := fun P => (HFX.out P).c2
        have y3 : ∀ P : Later W, _ := fun P => (HFX.out P).c3
        have x0 : ∀ P : Later W, _ := fun P => (HBX.out.later P.below).c0
        have x1 : ∀ P : Later W, _ := fun P => (HBX.out.later P.below).c1
        have x2 : ∀ P : Later W, _ := fun P => (HBX.out.later P.below).c2
        have x3 : ∀ P : Later W, _ := fun P => (HBX.out.later P.below).c3
        rw [← hW]
        clear hW hbx hbb HF HB c0 c1 c2 c3
        have hne := later_ne W
        by_cases hG : Goes ⟨ya, yl, yq, yt⟩ ⟨xa, xl, xq, xt⟩
        · rw [if_pos hG] at HT
          simp only [decide_eq_true hG] at hc
          refine wp_region_later (by kernel_rfl) (by kernel_rfl) ?_
          (repeat (first | go_big_quiet_skip | (go_big_quiet_want; go_big_quiet_op; go_big_quiet_on)))
          (go_big_quiet_want; go_big_quiet_op; apply Exists.intro; refine ⟨fun p => ?_, ?_⟩; (· exact later_of (hc p)); go_big_quiet_on)
          (repeat (first | go_big_quiet_skip | (go_big_quiet_want; go_big_quiet_op; go_big_quiet_on)))
          refine wpQuiet_nil ?_
          rintro _ ⟨P, rfl⟩
          have hbP := P.below
          have HB3 := hide (HBW.out.trans (hbP.mono HBW.out.size))
          have HF3 := hide (HFW.out.later hbP)
          obtain ⟨d0, d1, d2, d3, df, dl⟩ := HBX.out.later hbP
          obtain ⟨e0, e1, e2, e3, ef, el⟩ := HFX.out P
          clear hbP hne hc y0 y1 y2 y3 x0 x1 x2 x3 HFX
          generalize P.val = w3 at *
          clear hG
          replace ef := ef (foff + m * 4 + 1)
          have t1 : xl ≤ 65536 := by have := hxs.1; unfold Xt.fin at this; simp only at this; omega
          have t2 : yl ≤ 65536 := by have := hy.1; unfold Xt.fin at this; simp only at this; omega
          have P1 : Hid (Xs (w3.setCell ⟨fg, foff + m * 4 + 1, none⟩ (.int .i64 ((yl : Int) + (xl : Int)))).drew (.slice (some ⟨fg, foff, none⟩) (m + 1) fc) (A ++ [Xt.more ⟨ya, yl, yq, yt⟩ ⟨xa, xl, xq, xt⟩])) := by
            have h0 := HF3.out
            unfold Xs at h0
            rw [List.length_append, List.length_singleton, HM.out] at h0
            have h1 := h0.set (o := m * 4 + 1) (vs := [.int .i64 ((yl : Int) + (xl : Int))]) (by simp; omega) (by simp [Value.oneCell'])
            have h2 := encXs_last A ⟨ya, yl, yq, yt⟩ ⟨xa, xl, xq, xt⟩
            rw [HM.out] at h2
            simp only at h2
            rw [h2, ← Nat.add_assoc] at h1
            have h3 := h1.later (Below.refl _ _).drew
            show Rw _ _ _ _ _ _
            rw [List.length_append, List.length_singleton, HM.out]
            exact h3
          have P3 : Hid (Below w.heap.size w (w3.setCell ⟨fg, foff + m * 4 + 1, none⟩ (.int .i64 ((yl : Int) + (xl : Int)))).drew) := by
            have hk := Keep.setCell (X := fun j => j = fg) w3 ⟨fg, foff + m * 4 + 1, none⟩ (.int .i64 ((yl : Int) + (xl : Int))) rfl
            exact (HB3.out.trans (hk.below HB3.out.size fun k hk e => by have := HFr.out fg rfl; omega)).drew
          go_wp2
          go_region
          rename_i KK hKK
          refine hKK _ _ ?_
          clear d0 d1 d2 d3 e0 e1 e2 e3 df ef
          go_wp2
          go_roundw
          case rel => exact ⟨k + 1, by omega, by go_num, by rw [HT.out]; exact P1.out, HFr.out, P3.out⟩
          case measure => simp [intOf]; omega
        · rw [if_neg hG] at HT
          simp only [decide_eq_false hG] at hc
          refine wp_region_later (by kernel_rfl) (by kernel_rfl) ?_
          (repeat (first | go_big_quiet_skip | (go_big_quiet_want; go_big_quiet_op; go_big_quiet_on)))
          (go_big_quiet_want; go_big_quiet_op; apply Exists.intro; refine ⟨fun p => ?_, ?_⟩; (· exact later_of (hc p)); go_big_quiet_on)
          (repeat (first | go_big_quiet_skip | (go_big_quiet_want; go_big_quiet_op; go_big_quiet_on)))
          refine wpQuiet_nil ?_
          rintro _ ⟨P, rfl⟩
          have hbP := P.below
          have HB3 := hide (HBW.out.trans (hbP.mono HBW.out.size))
          have HF3 := hide (HFW.out.later hbP)
          obtain ⟨d0, d1, d2, d3, _, _⟩ := HBX.out.later hbP
          clear hbP hne hc y0 y1 y2 y3 x0 x1 x2 x3 HFX
          generalize P.val = w3 at *
          clear hG
          have HF4 : Hid (Rw w3 40 4 (.slice (some ⟨fg, foff, none⟩) (m + 1) fc) (m + 1) (encXs (A ++ [⟨ya, yl, yq, yt⟩]))) := by
            have h0 := HF3.out
            unfold Xs at h0
            rwa [List.length_append, List.length_singleton, HM.out] at h0
          have HL2 : Hid ((A ++ [(⟨ya, yl, yq, yt⟩ : Xt)]).length = m + 1) := by show _ = _; rw [List.length_append, List.length_singleton, HM.out]
          go_wp2_with (at_builtin; refine append30 rfl (.tmp 39) (.tmp 41) rfl _ (m + 1) _ rfl (HF4.out.later (below_alloc _ _)) (some ⟨w3.heap.size, 0, none⟩) 1 1 _ rfl (row_block (x := ⟨xa, xl, xq, xt⟩) (heap_alloc_new _ _)) (encX_oneCell _) (by unfold maxLen; omega) (by omega) ?_; intro v4 w4 g1 g2 g3; replace g1 := hide g1; replace g2 := hide g2; replace g3 := hide g3)
          obtain ⟨p1, p2, p3⟩ := push_x HL2.out HFr.out (HB3.out.alloc HB3.out.size _) g1.out g2.out g3.out
          have P1 := hide p1
          have P2 := hide p2
          have P3 := hide p3
          clear g1 g2 g3 p1 p2 p3
          go_wp2
          go_roundw
          case rel => exact ⟨k + 1, by omega, by go_num, by rw [HT.out]; exact P1.out, P2.out, P3.out⟩
          case measure => simp [intOf]; omega
    · obtain rfl : k = n := by omega
      have HF : Hid (Xs wr (.slice fa (joinL (l.take k)).length fc) (joinL l)) := by
        have := hF
        rw [List.take_of_length_le (by rw [HL.out]; exact Nat.le_refl _)] at this ⊢
        exact this
      have HB := hide hb
      have HFr := hide hFr
      clear hF hb hFr
      go_wp2
      go_ret
      exact ⟨_, rfl, HF.out, HFr.out, HB.out⟩

/-- Are so many extents that are handed in such as may be, and do they rise? -/
def upB (xs : List Ix) : Nat → Bool
  | 0 => true
  | k + 1 => upB xs k && (match xs[k]? with
    | none => false
    | some x => x.may && (match k with
      | 0 => true
      | j + 1 => match xs[j]? with
        | none => false
        | some y => decide (y.a + y.n ≤ x.a)))
theorem upB_may {xs : List Ix} : ∀ {k : Nat}, upB xs k = true → ∀ j x, j < k → xs[j]? = some x → x.may = true
  | 0, _, j, x, h, _ => by omega
  | k + 1, hu, j, x, h, hx => by
    rw [upB, Bool.and_eq_true] at hu
    by_cases e : j = k
    · subst e
      rw [hx] at hu
      have := hu.2
      simp only [Bool.and_eq_true] at this
      exact this.1
    · exact upB_may hu.1 j x (by omega) hx
theorem upB_less {xs : List Ix} {k : Nat} (h : upB xs (k + 1) = true) : upB xs k = true := by
  rw [upB, Bool.and_eq_true] at h
  exact h.1
theorem upB_le {xs : List Ix} {k : Nat} : ∀ {m : Nat}, k ≤ m → upB xs m = true → upB xs k = true
  | 0, h, hu => by obtain rfl : k = 0 := by omega
                   exact hu
  | m + 1, h, hu => by
    by_cases e : k = m + 1
    · subst e; exact hu
    · exact upB_le (m := m) (by omega) (upB_less hu)
/-- Where the ones ahead end. -/
def endB (xs : List Ix) : Nat → Int
  | 0 => 0
  | k + 1 => match xs[k]? with
    | none => 0
    | some y => y.a + y.n
theorem upB_next {xs : List Ix} {k : Nat} {x : Ix} (hx : xs[k]? = some x) (h : upB xs k = true) : upB xs (k + 1) = (x.may && decide (endB xs k ≤ x.a)) := by
  rw [upB, h, Bool.true_and, hx]
  simp only
  cases hm : x.may with
  | false => simp
  | true =>
    cases k with
    | zero =>
      have h2 : 0 ≤ x.a := by
        unfold Ix.may mayX mayS at hm
        simp at hm
        omega
      simp [endB, h2]
    | succ j =>
      cases hy : xs[j]? with
      | none =>
        have := (List.getElem?_eq_none_iff).1 hy
        have := (List.getElem?_eq_some_iff.1 hx).1
        omega
      | some y => simp [endB, hy]
def FewP (b : Bool) (w : World) (f : Value) (l : List Xt) : Prop := if b then Xs w f l else f = .slice none 0 0
theorem FewP.yes {b : Bool} {w : World} {f : Value} {l : List Xt} (hb : b = true) (h : Xs w f l) : FewP b w f l := by subst hb; exact h
theorem FewP.no {b : Bool} {w : World} {l : List Xt} (hb : b = false) : FewP b w (.slice none 0 0) l := by subst hb; rfl
set_option maxHeartbeats 8000000 in
set_option maxRecDepth 100000 in
theorem progfew_any {w : World} {a : Option Addr} {n cap : Nat} {xs : List Ix} (h : Es w a n xs) (hcn : n ≤ cap) (hn : n ≤ 40) :
    Calls Try.prog 23 #[.slice a n cap] w fun e w' => ∃ f, e = .returned f ∧ FewP (upB xs n) w' f (joinL (xof xs)) ∧ From w.heap.size f ∧ Below w.heap.size w w' := by
  have HE := hide h
  have HL := hide h.len
  have HJ : Hid (upB xs n = true → ∀ w', Below w.heap.size w w' → Calls Try.prog 44 #[.slice a n cap] w' fun e w'' => ∃ v', e = .returned v' ∧ Xs w'' v' (joinL (xof xs)) ∧ From w'.heap.size v' ∧ Below w'.heap.size w' w'') := fun hu w' hb => by
    have hm : ∀ x ∈ xs, x.may = true := fun x hx => by
      obtain ⟨j, hj, rfl⟩ := List.mem_iff_getElem.1 hx
      exact upB_may hu j _ (by have := h.len; omega) (List.getElem?_eq_getElem hj)
    exact join_rd ((h.rd hm).later hb) hcn (fun y hy => by
      obtain ⟨x, hx, rfl⟩ := List.mem_map.1 hy
      exact (Ix.sm (hm x hx)).1) (by omega)
  have HU : Hid (∀ k, k < n → upB xs (k + 1) = false → upB xs n = false) := fun k hk hf => by
    cases hu : upB xs n with
    | false => rfl
    | true => rw [upB_le (k := k + 1) (m := n) (by omega) hu] at hf; cases hf
  clear h
  go_enter Try.func23, Try.ntmps23
  go_wp2
  go_loopw [3, 8] (fun s i wr => ∃ k : Nat, k ≤ n ∧ i = .int .i64 k ∧ s = .int .i64 (endB xs k) ∧ upB xs k = true ∧ (-65536 ≤ endB xs k ∧ endB xs k ≤ 65536) ∧ Below w.heap.size w wr) (fun _ i _ => n - (intOf i).toNat)
  case atStart => exact ⟨0, Nat.zero_le _, rfl, rfl, rfl, by show -65536 ≤ (0 : Int) ∧ (0 : Int) ≤ 65536; omega, Below.refl _ _⟩
  case round =>
    obtain ⟨k, hk, rfl, rfl, hu, hend, hb⟩ := hrel
    by_cases hlt : k < n
    · obtain ⟨x, hx⟩ : ∃ x, xs[k]? = some x := ⟨_, List.getElem?_eq_getElem (by have := HL.out; omega)⟩
      have hr := HE.out.rng x (List.mem_of_getElem? hx)
      obtain ⟨g, off, rfl, hg, c0, c1, c2, c3⟩ := (HE.out.later hb).cells k x hx
      have hbb := below_alloc wr (.cells #[.int .i64 x.a, .int .i64 x.n, .int .i64 x.q, .int .i64 x.t] 40)
      have hc := may_any x.a x.n x.q x.t hr.a hr.n (wr.alloc (.cells #[.int .i64 x.a, .int .i64 x.n, .int .i64 x.q, .int .i64 x.t] 40))
      have HBX := heap_alloc_new wr (.cells #[.int .i64 x.a, .int .i64 x.n, .int .i64 x.q, .int .i64 x.t] 40)
      have HB := hide (hb.trans (hbb.mono hb.size))
      have HUX := hide (upB_next hx hu)
      have HEX : Hid (endB xs (k + 1) = x.a + x.n) := by show _ = _; rw [endB, hx]
      have HFF := hide (HU.out k hlt)
      have HC : Hid (∀ w', Below (wr.alloc (.cells #[.int .i64 x.a, .int .i64 x.n, .int .i64 x.q, .int .i64 x.t] 40)).heap.size (wr.alloc (.cells #[.int .i64 x.a, .int .i64 x.n, .int .i64 x.q, .int .i64 x.t] 40)) w' → w'.cell? ⟨wr.heap.size, 0, none⟩ = some (.int .i64 x.a) ∧ w'.cell? ⟨wr.heap.size, 1, none⟩ = some (.int .i64 x.n)) := fun w' hb => by
        have hl := lt_of_block HBX
        refine ⟨?_, ?_⟩ <;> (rw [hb.cell hl, cell_of_row _ _ _ _ _ _ HBX]; rfl)
      obtain ⟨E, hE⟩ : ∃ E, endB xs k = E := ⟨_, rfl⟩
      rw [hE] at HUX hend ⊢
      obtain ⟨xa, xn, xq, xt⟩ := x
      unfold vX at hc
      simp only at *
      clear hx hr hb hu hbb HBX hE
      cases hm : mayX xa xn xq xt with
      | false =>
        rw [hm, show erB false = 1 from rfl] at hc
        have HN : Hid (upB xs n = false) := HFF.out (by rw [HUX.out, show Ix.may ⟨xa, xn, xq, xt⟩ = false from hm]; rfl)
        clear hm
        go_wp2_with fail
        refine hc.mono ?_
        rintro e w2 ⟨rfl, hb2⟩
        have HB2 := hide (HB.out.trans (hb2.mono HB.out.size))
        clear hc hb2
        go_wp2
        go_ret
        exact ⟨_, rfl, FewP.no HN.out, From.nil _ _ _, HB2.out⟩
      | true =>
        rw [hm, show erB true = 0 from rfl] at hc
        have hms : mayS xa xn = true := by
          unfold mayX at hm
          rw [Bool.and_eq_true] at hm
          exact hm.1
        obtain ⟨m1, m2, m3, m4⟩ := mayS_nat hms
        have b1 : 0 ≤ xa := by omega
        have b2 : xa ≤ 65536 := by omega
        have b3 : 1 ≤ xn := by omega
        have b4 : xa + xn ≤ 65536 := by omega
        have HM : Hid (Ix.may ⟨xa, xn, xq, xt⟩ = true) := hm
        clear m1 m2 m3 m4 hms hm
        by_cases hlow : xa < E
        · have HN : Hid (upB xs n = false) := HFF.out (by rw [HUX.out, decide_eq_false (by omega), Bool.and_false])
          go_wp2_with fail
          refine hc.mono ?_
          rintro e w2 ⟨rfl, hb2⟩
          obtain ⟨k0, k1⟩ := HC.out w2 hb2
          have HB2 := hide (HB.out.trans (hb2.mono HB.out.size))
          clear hc hb2
          go_wp2
          go_ret
          exact ⟨_, rfl, FewP.no HN.out, From.nil _ _ _, HB2.out⟩
        · have HN : Hid (upB xs (k + 1) = true) := by show _ = _; rw [HUX.out, HM.out, decide_eq_true (by omega)]; rfl
          go_wp2_with fail
          refine hc.mono ?_
          rintro e w2 ⟨rfl, hb2⟩
          obtain ⟨k0, k1⟩ := HC.out w2 hb2
          have hc3 := end_any xa xn ⟨by omega, by omega⟩ w2
          have HB2 := hide (HB.out.trans (hb2.mono HB.out.size))
          clear hc hb2
          go_wp2_with fail
          refine hc3.mono ?_
          rintro e w3 ⟨rfl, hb3⟩
          have HB3 := hide (HB2.out.trans (hb3.mono HB2.out.size))
          clear hc3 hb3 k0 k1
          go_wp2
          go_roundw
          case rel => exact ⟨k + 1, by omega, by go_num, by rw [HEX.out], HN.out, by rw [HEX.out]; omega, HB3.out⟩
          case measure => simp [intOf]; omega
    · obtain rfl : k = n := by omega
      have hc := HJ.out hu wr hb
      have HUU := hide hu
      have HB := hide hb
      clear hu hb
      go_wp2_with fail
      refine hc.mono ?_
      rintro e w2 ⟨f, rfl, hf, hnf, hb2⟩
      have HF := hide hf
      have HN : Hid (From w.heap.size f) := fun i hi => Nat.le_trans HB.out.size (hnf i hi)
      have HB2 := hide (HB.out.trans (hb2.mono HB.out.size))
      clear hc hf hnf hb2
      go_wp2
      go_ret
      exact ⟨_, rfl, FewP.yes HUU.out HF.out, HN.out, HB2.out⟩

end Wi
end Go.Proofs.Ytjbgojccfkmlnaa
