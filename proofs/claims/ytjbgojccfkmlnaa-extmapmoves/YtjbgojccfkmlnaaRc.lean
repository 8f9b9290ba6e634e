/- What the map of the document finds. -/
import Derived.Test.YtjbgojccfkmlnaaRb
import Derived.Test.YtjbgojccfkmlnaaWn
import Derived.Test.YtjbgojccfkmlnaaMf
namespace Go.Proofs.Ytjbgojccfkmlnaa
open Go.RowKit
namespace Wi

/-- The document's map keeps to the numbers' bounds. -/
def Rf.Ok (d : Rf) : Prop := ∀ i, d.sq i < 1099511627776 ∧ d.to i < 1099511693312
def one1 (d : Rf) (i : Nat) : Xt := ⟨i, 1, d.sq i, d.to i⟩
/-- What is found of so many sectors. -/
def findN (d : Rf) (a : Nat) : Nat → List Xt
  | 0 => []
  | m + 1 => if d.is (a + m) then stepJ (findN d a m) (one1 d (a + m)) else findN d a m
def singles (d : Rf) (a : Nat) : Nat → List Xt
  | 0 => []
  | m + 1 => if d.is (a + m) then singles d a m ++ [one1 d (a + m)] else singles d a m
theorem findN_join (d : Rf) (a : Nat) : ∀ m, findN d a m = joinL (singles d a m)
  | 0 => rfl
  | m + 1 => by
    rw [findN, singles]
    split
    · rw [joinL_snoc, findN_join d a m]
    · exact findN_join d a m
theorem singles_in (d : Rf) (a : Nat) : ∀ m, ∀ x ∈ singles d a m, a ≤ x.at_ ∧ x.fin ≤ a + m ∧ x = one1 d x.at_ ∧ d.is x.at_ = true
  | 0, x, h => by simp [singles] at h
  | m + 1, x, h => by
    rw [singles] at h
    split at h
    · rename_i hi
      rcases List.mem_append.1 h with h | h
      · obtain ⟨h1, h2, h3⟩ := singles_in d a m x h
        exact ⟨h1, by omega, h3⟩
      · simp at h
        subst h
        exact ⟨by show a ≤ a + m; omega, by show a + m + 1 ≤ _; omega, rfl, hi⟩
    · obtain ⟨h1, h2, h3⟩ := singles_in d a m x h
      exact ⟨h1, by omega, h3⟩
theorem singles_ris (d : Rf) (a : Nat) : ∀ m, Ris (singles d a m)
  | 0 => trivial
  | m + 1 => by
    rw [singles]
    split
    · refine Ris.append (singles_ris d a m) (show Ris [one1 d (a + m)] from Nat.le_refl 1) fun x hx y hy => ?_
      simp at hy
      subst hy
      exact (singles_in d a m x hx).2.1
    · exact singles_ris d a m
theorem singles_spot (d : Rf) (a : Nat) : ∀ m i, spot (singles d a m) i = if a ≤ i ∧ i < a + m then (if d.is i then some (d.sq i, d.to i) else none) else none
  | 0, i => by rw [if_neg (by omega)]; rfl
  | m + 1, i => by
    have ih := singles_spot d a m i
    rw [singles]
    by_cases hi : i = a + m
    · subst hi
      rw [if_neg (by omega)] at ih
      have e1 : (if a ≤ a + m ∧ a + m < a + (m + 1) then (if d.is (a + m) then some (d.sq (a + m), d.to (a + m)) else none) else none) = if d.is (a + m) then some (d.sq (a + m), d.to (a + m)) else none := if_pos (by omega)
      rw [e1]
      by_cases hd : d.is (a + m) = true
      · rw [if_pos hd, if_pos hd, spot_append, ih, Option.none_or, spot_in (x := one1 d (a + m)) (by show a + m ≤ a + m; omega) (by show a + m < a + m + 1; omega)]
        show some (d.sq (a + m), d.to (a + m) + (a + m - (a + m))) = _
        rw [Nat.sub_self, Nat.add_zero]
      · rw [if_neg hd, if_neg hd]
        exact ih
    · have e : (if a ≤ i ∧ i < a + (m + 1) then (if d.is i then some (d.sq i, d.to i) else none) else none) = if a ≤ i ∧ i < a + m then (if d.is i then some (d.sq i, d.to i) else none) else none := by
        by_cases h : a ≤ i ∧ i < a + m
        · rw [if_pos h, if_pos (by omega)]
        · rw [if_neg h, if_neg (by omega)]
      rw [e, ← ih]
      by_cases hd : d.is (a + m) = true
      · rw [if_pos hd, spot_append]
        have : spot [one1 d (a + m)] i = none := by
          rw [spot, if_neg (by show ¬ (a + m ≤ i ∧ i < a + m + 1); omega)]
          rfl
        rw [this, Option.or_none]
      · rw [if_neg hd]
theorem findN_can (d : Rf) (a m : Nat) : Can (findN d a m) := by rw [findN_join]; exact join_can (singles_ris d a m)
theorem findN_spot (d : Rf) (a m i : Nat) : spot (findN d a m) i = if a ≤ i ∧ i < a + m then (if d.is i then some (d.sq i, d.to i) else none) else none := by
  rw [findN_join, join_spot (singles_ris d a m), singles_spot]
theorem findN_sm {d : Rf} (h : d.Ok) (a m : Nat) (hm : a + m ≤ 65536) : Sm (findN d a m) := by
  rw [findN_join]
  refine Sm.join fun x hx => ?_
  obtain ⟨h1, h2, h3, _⟩ := singles_in d a m x hx
  obtain ⟨k1, k2⟩ := h x.at_
  refine ⟨by omega, ?_, ?_⟩
  · rw [h3]; exact k1
  · rw [h3]
    show d.to x.at_ + 1 ≤ _
    omega
theorem findN_len (d : Rf) (a m : Nat) : (findN d a m).length ≤ m := by
  rw [findN_join]
  have h : ∀ m, (singles d a m).length ≤ m := by
    intro m
    induction m with
    | zero => simp [singles]
    | succ m ih =>
      rw [singles]
      split
      · simp; exact ih
      · omega
  exact Nat.le_trans (joinL_len _) (h m)
/-- A map says what the document's map says. -/
def Rel (l : List Xt) (d : Rf) (n : Nat) : Prop := ∀ i, spot l i = if i < n ∧ d.is i = true then some (d.sq i, d.to i) else none
theorem find_was {l : List Xt} {d : Rf} {n : Nat} (hl : Can l) (h : Rel l d n) {a m : Nat} (hm : a + m ≤ n) : findN d a m = wasL l a (a + m) :=
  can_eq (findN_can d a m) (was_can hl) fun i => by
    rw [findN_spot, was_spot hl.ris]
    by_cases hi : a ≤ i ∧ i < a + m
    · rw [if_pos hi, if_pos hi, h i]
      by_cases hd : d.is i = true
      · rw [if_pos hd, if_pos ⟨by omega, hd⟩]
      · rw [if_neg hd, if_neg (fun e => hd e.2)]
    · rw [if_neg hi, if_neg hi]
set_option maxRecDepth 20000 in
theorem run_eql32 (a b a' b' : Int) (w : World) : (binOp .eql 32 (.agg #[.int .i64 a, .int .i64 b]) (.agg #[.int .i64 a', .int .i64 b'])).run Try.prog w = .ok (.bool (decide (a = a' ∧ b = b'))) w := by
  simp [go_sem]
  by_cases h1 : a = a' <;> by_cases h2 : b = b' <;> simp [h1, h2]
theorem encXs_last1 (A : List Xt) (y : Xt) (i : Nat) (q t : Nat) : splice (encXs (A ++ [y])) (A.length * 4 + 1) [.int .i64 ((y.len : Nat) + 1 : Int)] = encXs (A ++ [y.more ⟨i, 1, q, t⟩]) := by
  have := encXs_last A y ⟨i, 1, q, t⟩
  simpa using this

set_option maxHeartbeats 8000000 in
set_option maxRecDepth 100000 in
theorem reffind_any {w : World} {r gi gs n : Nat} {d : Rf} (h : RefM w r gi gs n d) (hok : d.Ok) (hn : n ≤ 65536) (a b : Nat) (hab : a + b ≤ n) :
    Calls Try.prog 26 #[.pointer (some ⟨r, 0, none⟩), .agg #[.int .i64 (a : Nat), .int .i64 (b : Nat)]] w fun e w' => ∃ f, e = .returned f ∧ Xs w' f (findN d a b) ∧ From w.heap.size f ∧ Below w.heap.size w w' := by
  have HR := hide h
  have HOK := hide hok
  have hb := below_alloc w (.cells #[.int .i64 (a : Nat), .int .i64 (b : Nat)] 38)
  have HB0 := hide hb
  have HC : Hid (∀ w', Below w.heap.size w w' → (∃ w0, w0 = w.alloc (.cells #[.int .i64 (a : Nat), .int .i64 (b : Nat)] 38) ∧ Below w0.heap.size w0 w') → w'.cell? ⟨w.heap.size, 0, none⟩ = some (.int .i64 (a : Nat)) ∧ w'.cell? ⟨w.heap.size, 1, none⟩ = some (.int .i64 (b : Nat))) := fun w' _ ⟨w0, e, hb⟩ => by
    subst e
    have hh := heap_alloc_new w (.cells #[.int .i64 (a : Nat), .int .i64 (b : Nat)] 38)
    have hl := lt_of_block hh
    refine ⟨?_, ?_⟩ <;> (rw [hb.cell hl, cell_of_row _ _ _ _ _ _ hh]; rfl)
  obtain ⟨W, hW⟩ : ∃ W, W = w.alloc (.cells #[.int .i64 (a : Nat), .int .i64 (b : Nat)] 38) := ⟨_, rfl⟩
  have HW := hide hW
  have HB1 : Hid (Below w.heap.size w W) := by show Below _ _ _; rw [hW]; exact hb
  have HRW := hide (h.later HB1.out)
  have HCW : Hid (∀ w', Below W.heap.size W w' → w'.cell? ⟨w.heap.size, 0, none⟩ = some (.int .i64 (a : Nat)) ∧ w'.cell? ⟨w.heap.size, 1, none⟩ = some (.int .i64 (b : Nat))) := fun w' hb => HC.out w' (HB1.out.trans (hb.mono HB1.out.size)) ⟨W, hW, hb⟩
  have HWL := hide HB1.out.size
  clear h hok hb HC hW HB0 HR
  obtain ⟨k0, k1⟩ := HCW.out W (Below.refl _ _)
  go_enter Try.func26, Try.ntmps26
  go_wp2_with fail
  rw [← HW.out]
  go_wp2
  clear k0 k1
  go_loopw [5, 6] (fun f i wr => ∃ m : Nat, m ≤ b ∧ i = .int .i64 ((a + m : Nat) : Int) ∧ Xs wr f (findN d a m) ∧ From W.heap.size f ∧ Below W.heap.size W wr) (fun _ i _ => (a + b) - (intOf i).toNat)
  case atStart => exact ⟨0, Nat.zero_le _, by simp, Xs.nil _, From.nil _ _ _, Below.refl _ _⟩
  case round =>
    obtain ⟨m, hm, rfl, hF, hFr, hbw⟩ := hrel
    obtain ⟨fa, fc, rfl, hfl, hfm⟩ := hF.len
    obtain ⟨k0, k1⟩ := HCW.out wr hbw
    have hfll := findN_len d a m
    by_cases hlt : m < b
    · have hRR := HRW.out.later hbw
      have d0 := hRR.c0
      have d1 := hRR.c1
      have db := hRR.b (i := a + m) (by omega)
      have hbd1 : ((a : Int) + (m : Int)).toNat = a + m := by omega
      have hbd2 : (0 : Int) ≤ (a : Int) + (m : Int) := by omega
      have hbd3 : (a : Int) + (m : Int) < (n : Int) := by omega
      cases hi : d.is (a + m) with
      | false =>
        have HT : Hid (findN d a (m + 1) = findN d a m) := by show _ = _; rw [findN, hi]; rfl
        rw [hi] at db
        have HF := hide hF
        have HFr := hide hFr
        have HB := hide hbw
        clear hF hFr hbw hRR d1 hi
        go_wp2
        go_roundw
        case rel => exact ⟨m + 1, by omega, by go_num, by rw [HT.out]; exact HF.out, HFr.out, HB.out⟩
        case measure => simp [intOf]; omega
      | true =>
        have HT : Hid (findN d a (m + 1) = stepJ (findN d a m) (one1 d (a + m))) := by show _ = _; rw [findN, if_pos hi]
        rw [hi] at db
        have p0 : ∀ P : Later wr, _ := fun P => (hRR.later P.below).p0 (i := a + m) (by omega)
        have p1 : ∀ P : Later wr, _ := fun P => (hRR.later P.below).p1 (i := a + m) (by omega)
        have e1 : ∀ P : Later wr, _ := fun P => (hRR.later P.below).c1
        obtain ⟨Q, hQ⟩ : ∃ Q, d.sq (a + m) = Q := ⟨_, rfl⟩
        obtain ⟨T, hT'⟩ : ∃ T, d.to (a + m) = T := ⟨_, rfl⟩
        have hone : one1 d (a + m) = ⟨a + m, 1, Q, T⟩ := by unfold one1; rw [hQ, hT']
        rw [hQ] at p0
        rw [hT'] at p1
        have HE : Hid (∀ w', Below wr.heap.size wr w' → w'.cell? ⟨r, 1, none⟩ = some (.slice (some ⟨gs, 0, none⟩) n n) ∧ w'.cell? ⟨gs, (a + m) * 2, none⟩ = some (.int .i64 (Q : Nat)) ∧ w'.cell? ⟨gs, (a + m) * 2 + 1, none⟩ = some (.int .i64 (T : Nat))) := fun w' hb => ⟨(hRR.later hb).c1, by rw [(hRR.later hb).p0 (by omega), hQ], by rw [(hRR.later hb).p1 (by omega), hT']⟩
        rw [hone] at HT
        have hok := HOK.out (a + m)
        rw [hQ, hT'] at hok
        have hsm := findN_sm HOK.out a m (by omega)
        have HFr := hide hFr
        have HBW := hide hbw
        have HF := hide hF
        have hne := later_ne wr
        rcases List.eq_nil_or_concat (findN d a m) with e | ⟨A, y, e⟩
        · rw [e] at HF HT HFr
          rw [stepJ_nil] at HT
          rw [e]
          simp only [List.length_nil] at *
          have HT : Hid (findN d a (m + 1) = [] ++ [⟨a + m, 1, Q, T⟩]) := HT.out
          have HAL : Hid (([] : List Xt).length = 0) := rfl
          have hb1 : 0 + 1 ≤ maxLen := by unfold maxLen; omega
          have hb2 : (0 + 1) * 32 ≤ 140737488355328 := by omega
          clear hF hFr hbw hRR hi hone e hQ hT' hsm hfll hfl
          go_wp2
          refine wp_region_later (by kernel_rfl) (by kernel_rfl) ?_
          (repeat (first | go_big_quiet_skip | (go_big_quiet_want; go_big_quiet_op; go_big_quiet_on)))
          refine wpQuiet_nil ?_
          rintro _ ⟨P, rfl⟩
          have hbP := P.below
          have HB3 := hide (HBW.out.trans (hbP.mono HBW.out.size))
          have HF3 := hide (HF.out.later hbP)
          obtain ⟨x0, x1, x2⟩ := HE.out P.val hbP
          clear hbP hne p0 p1 e1
          generalize P.val = w3 at *
          have bb := below_alloc w3 (.cells #[.int .i64 ((a + m : Nat) : Int), .int .i64 1, .int .i64 (Q : Nat), .int .i64 (T : Nat)] 40)
          go_wp2_with (at_builtin; refine append30 rfl (.tmp 83) (.tmp 94) rfl _ _ _ rfl (HF3.out.later (below_alloc _ _)) (some ⟨w3.heap.size, 0, none⟩) 1 1 _ rfl (row_block (x := ⟨a + m, 1, Q, T⟩) (heap_alloc_new _ _)) (encX_oneCell _) hb1 hb2 ?_; intro v4 w4 g1 g2 g3; replace g1 := hide g1; replace g2 := hide g2; replace g3 := hide g3)
          obtain ⟨p1, p2, p3⟩ := push_x HAL.out HFr.out (HB3.out.alloc HB3.out.size _) g1.out g2.out g3.out
          have P1 := hide p1
          have P2 := hide p2
          have P3 := hide p3
          clear g1 g2 g3 p1 p2 p3 bb
          go_wp2
          go_roundw
          case rel => exact ⟨m + 1, by omega, by go_num, by rw [HT.out]; exact P1.out, P2.out, P3.out⟩
          case measure => simp [intOf]; omega
        · rw [List.concat_eq_append] at e
          rw [e] at HF HT HFr hsm hfll hfl
          rw [stepJ_snoc] at HT
          have hy := hsm y (by simp)
          rw [e]
          rw [List.length_append, List.length_singleton] at *
          obtain ⟨fg, foff, hfa⟩ : ∃ fg foff, fa = some ⟨fg, foff, none⟩ := by
            have h0 := HF.out
            rw [← List.length_singleton (a := y), ← List.length_append] at h0
            obtain ⟨_, h1⟩ := h0.at
            obtain ⟨g', off', h2, _⟩ := h1 A.length y (by simp)
            exact ⟨g', off', h2⟩
          subst hfa
          obtain ⟨ya, yl, yq, yt⟩ := y
          have hys := hy
          obtain ⟨hy1, hy2, hy3⟩ := hys
          unfold Xt.fin at hy1
          simp only at *
          generalize hmm : A.length = M at *
          have HM := hide hmm
          have hMb : M + 1 ≤ 65536 := by omega
          have hwy : IntKind.i64.wrap ((ya : Int) + (yl : Int)) = (ya : Int) + (yl : Int) := by rw [IntKind.wrap_i64]; omega
          have w1 : (M : Int) + 1 - 1 = (M : Int) := by omega
          have HFX : Hid (∀ P : Later wr, XCell P.val fg (foff + M * 4) ⟨ya, yl, yq, yt⟩) := fun P => by
            have h0 := HF.out.later P.below
            exact h0.cell (i := M) (by rw [← HM.out]; simp)
          have y0 : ∀ P : Later wr, _ := fun P => (HFX.out P).c0
          have y1 : ∀ P : Later wr, _ := fun P => (HFX.out P).c1
          have y2 : ∀ P : Later wr, _ := fun P => (HFX.out P).c2
          have y3 : ∀ P : Later wr, _ := fun P => (HFX.out P).c3
          obtain ⟨Z, hZ⟩ : ∃ Z, yt + yl = Z := ⟨_, rfl⟩
          have hcb : ∀ P : Later wr, _ := fun P => behind_any yq yt yl P.val (by omega)
          rw [hZ] at hcb
          have HAL : Hid ((A ++ [(⟨ya, yl, yq, yt⟩ : Xt)]).length = M + 1) := by show _ = _; rw [List.length_append, List.length_singleton, HM.out]
          clear hF hFr hbw hRR hi hone e hQ hT' hsm hfll hmm
          by_cases hfin : ya + yl = a + m
          · have hEq := fun w => run_eql32 (yq : Nat) (Z : Int) (Q : Nat) (T : Nat) w
            by_cases hG : Goes ⟨ya, yl, yq, yt⟩ ⟨a + m, 1, Q, T⟩
            · rw [if_pos hG] at HT
              obtain ⟨g1, g2, g3⟩ := hG
              simp only at g2 g3
              rw [show decide ((yq : Int) = (Q : Int) ∧ (Z : Int) = (T : Int)) = true by simp; omega] at hEq
              have e0 : ((ya : Int) + (yl : Int) == (a : Int) + (m : Int)) = true := by simp; omega
              clear g1 g2 g3 hfin hZ
              go_wp2
              refine wp_region_later (by kernel_rfl) (by kernel_rfl) ?_
              (repeat (first | go_big_quiet_skip | (go_big_quiet_want; go_big_quiet_op; go_big_quiet_on)))
              (go_big_quiet_want; go_big_quiet_op; apply Exists.intro; refine ⟨fun p => ?_, ?_⟩; (· exact later_of (hcb p)); go_big_quiet_on)
              (repeat (first | go_big_quiet_skip | (go_big_quiet_want; go_big_quiet_op; go_big_quiet_on)))
              refine wpQuiet_nil ?_
              rintro _ ⟨P, rfl⟩
              have hbP := P.below
              have HB3 := hide (HBW.out.trans (hbP.mono HBW.out.size))
              have HF3 : Hid (Rw P.val 40 4 (.slice (some ⟨fg, foff, none⟩) (M + 1) fc) (M + 1) (encXs (A ++ [⟨ya, yl, yq, yt⟩]))) := by
                have h0 := HF.out.later hbP
                unfold Xs at h0
                rwa [List.length_append, List.length_singleton, HM.out] at h0
              obtain ⟨x0, x1, x2⟩ := HE.out P.val hbP
              obtain ⟨z0, z1, z2, z3, zf, zl⟩ := HFX.out P
              clear hbP hne p0 p1 e1 y0 y1 y2 y3 hcb HFX
              generalize P.val = w3 at *
              replace zf := zf (foff + M * 4 + 1)
              have P1 : Hid (Xs (w3.setCell ⟨fg, foff + M * 4 + 1, none⟩ (.int .i64 ((yl : Int) + 1))) (.slice (some ⟨fg, foff, none⟩) (M + 1) fc) (A ++ [Xt.more ⟨ya, yl, yq, yt⟩ ⟨a + m, 1, Q, T⟩])) := by
                have h1 := HF3.out.set (o := M * 4 + 1) (vs := [.int .i64 ((yl : Int) + 1)]) (by simp; omega) (by simp [Value.oneCell'])
                have h2 := encXs_last1 A ⟨ya, yl, yq, yt⟩ (a + m) Q T
                rw [HM.out] at h2
                simp only at h2
                rw [h2, ← Nat.add_assoc] at h1
                show Rw _ _ _ _ _ _
                rw [List.length_append, List.length_singleton, HM.out]
                exact h1
              have P3 : Hid (Below W.heap.size W (w3.setCell ⟨fg, foff + M * 4 + 1, none⟩ (.int .i64 ((yl : Int) + 1)))) := by
                have hk := Keep.setCell (X := fun j => j = fg) w3 ⟨fg, foff + M * 4 + 1, none⟩ (.int .i64 ((yl : Int) + 1)) rfl
                exact HB3.out.trans (hk.below HB3.out.size fun k hk e => by have := HFr.out fg rfl; omega)
              go_wp2
              go_roundw
              case rel => exact ⟨m + 1, by omega, by go_num, by rw [HT.out]; exact P1.out, HFr.out, P3.out⟩
              case measure => simp [intOf]; omega
            · rw [if_neg hG] at HT
              rw [show decide ((yq : Int) = (Q : Int) ∧ (Z : Int) = (T : Int)) = false from decide_eq_false fun e => hG ⟨by show a + m = ya + yl; omega, by show Q = yq; omega, by show T = yt + yl; omega⟩] at hEq
              have e0 : ((ya : Int) + (yl : Int) == (a : Int) + (m : Int)) = true := by simp; omega
              have hb1 : M + 1 + 1 ≤ maxLen := by unfold maxLen; omega
              have hb2 : (M + 1 + 1) * 32 ≤ 140737488355328 := by omega
              clear hG hfin hZ
              go_wp2
              refine wp_region_later (by kernel_rfl) (by kernel_rfl) ?_
              (repeat (first | go_big_quiet_skip | (go_big_quiet_want; go_big_quiet_op; go_big_quiet_on)))
              (go_big_quiet_want; go_big_quiet_op; apply Exists.intro; refine ⟨fun p => ?_, ?_⟩; (· exact later_of (hcb p)); go_big_quiet_on)
              (repeat (first | go_big_quiet_skip | (go_big_quiet_want; go_big_quiet_op; go_big_quiet_on)))
              refine wpQuiet_nil ?_
              rintro _ ⟨P, rfl⟩
              have hbP := P.below
              have HB3 := hide (HBW.out.trans (hbP.mono HBW.out.size))
              have HF3 : Hid (Rw P.val 40 4 (.slice (some ⟨fg, foff, none⟩) (M + 1) fc) (M + 1) (encXs (A ++ [⟨ya, yl, yq, yt⟩]))) := by
                have h0 := HF.out.later hbP
                unfold Xs at h0
                rwa [List.length_append, List.length_singleton, HM.out] at h0
              obtain ⟨x0, x1, x2⟩ := HE.out P.val hbP
              obtain ⟨z0, z1, z2, z3, zf, zl⟩ := HFX.out P
              clear hbP hne p0 p1 e1 y0 y1 y2 y3 hcb HFX
              generalize P.val = w3 at *
              replace zf := zf (foff + M * 4 + 1)
              have bb := below_alloc w3 (.cells #[.int .i64 ((a + m : Nat) : Int), .int .i64 1, .int .i64 (Q : Nat), .int .i64 (T : Nat)] 40)
              go_wp2_with (at_builtin; refine append30 rfl (.tmp 83) (.tmp 94) rfl _ _ _ rfl (HF3.out.later (below_alloc _ _)) (some ⟨w3.heap.size, 0, none⟩) 1 1 _ rfl (row_block (x := ⟨a + m, 1, Q, T⟩) (heap_alloc_new _ _)) (encX_oneCell _) hb1 hb2 ?_; intro v4 w4 g1 g2 g3; replace g1 := hide g1; replace g2 := hide g2; replace g3 := hide g3)
              obtain ⟨p1, p2, p3⟩ := push_x HAL.out HFr.out (HB3.out.alloc HB3.out.size _) g1.out g2.out g3.out
              have P1 := hide p1
              have P2 := hide p2
              have P3 := hide p3
              clear g1 g2 g3 p1 p2 p3 bb
              go_wp2
              go_roundw
              case rel => exact ⟨m + 1, by omega, by go_num, by rw [HT.out]; exact P1.out, P2.out, P3.out⟩
              case measure => simp [intOf]; omega
          · have hG : ¬ Goes ⟨ya, yl, yq, yt⟩ ⟨a + m, 1, Q, T⟩ := fun e => hfin (by have := e.1; unfold Xt.fin at this; simp only at this; omega)
            rw [if_neg hG] at HT
            have e0 : ((ya : Int) + (yl : Int) == (a : Int) + (m : Int)) = false := by simp; omega
            have hb1 : M + 1 + 1 ≤ maxLen := by unfold maxLen; omega
            have hb2 : (M + 1 + 1) * 32 ≤ 140737488355328 := by omega
            clear hG hfin hZ
            go_wp2
            refine wp_region_later (by kernel_rfl) (by kernel_rfl) ?_
            (repeat (first | go_big_quiet_skip | (go_big_quiet_want; go_big_quiet_op; go_big_quiet_on)))
            refine wpQuiet_nil ?_
            rintro _ ⟨P, rfl⟩
            have hbP := P.below
            have HB3 := hide (HBW.out.trans (hbP.mono HBW.out.size))
            have HF3 : Hid (Rw P.val 40 4 (.slice (some ⟨fg, foff, none⟩) (M + 1) fc) (M + 1) (encXs (A ++ [⟨ya, yl, yq, yt⟩]))) := by
              have h0 := HF.out.later hbP
              unfold Xs at h0
              rwa [List.length_append, List.length_singleton, HM.out] at h0
            obtain ⟨x0, x1, x2⟩ := HE.out P.val hbP
            obtain ⟨z0, z1, z2, z3, zf, zl⟩ := HFX.out P
            clear hbP hne p0 p1 e1 y0 y1 y2 y3 hcb HFX
            generalize P.val = w3 at *
            replace zf := zf (foff + M * 4 + 1)
            have bb := below_alloc w3 (.cells #[.int .i64 ((a + m : Nat) : Int), .int .i64 1, .int .i64 (Q : Nat), .int .i64 (T : Nat)] 40)
            go_wp2_with (at_builtin; refine append30 rfl (.tmp 83) (.tmp 94) rfl _ _ _ rfl (HF3.out.later (below_alloc _ _)) (some ⟨w3.heap.size, 0, none⟩) 1 1 _ rfl (row_block (x := ⟨a + m, 1, Q, T⟩) (heap_alloc_new _ _)) (encX_oneCell _) hb1 hb2 ?_; intro v4 w4 g1 g2 g3; replace g1 := hide g1; replace g2 := hide g2; replace g3 := hide g3)
            obtain ⟨p1, p2, p3⟩ := push_x HAL.out HFr.out (HB3.out.alloc HB3.out.size _) g1.out g2.out g3.out
            have P1 := hide p1
            have P2 := hide p2
            have P3 := hide p3
            clear g1 g2 g3 p1 p2 p3 bb
            go_wp2
            go_roundw
            case rel => exact ⟨m + 1, by omega, by go_num, by rw [HT.out]; exact P1.out, P2.out, P3.out⟩
            case measure => simp [intOf]; omega
    · obtain rfl : m = b := by omega
      have HF := hide hF
      have HFr : Hid (From w.heap.size (.slice fa (findN d a m).length fc)) := fun k hk => Nat.le_trans HWL.out (hFr k hk)
      have HB := hide (HB1.out.trans (hbw.mono HB1.out.size))
      clear hF hFr hbw
      go_wp2
      go_ret
      exact ⟨_, rfl, HF.out, HFr.out, HB.out⟩

end Wi
end Go.Proofs.Ytjbgojccfkmlnaa
