/- A part of the proofs about package wire: what its functions answer, call by call. -/
import Derived.Test.YtnpnghdjdelemaaLe
namespace Go.Proofs.Ytnpnghdjdelemaa
open Go.RowKit
namespace Wi

theorem addr_inj0 {b c o p : Nat} (h : (some ⟨b, o, none⟩ : Option Addr) = some ⟨c, p, none⟩) : b = c ∧ o = p := by
  simp at h
  exact h
theorem take_fit {T R : List Nat} {q : Nat} (h : T.length ≤ q) : (T ++ R).take q = T ++ R.take (q - T.length) := by
  rw [List.take_append]
  congr 1
  exact List.take_of_length_le h
theorem take_short {T R : List Nat} {q : Nat} (h : q ≤ T.length) : (T ++ R).take q = T.take q := List.take_append_of_le_length h
theorem fix_cut {x m : Nat} (h1 : 1 ≤ m) (h8 : m ≤ 8) (R : List Nat) (q : Nat) : (fixR ((be x m ++ R).take q) (m : Int)).2 = if m ≤ q then (m, 0) else (0, 10) := by
  by_cases h : m ≤ q
  · rw [if_pos h, take_fit (by rw [be_length]; exact h), fixR_back h1 h8]
  · rw [if_neg h, fixR_short ⟨by omega, by omega⟩ (by rw [List.length_take]; omega)]
theorem few_cut2 {x : Nat} (hx : x < 18446744073709551616) (R : List Nat) (q : Nat) : (few 12 ((vr x ++ R).take q)).2 = if size x ≤ q then (size x, 0) else (0, 10) := by
  by_cases h : size x ≤ q
  · rw [if_pos h, take_fit (by rw [vr_length]; exact h), few_vr 12 x hx]
  · rw [if_neg h, take_short (by rw [vr_length]; omega), few_cut 12 x hx q (by omega)]
theorem raw_cut (s : ByteArray) (R : List Nat) (q : Nat) : (rawR ((bs s ++ R).take q) (s.size : Int)).2 = if s.size ≤ q then (s.size, 0) else (0, 10) := by
  by_cases h : s.size ≤ q
  · rw [if_pos h, take_fit (by rw [bs_length]; exact h), rawR_back]
  · rw [if_neg h, rawR_short (by omega) (by rw [List.length_take]; omega)]
theorem txt_cut (s : ByteArray) (hs : s.size < 18446744073709551616) (R : List Nat) (q : Nat) : (txtR ((tx s ++ R).take q) (s.size : Int)).2 = if size s.size + s.size ≤ q then (size s.size + s.size, 0) else (0, 10) := by
  have hl : (tx s).length = size s.size + s.size := by rw [tx, List.length_append, vr_length, bs_length]
  by_cases h : size s.size + s.size ≤ q
  · rw [if_pos h, take_fit (by rw [hl]; exact h), txtR_back s hs]
  · rw [if_neg h, take_short (by rw [hl]; omega), tx]
    by_cases h2 : size s.size ≤ q
    · have hf := few_vr 12 s.size hs ((bs s).take (q - (vr s.size).length))
      rw [take_fit (by rw [vr_length]; exact h2)]
      have hi : intR (vr s.size ++ (bs s).take (q - (vr s.size).length)) (s.size : Int) = (s.size, size s.size, 0) := by
        unfold intR
        rw [hf, if_neg]
        simp
      rw [txtR_short (by rw [hi]) (by rw [hi]; simp only [List.length_append, vr_length, List.length_take, bs_length]; omega)]
    · rw [take_short (by rw [vr_length]; omega)]
      have hf := few_cut 12 s.size hs q (by omega)
      have hi : intR ((vr s.size).take q) (s.size : Int) = (0, 0, 10) := by
        rw [intR_bad (by rw [hf]; decide), hf]
      rw [txtR_bad (by rw [hi]; decide), hi]
/-- Numbers as cells. -/
def encI (l : List Nat) : List Value := l.map fun b => .int .i64 (b : Nat)
/-- The value v owns the numbers l. -/
def OwnI (w : World) (v : Value) (l : List Nat) : Prop := w.ownsRow 0 3 1 v l.length (encI l)
theorem OwnI.nil (w : World) : OwnI w (.slice none 0 0) [] := World.ownsRow_nil w 0 3 1
theorem OwnI.keep {X : Nat → Prop} {w w' : World} {v : Value} {l : List Nat} (h : OwnI w v l) (k : Keep X w w') (hx : ∀ i, v.ownBlock = some i → ¬ X i) : OwnI w' v l := by
  refine ⟨h.1, ?_⟩
  rcases h.2 with hn | ⟨g, cap, cur, rfl, hb, hgg, rest⟩
  · exact .inl hn
  · refine .inr ⟨g, cap, cur, rfl, hb, ?_, rest⟩
    rw [k.block g (lt_of_block hgg) (hx g rfl)]
    exact hgg
theorem OwnI.later {w w' : World} {v : Value} {l : List Nat} (h : OwnI w v l) (hb : Below w.heap.size w w') : OwnI w' v l := h.keep (X := fun _ => False) (Keep.of_below hb) fun _ _ => id
theorem OwnI.lt {w : World} {v : Value} {l : List Nat} (h : OwnI w v l) : ∀ k, v.ownBlock = some k → k < w.heap.size := by
  intro k hk
  rcases h.2 with ⟨hv, _⟩ | ⟨g, cap, cur, rfl, hb, hgg, rest⟩
  · rw [hv] at hk; simp [Value.ownBlock] at hk
  · simp [Value.ownBlock] at hk; subst hk; exact lt_of_block hgg
/-- A slice's memory holds these numbers. -/
structure Is (w : World) (a : Option Addr) (n : Nat) (xs : List Nat) : Prop where
  cells : ∀ i x, xs[i]? = some x → ∃ b, a = some ⟨b, 0, none⟩ ∧ b < w.heap.size ∧ w.cell? ⟨b, i, none⟩ = some (.int .i64 (x : Nat))
theorem OwnI.is {w : World} {v : Value} {l : List Nat} (h : OwnI w v l) : ∃ a cap, v = .slice a l.length cap ∧ Is w a l.length l ∧ ∀ k, v.ownBlock = some k → k < w.heap.size := by
  have hlt := h.lt
  rcases id h with ⟨hl, ⟨hv, hn⟩ | ⟨g, cap, cur, hv, hbg, hgg, hnc, hcm, hcs, htake⟩⟩
  · have : l = [] := List.eq_nil_of_length_eq_zero hn
    subst this; subst hv
    exact ⟨none, 0, rfl, ⟨fun i x hx => by simp at hx⟩, hlt⟩
  · subst hv
    refine ⟨_, cap, rfl, ⟨fun i x hx => ⟨g, rfl, lt_of_block hgg, ?_⟩⟩, hlt⟩
    have hi : i < l.length := (List.getElem?_eq_some_iff.1 hx).1
    have := World.ownsRow.cellAt (w := w) (base := 0) (e := 3) (size := 1) (g := g) (n := l.length) (cap := cap) (xs := encI l) h i (by omega)
    rw [this]
    simp [encI, hx]
theorem Is.did {w w' : World} {a : Option Addr} {n b at_ : Nat} {s : ByteArray} {e : Int} {xs : List Nat} (h : Is w a n xs) (hd : Did w b s at_ e w') (hne : ∀ g o, a = some ⟨g, o, none⟩ → g ≠ b) : Is w' a n xs :=
  ⟨fun i x hi => by
    obtain ⟨g, ha, hg, c0⟩ := h.cells i x hi
    exact ⟨g, ha, Nat.lt_of_lt_of_le hg hd.keep.size, (did_cell hd hg (hne g 0 ha)).trans c0⟩⟩
theorem Is.later {w w' : World} {a : Option Addr} {n : Nat} {xs : List Nat} (h : Is w a n xs) (hb : Below w.heap.size w w') : Is w' a n xs :=
  ⟨fun i x hi => by
    obtain ⟨g, ha, hg, c0⟩ := h.cells i x hi
    exact ⟨g, ha, Nat.lt_of_lt_of_le hg hb.size, (hb.cell hg).trans c0⟩⟩
theorem info3 : (Try.prog.info? 3).map (fun i => (i.zero, i.size, i.bytes)) = some (some (.int .i64 0), 1, 8) := by kernel_rfl
theorem OwnI.push {w : World} {v : Value} {L : List Nat} {Y : Nat} (h : w.ownsRow 0 3 1 v (L.length + 1) (encI L ++ [.int .i64 (Y : Nat)])) : OwnI w v (L ++ [Y]) := by
  unfold OwnI
  rw [encI, List.map_append, List.length_append]
  exact h
/-- Another row of the call's own grows: the writer stays. -/
theorem Wrote.grow {w w1 w2 : World} {b : Nat} {v v1 : Value} {l : List Nat} {row : Option Nat} (h : Wrote w b v l w1 v1) (hg : w1.grownBy w2 row) (h1 : ∀ k, row = some k → w.heap.size ≤ k) (h2 : row ≠ some b) (h3 : ∀ k, row = some k → v1.ownBlock ≠ some k) : Wrote w b v l w2 v1 :=
  ⟨⟨(hg.block b h.out.lt fun e => h2 e.symm).trans h.out.blk, h.out.own.keep (X := fun k => row = some k) (Keep.grown hg fun _ e => e) fun i hi e => h3 i e hi, h.out.ne⟩,
    h.keep.trans (Keep.grown (X := fun k => row = some k) hg fun _ e => e) fun i hi e => by have := h1 i e; omega, h.moved⟩
/-- How many bytes there are behind each call. -/
def endsOf (xs : List OpV) (k : Nat) : List Nat := (List.range k).map fun j => (wTs (xs.take (j + 1))).length
theorem endsOf_succ (xs : List OpV) (k : Nat) : endsOf xs (k + 1) = endsOf xs k ++ [(wTs (xs.take (k + 1))).length] := by simp [endsOf, List.range_succ]
theorem endsOf_len (xs : List OpV) (k : Nat) : (endsOf xs k).length = k := by simp [endsOf]
theorem endsOf_get {xs : List OpV} {n k : Nat} (h : k < n) : (endsOf xs n)[k]? = some (wTs (xs.take (k + 1))).length := by simp [endsOf, h]
/-- Can a call be written? -/
def goodB (k n : Int) : Bool := !(k == 0 && (decide (n < 1) || decide (8 < n)))
set_option maxHeartbeats 8000000 in
set_option maxRecDepth 20000 in
theorem wireCut_walk (a : Option Addr) (n cap : Nat) (xs : List OpV) (cutI : Int) (W : World) (hO : Os W a n xs) (hcut : Num cutI) :
    Calls Try.prog 8 #[.slice a n cap, .int .i64 cutI] W fun e w' => e = .returned (.bool true) ∧ Below W.heap.size W w' := by
  have hfew := fewf_any a n cap xs W hO
  have hn := hO.most
  obtain ⟨i0, hi, hz0, hz1, hz2⟩ := info_parts info3
  obtain ⟨hcut1, hcut2⟩ := hcut
  cases hB : opsB xs with
  | false =>
    rw [hB] at hfew
    go_enter Try.func8, Try.ntmps8
    go_wp2_with fail
    refine hfew.mono ?_
    rintro e w' ⟨rfl, rfl⟩
    go_wp2_with fail
    refine (awake_any _).mono ?_
    rintro e w5 ⟨rfl, hb5⟩
    go_wp2
    go_ret
    exact ⟨rfl, hb5⟩
  | true =>
    rw [hB] at hfew
    have HB := hide hB
    clear hB
    go_enter Try.func8, Try.ntmps8
    go_wp2_with fail
    refine hfew.mono ?_
    rintro e w' ⟨rfl, rfl⟩
    clear hfew
    go_wp2
    go_loopw [6, 7] (fun u i wr => ∃ k : Nat, k ≤ n ∧ i = .int .i64 k ∧ ∃ v', Wrote (w'.alloc (.cells #[.slice none 0 0] 27)) w'.heap.size (.slice none 0 0) (wTs (xs.take k)) wr v' ∧ OwnI wr u (endsOf xs k) ∧ From (w'.heap.size + 1) u ∧ (∀ j, u.ownBlock = some j → v'.ownBlock ≠ some j) ∧ (∀ (j : Nat) (o : OpV), j < k → xs[j]? = some o → goodB o.k o.n = true)) (fun _ i _ => n - (intOf i).toNat)
    case atStart => exact ⟨0, Nat.zero_le _, rfl, _, Wrote.refl (OutAt.new w'), OwnI.nil _, From.nil _ _ _, by simp [Value.ownBlock], by intro j o hj; omega⟩
    case round =>
      obtain ⟨k, hk, rfl, v', hwr, hown, hfrom, hap, hgood⟩ := hrel
      have hlen := hO.len
      have HBr := hide ((below_alloc w' (.cells #[.slice none 0 0] 27)).trans (hwr.below (B := w'.heap.size) (by simp) (Nat.le_refl _) (From.nil _ _ _)).1)
      by_cases hlt : k < n
      · obtain ⟨⟨ok, ox, os, on⟩, hs0⟩ : ∃ o, xs[k]? = some o := ⟨_, List.getElem?_eq_getElem (by omega)⟩
        obtain ⟨g, off, rfl, hbl, c0, c1, c2, c3⟩ := (hO.later HBr.out).cells k _ hs0
        obtain ⟨hkk, hxl, _, hnn⟩ := hO.fit _ (List.mem_of_getElem? hs0)
        have hsz := opsB_size HB.out _ (List.mem_of_getElem? hs0)
        simp only at c0 c1 c2 c3 hsz hkk hxl hnn
        have hLl := wTs_small HB.out k
        have hLl2 := wTs_small HB.out (k + 1)
        have HLk : Hid (wTs (xs.take (k + 1)) = wTs (xs.take k) ++ wT ok ox os on) := wTs_snoc hs0
        have HEk := hide (endsOf_succ xs k)
        have hel := endsOf_len xs k
        have h60 := opsB_len HB.out
        have hk60 : k < 60 := by omega
        have hwc := write_any w'.heap.size v' (wTs (xs.take k)) ok ox os on hxl hsz hnn wr hwr.out (by omega)
        have HG : Hid (goodB ok on = true → ∀ (j : Nat) (o : OpV), j < k + 1 → xs[j]? = some o → goodB o.k o.n = true) := fun hg j o hj ho => by
          by_cases hjk : j = k
          · subst hjk
            rw [hs0] at ho
            cases ho
            exact hg
          · exact hgood j o (by omega) ho
        clear hs0 hlen hLl hgood
        obtain ⟨hn1, hn2⟩ := hnn
        by_cases k0 : ok = 0
        · subst k0
          by_cases h1 : on < 1
          · go_wp2_with fail
            refine (awake_any _).mono ?_
            rintro e w5 ⟨rfl, hb5⟩
            go_wp2
            go_ret
            exact ⟨rfl, HBr.out.trans (hb5.mono HBr.out.size)⟩
          · by_cases h8 : 8 < on
            · go_wp2_with fail
              refine (awake_any _).mono ?_
              rintro e w5 ⟨rfl, hb5⟩
              go_wp2
              go_ret
              exact ⟨rfl, HBr.out.trans (hb5.mono HBr.out.size)⟩
            · have HGk := hide (HG.out (by simp [goodB]; omega))
              go_wp2_with fail
              refine hwc.mono ?_
              rintro e w2 ⟨rfl, v2, hw2⟩
              have HW := hide (hwr.trans hw2)
              have ho2 : OwnI w2 u6 (endsOf xs k) := hown.keep hw2.keep fun i hi e => e.elim (fun e => by have := hfrom i hi; omega) fun e => hap i hi e
              have hap2 : ∀ j, u6.ownBlock = some j → v2.ownBlock ≠ some j := fun j hj e => by
                rcases hw2.moved with hm | hm
                · exact hap j hj (hm ▸ e)
                · have := hm j e; have := hown.lt j hj; omega
              clear hw2 hwc hwr hap hown
              rw [← HLk.out] at HW
              have hst := string_any _ _ _ _ HW.out.out
              have hsl : (str (wTs (xs.take (k + 1)))).size = (wTs (xs.take (k + 1))).length := str_size _
              have HSL := hide hsl
              have hs20 : (str (wTs (xs.take (k + 1)))).size ≤ 18540 := by omega
              clear hsl
              generalize str (wTs (xs.take (k + 1))) = S at *
              have ho3 : ∀ o, (w2.alloc o).ownsRow 0 3 1 u6 (endsOf xs k).length (encI (endsOf xs k)) := fun o => ho2.later (below_alloc _ _)
              go_wp2_with fail
              refine hst.mono ?_
              rintro e w3 ⟨rfl, rfl⟩
              go_wp2_with (at_builtin; refine wpList_append_moved rfl (.tmp 50) (.tmp 53) 52 rfl 3 i0 _ 1 8 Try.underlying52 hi hz0 hz1 hz2 rfl (by decide) _ _ _ rfl (ho3 _) ⟨w3.heap.size, 0, none⟩ 1 1 [.int .i64 (S.size : Nat)] rfl rfl (cell_one_new _ _ _) (one_oneCell _ _) (by unfold maxLen; omega) (by omega) ?_; intro u' w4 g1 g2 g3)
              have R1 := hide (OwnI.push g1)
              have R2 := hide ((HW.out.later (below_alloc w3 (.cells #[.int .i64 (S.size : Nat)] 3))).grow g2 (fun j hj => by have := hfrom j hj; simp; omega) (fun e => by have := hfrom _ e; omega) hap2)
              have R3 : Hid (From (w'.heap.size + 1) u') := hfrom.moved g3 (by have := HW.out.keep.size; simp at this ⊢; omega)
              have R4 : Hid (∀ j, u'.ownBlock = some j → v2.ownBlock ≠ some j) := fun j hj e => by
                rcases g3 with hm | hm
                · exact hap2 j (hm ▸ hj) e
                · have := hm j hj; have := HW.out.out.own.lt j e; simp at *; omega
              rw [HSL.out, ← HEk.out] at R1
              clear g1 g2 g3 ho3 ho2 hap2 hst
              go_wp2
              go_roundw
              case rel => exact ⟨k + 1, by omega, by go_num, v2, R2.out, R1.out, R3.out, R4.out, HGk.out⟩
              case measure => simp [intOf]; omega
        · have hk0 : (ok == 0) = false := by rw [beq_eq_false_iff_ne]; exact k0
          have HGk := hide (HG.out (by simp [goodB, hk0]))
          clear k0
          go_wp2_with fail
          refine hwc.mono ?_
          rintro e w2 ⟨rfl, v2, hw2⟩
          have HW := hide (hwr.trans hw2)
          have ho2 : OwnI w2 u6 (endsOf xs k) := hown.keep hw2.keep fun i hi e => e.elim (fun e => by have := hfrom i hi; omega) fun e => hap i hi e
          have hap2 : ∀ j, u6.ownBlock = some j → v2.ownBlock ≠ some j := fun j hj e => by
            rcases hw2.moved with hm | hm
            · exact hap j hj (hm ▸ e)
            · have := hm j e; have := hown.lt j hj; omega
          clear hw2 hwc hwr hap hown
          rw [← HLk.out] at HW
          have hst := string_any _ _ _ _ HW.out.out
          have hsl : (str (wTs (xs.take (k + 1)))).size = (wTs (xs.take (k + 1))).length := str_size _
          have HSL := hide hsl
          have hs20 : (str (wTs (xs.take (k + 1)))).size ≤ 18540 := by omega
          clear hsl
          generalize str (wTs (xs.take (k + 1))) = S at *
          have ho3 : ∀ o, (w2.alloc o).ownsRow 0 3 1 u6 (endsOf xs k).length (encI (endsOf xs k)) := fun o => ho2.later (below_alloc _ _)
          go_wp2_with fail
          refine hst.mono ?_
          rintro e w3 ⟨rfl, rfl⟩
          go_wp2_with (at_builtin; refine wpList_append_moved rfl (.tmp 50) (.tmp 53) 52 rfl 3 i0 _ 1 8 Try.underlying52 hi hz0 hz1 hz2 rfl (by decide) _ _ _ rfl (ho3 _) ⟨w3.heap.size, 0, none⟩ 1 1 [.int .i64 (S.size : Nat)] rfl rfl (cell_one_new _ _ _) (one_oneCell _ _) (by unfold maxLen; omega) (by omega) ?_; intro u' w4 g1 g2 g3)
          have R1 := hide (OwnI.push g1)
          have R2 := hide ((HW.out.later (below_alloc w3 (.cells #[.int .i64 (S.size : Nat)] 3))).grow g2 (fun j hj => by have := hfrom j hj; simp; omega) (fun e => by have := hfrom _ e; omega) hap2)
          have R3 : Hid (From (w'.heap.size + 1) u') := hfrom.moved g3 (by have := HW.out.keep.size; simp at this ⊢; omega)
          have R4 : Hid (∀ j, u'.ownBlock = some j → v2.ownBlock ≠ some j) := fun j hj e => by
            rcases g3 with hm | hm
            · exact hap2 j (hm ▸ hj) e
            · have := hm j hj; have := HW.out.out.own.lt j e; simp at *; omega
          rw [HSL.out, ← HEk.out] at R1
          clear g1 g2 g3 ho3 ho2 hap2 hst
          go_wp2
          go_roundw
          case rel => exact ⟨k + 1, by omega, by go_num, v2, R2.out, R1.out, R3.out, R4.out, HGk.out⟩
          case measure => simp [intOf]; omega
      · rw [List.take_of_length_le (by omega)] at hwr
        have hst := string_any _ _ _ _ hwr.out
        have hall : ∀ o ∈ xs, o.x < 18446744073709551616 ∧ o.s.size ≤ 300 := fun o ho => ⟨(hO.fit o ho).2.1, opsB_size HB.out o ho⟩
        have hgood2 : ∀ (j : Nat) (o : OpV), xs[j]? = some o → goodB o.k o.n = true := fun j o ho => hgood j o (by obtain ⟨h1, _⟩ := List.getElem?_eq_some_iff.1 ho; omega) ho
        have HS := hide (bs_str (wTs_lt xs hall))
        have hss : (str (wTs xs)).size = (wTs xs).length := str_size _
        have hsl : (wTs xs).length ≤ 18540 := by
          have := wTs_small HB.out n
          rwa [List.take_of_length_le (by omega)] at this
        have HSS := hide hss
        have hs20 : (str (wTs xs)).size ≤ 18540 := by omega
        obtain rfl : k = n := by omega
        obtain ⟨ao, uc, rfl, hIs, hlt2⟩ := hown.is
        rw [endsOf_len] at hIs ⊢
        clear hlen hss hgood hlt hown hfrom hap
        generalize str (wTs xs) = S at *
        by_cases hc1 : cutI < 0
        · clear hlt2
          go_wp2_with fail
          refine hst.mono ?_
          rintro e w0 ⟨rfl, rfl⟩
          go_wp2_with fail
          refine (awake_any _).mono ?_
          rintro e w5 ⟨rfl, hb5⟩
          go_wp2
          go_ret
          exact ⟨rfl, HBr.out.trans (hb5.mono HBr.out.size)⟩
        · by_cases hc2 : (S.size : Int) < cutI
          · clear hlt2
            go_wp2_with fail
            refine hst.mono ?_
            rintro e w0 ⟨rfl, rfl⟩
            go_wp2_with fail
            refine (awake_any _).mono ?_
            rintro e w5 ⟨rfl, hb5⟩
            go_wp2
            go_ret
            exact ⟨rfl, HBr.out.trans (hb5.mono HBr.out.size)⟩
          · obtain ⟨cut, rfl⟩ := Int.eq_ofNat_of_zero_le (show 0 ≤ cutI by omega)
            have hcs : (cut : Int) ≤ (S.size : Int) := by omega
            have hxs : (S.extract 0 cut).size = cut := by rw [ByteArray.size_extract]; omega
            have hxb : bs (S.extract 0 cut) = (wTs xs).take cut := by rw [bs_extract, List.drop_zero, Nat.sub_zero, HS.out]
            have HX := hide hxb
            have HXS := hide hxs
            clear hxb hxs
            go_wp2_with fail
            refine hst.mono ?_
            rintro e w0 ⟨rfl, rfl⟩
            go_wp2_with fail
            generalize S.extract 0 cut = S' at *
            refine (read_any S' _).mono ?_
            rintro e w1 ⟨rfl, hi1, hb1⟩
            have HB1 := hide (HBr.out.trans (hb1.mono HBr.out.size))
            have hBge := HBr.out.size
            have hgB : ∀ g o, ao = some ⟨g, o, none⟩ → g ≠ w0.heap.size := fun g o e => by
              have := hlt2 g (by rw [e]; rfl)
              omega
            have hI1 := hIs.later hb1
            clear hst hb1 HBr hwr hlt2 hIs
            generalize w0.heap.size = B at *
            go_wp2
            go_loopw [10] (fun i wr => ∃ k' : Nat, k' ≤ k ∧ i = .int .i64 k' ∧ (wTs (xs.take k')).length ≤ cut ∧ Did w1 B S' (wTs (xs.take k')).length 0 wr) (fun i _ => k - (intOf i).toNat)
            case atStart => exact ⟨0, Nat.zero_le _, rfl, Nat.zero_le _, Did.refl hi1⟩
            case round =>
              clear hk
              obtain ⟨k', hk, rfl, hAc, hd⟩ := hrel
              have hlen := hO.len
              have HBr := hide (HB1.out.trans (hd.below (B := w'.heap.size) HB1.out.size hBge))
              by_cases hlt : k' < k
              · obtain ⟨⟨ok, ox, os, on⟩, hs0⟩ : ∃ o, xs[k']? = some o := ⟨_, List.getElem?_eq_getElem (by omega)⟩
                obtain ⟨g, off, rfl, hbl, c0, c1, c2, c3⟩ := (hO.later HBr.out).cells k' _ hs0
                obtain ⟨hkk, hxl, _, hnn⟩ := hO.fit _ (List.mem_of_getElem? hs0)
                have hsz := opsB_size HB.out _ (List.mem_of_getElem? hs0)
                have hgd := hgood2 k' _ hs0
                simp only at c0 c1 c2 c3 hsz hkk hxl hnn hgd
                have hek := endsOf_get (xs := xs) hlt
                have hdrop : (bs S').drop (wTs (xs.take k')).length = (wT ok ox os on ++ wTs (xs.drop (k' + 1))).take (cut - (wTs (xs.take k')).length) := by
                  rw [HX.out, List.drop_take]
                  congr 1
                  exact wTs_split hs0
                have HAk0 : Hid ((wTs (xs.take (k' + 1))).length = (wTs (xs.take k')).length + (wT ok ox os on).length) := by
                  show _ = _
                  rw [wTs_snoc hs0, List.length_append]
                have hA : (wTs (xs.take k')).length ≤ S'.size := by rw [HXS.out]; exact hAc
                have hs63 : S'.size ≤ 9223372036854775807 := by rw [HXS.out]; omega
                have hE20 := wTs_small HB.out (k' + 1)
                clear hs0 hlen
                generalize hEdef : (wTs (xs.take (k' + 1))).length = E at *
                generalize (wTs (xs.take k')).length = A at *
                generalize wTs (xs.drop (k' + 1)) = R at *
                obtain ⟨hn1, hn2⟩ := hnn
                rcases kinds ok with rfl | rfl | rfl | rfl | hok
                · have hgd2 : ¬ on < 1 ∧ ¬ 8 < on := by simpa [goodB] using hgd
                  obtain ⟨m, rfl⟩ := Int.eq_ofNat_of_zero_le (show 0 ≤ on by omega)
                  have hfw : fixW ox (m : Int) = be ox m := by rw [fixW, if_pos (by omega), Int.toNat_natCast]
                  rw [wT0.1, hfw] at hdrop HAk0
                  have HDa := hide (hd.later (below_alloc wr (.cells #[.int .i64 0, .int .u64 (ox : Nat), .string os, .int .i64 (m : Int)] 33)))
                  have hcall := rfix_ok (m : Int) HDa.out.inn hs63 hA ⟨by omega, by omega⟩
                  rw [hdrop] at hcall
                  have hspec := fix_cut (x := ox) (m := m) (by omega) (by omega) R (cut - A)
                  have hE : E = A + m := by
                    have := HAk0.out
                    rw [be_length] at this
                    exact this
                  have hEeq : Hid (A + m = E) := hE.symm
                  have HAk : Hid ((wTs (xs.take (k' + 1))).length = E) := hEdef
                  clear hdrop HAk0 hEdef
                  by_cases hq : E ≤ cut
                  · rw [if_pos (by omega)] at hspec
                    rw [hspec] at hcall
                    simp only at hcall
                    clear hspec
                    go_wp2_with fail
                    refine hcall.mono ?_
                    rintro e w2 ⟨rfl, hd2⟩
                    have HD2 := hide (HDa.out.trans hd2)
                    clear hd2 hcall
                    have hI2 := hI1.did HD2.out hgB
                    obtain ⟨g2, ha2, hbl2, ce⟩ := hI2.cells k' _ hek
                    subst ha2
                    have hgt : (E : Int) ≤ (cut : Int) := by omega
                    have hne := later_ne w2
                    have hce : ∀ p : Later w2, p.val.cell? ⟨g2, k', none⟩ = some (.int .i64 (E : Nat)) := fun p => (p.below.cell hbl2).trans ce
                    have herr : ∀ p : Later w2, _ := fun p => same_b (err_any (HD2.out.inn.later p.below))
                    have hat : ∀ p : Later w2, _ := fun p => same_b (at_any (HD2.out.inn.later p.below))
                    rw [hEeq.out] at hat
                    go_wp2
                    refine wp_region_later (by kernel_rfl) (by kernel_rfl) ?_
                    (repeat (first | go_big_quiet_skip | (go_big_quiet_want; go_big_quiet_op; go_big_quiet_on)))
                    (go_big_quiet_want; go_big_quiet_op; apply Exists.intro; refine ⟨fun p => ?_, ?_⟩; (· exact later_of (herr p)); go_big_quiet_on)
                    (repeat (first | go_big_quiet_skip | (go_big_quiet_want; go_big_quiet_op; go_big_quiet_on)))
                    (go_big_quiet_want; go_big_quiet_op; apply Exists.intro; refine ⟨fun p => ?_, ?_⟩; (· exact later_of (hat p)); go_big_quiet_on)
                    (repeat (first | go_big_quiet_skip | (go_big_quiet_want; go_big_quiet_op; go_big_quiet_on)))
                    refine wpQuiet_nil ?_
                    rintro _ ⟨p, rfl⟩
                    go_wp2
                    go_roundw
                    case rel => exact ⟨k' + 1, by omega, by go_num, by rw [HAk.out]; exact hq, by rw [HAk.out, ← hEeq.out]; exact HD2.out.later p.below⟩
                    case measure => simp [intOf]; omega
                  · rw [if_neg (by omega)] at hspec
                    rw [hspec] at hcall
                    simp only [Nat.add_zero] at hcall
                    clear hspec
                    go_wp2_with fail
                    refine hcall.mono ?_
                    rintro e w2 ⟨rfl, hd2⟩
                    have HD2 := hide (HDa.out.trans hd2)
                    clear hd2 hcall
                    have hI2 := hI1.did HD2.out hgB
                    obtain ⟨g2, ha2, hbl2, ce⟩ := hI2.cells k' _ hek
                    subst ha2
                    have hgt : (cut : Int) < (E : Int) := by omega
                    have HB2 := hide (HB1.out.trans (HD2.out.below (B := w'.heap.size) HB1.out.size hBge))
                    go_wp2_with fail
                    refine (err_any HD2.out.inn).mono ?_
                    rintro e w5 ⟨rfl, hw5⟩
                    subst hw5
                    go_wp2_with fail
                    refine (awake_any _).mono ?_
                    rintro e w6 ⟨rfl, hb6⟩
                    go_wp2
                    go_ret
                    exact ⟨rfl, HB2.out.trans (hb6.mono HB2.out.size)⟩
                · clear hgd
                  rw [wT1.1] at hdrop HAk0
                  have HDa := hide (hd.later (below_alloc wr (.cells #[.int .i64 1, .int .u64 (ox : Nat), .string os, .int .i64 on] 33)))
                  have hcall := rvar_ok HDa.out.inn hs63 hA
                  rw [hdrop] at hcall
                  have hspec := few_cut2 hxl R (cut - A)
                  have hE : E = A + size ox := by
                    have := HAk0.out
                    rw [vr_length] at this
                    exact this
                  have hEeq : Hid (A + size ox = E) := hE.symm
                  have HAk : Hid ((wTs (xs.take (k' + 1))).length = E) := hEdef
                  clear hdrop HAk0 hEdef
                  by_cases hq : E ≤ cut
                  · rw [if_pos (by omega)] at hspec
                    rw [hspec] at hcall
                    simp only at hcall
                    clear hspec
                    go_wp2_with fail
                    refine hcall.mono ?_
                    rintro e w2 ⟨rfl, hd2⟩
                    have HD2 := hide (HDa.out.trans hd2)
                    clear hd2 hcall
                    have hI2 := hI1.did HD2.out hgB
                    obtain ⟨g2, ha2, hbl2, ce⟩ := hI2.cells k' _ hek
                    subst ha2
                    have hgt : (E : Int) ≤ (cut : Int) := by omega
                    have hne := later_ne w2
                    have hce : ∀ p : Later w2, p.val.cell? ⟨g2, k', none⟩ = some (.int .i64 (E : Nat)) := fun p => (p.below.cell hbl2).trans ce
                    have herr : ∀ p : Later w2, _ := fun p => same_b (err_any (HD2.out.inn.later p.below))
                    have hat : ∀ p : Later w2, _ := fun p => same_b (at_any (HD2.out.inn.later p.below))
                    rw [hEeq.out] at hat
                    go_wp2
                    refine wp_region_later (by kernel_rfl) (by kernel_rfl) ?_
                    (repeat (first | go_big_quiet_skip | (go_big_quiet_want; go_big_quiet_op; go_big_quiet_on)))
                    (go_big_quiet_want; go_big_quiet_op; apply Exists.intro; refine ⟨fun p => ?_, ?_⟩; (· exact later_of (herr p)); go_big_quiet_on)
                    (repeat (first | go_big_quiet_skip | (go_big_quiet_want; go_big_quiet_op; go_big_quiet_on)))
                    (go_big_quiet_want; go_big_quiet_op; apply Exists.intro; refine ⟨fun p => ?_, ?_⟩; (· exact later_of (hat p)); go_big_quiet_on)
                    (repeat (first | go_big_quiet_skip | (go_big_quiet_want; go_big_quiet_op; go_big_quiet_on)))
                    refine wpQuiet_nil ?_
                    rintro _ ⟨p, rfl⟩
                    go_wp2
                    go_roundw
                    case rel => exact ⟨k' + 1, by omega, by go_num, by rw [HAk.out]; exact hq, by rw [HAk.out, ← hEeq.out]; exact HD2.out.later p.below⟩
                    case measure => simp [intOf]; omega
                  · rw [if_neg (by omega)] at hspec
                    rw [hspec] at hcall
                    simp only [Nat.add_zero] at hcall
                    clear hspec
                    go_wp2_with fail
                    refine hcall.mono ?_
                    rintro e w2 ⟨rfl, hd2⟩
                    have HD2 := hide (HDa.out.trans hd2)
                    clear hd2 hcall
                    have hI2 := hI1.did HD2.out hgB
                    obtain ⟨g2, ha2, hbl2, ce⟩ := hI2.cells k' _ hek
                    subst ha2
                    have hgt : (cut : Int) < (E : Int) := by omega
                    have HB2 := hide (HB1.out.trans (HD2.out.below (B := w'.heap.size) HB1.out.size hBge))
                    go_wp2_with fail
                    refine (err_any HD2.out.inn).mono ?_
                    rintro e w5 ⟨rfl, hw5⟩
                    subst hw5
                    go_wp2_with fail
                    refine (awake_any _).mono ?_
                    rintro e w6 ⟨rfl, hb6⟩
                    go_wp2
                    go_ret
                    exact ⟨rfl, HB2.out.trans (hb6.mono HB2.out.size)⟩
                · clear hgd
                  rw [wT4.1] at hdrop HAk0
                  have HDa := hide (hd.later (below_alloc wr (.cells #[.int .i64 4, .int .u64 (ox : Nat), .string os, .int .i64 on] 33)))
                  have hcall := rvar_ok HDa.out.inn hs63 hA
                  rw [hdrop] at hcall
                  have hspec := few_cut2 hxl R (cut - A)
                  have hE : E = A + size ox := by
                    have := HAk0.out
                    rw [vr_length] at this
                    exact this
                  have hEeq : Hid (A + size ox = E) := hE.symm
                  have HAk : Hid ((wTs (xs.take (k' + 1))).length = E) := hEdef
                  clear hdrop HAk0 hEdef
                  by_cases hq : E ≤ cut
                  · rw [if_pos (by omega)] at hspec
                    rw [hspec] at hcall
                    simp only at hcall
                    clear hspec
                    go_wp2_with fail
                    refine hcall.mono ?_
                    rintro e w2 ⟨rfl, hd2⟩
                    have HD2 := hide (HDa.out.trans hd2)
                    clear hd2 hcall
                    have hI2 := hI1.did HD2.out hgB
                    obtain ⟨g2, ha2, hbl2, ce⟩ := hI2.cells k' _ hek
                    subst ha2
                    have hgt : (E : Int) ≤ (cut : Int) := by omega
                    have hne := later_ne w2
                    have hce : ∀ p : Later w2, p.val.cell? ⟨g2, k', none⟩ = some (.int .i64 (E : Nat)) := fun p => (p.below.cell hbl2).trans ce
                    have herr : ∀ p : Later w2, _ := fun p => same_b (err_any (HD2.out.inn.later p.below))
                    have hat : ∀ p : Later w2, _ := fun p => same_b (at_any (HD2.out.inn.later p.below))
                    rw [hEeq.out] at hat
                    go_wp2
                    refine wp_region_later (by kernel_rfl) (by kernel_rfl) ?_
                    (repeat (first | go_big_quiet_skip | (go_big_quiet_want; go_big_quiet_op; go_big_quiet_on)))
                    (go_big_quiet_want; go_big_quiet_op; apply Exists.intro; refine ⟨fun p => ?_, ?_⟩; (· exact later_of (herr p)); go_big_quiet_on)
                    (repeat (first | go_big_quiet_skip | (go_big_quiet_want; go_big_quiet_op; go_big_quiet_on)))
                    (go_big_quiet_want; go_big_quiet_op; apply Exists.intro; refine ⟨fun p => ?_, ?_⟩; (· exact later_of (hat p)); go_big_quiet_on)
                    (repeat (first | go_big_quiet_skip | (go_big_quiet_want; go_big_quiet_op; go_big_quiet_on)))
                    refine wpQuiet_nil ?_
                    rintro _ ⟨p, rfl⟩
                    go_wp2
                    go_roundw
                    case rel => exact ⟨k' + 1, by omega, by go_num, by rw [HAk.out]; exact hq, by rw [HAk.out, ← hEeq.out]; exact HD2.out.later p.below⟩
                    case measure => simp [intOf]; omega
                  · rw [if_neg (by omega)] at hspec
                    rw [hspec] at hcall
                    simp only [Nat.add_zero] at hcall
                    clear hspec
                    go_wp2_with fail
                    refine hcall.mono ?_
                    rintro e w2 ⟨rfl, hd2⟩
                    have HD2 := hide (HDa.out.trans hd2)
                    clear hd2 hcall
                    have hI2 := hI1.did HD2.out hgB
                    obtain ⟨g2, ha2, hbl2, ce⟩ := hI2.cells k' _ hek
                    subst ha2
                    have hgt : (cut : Int) < (E : Int) := by omega
                    have HB2 := hide (HB1.out.trans (HD2.out.below (B := w'.heap.size) HB1.out.size hBge))
                    go_wp2_with fail
                    refine (err_any HD2.out.inn).mono ?_
                    rintro e w5 ⟨rfl, hw5⟩
                    subst hw5
                    go_wp2_with fail
                    refine (awake_any _).mono ?_
                    rintro e w6 ⟨rfl, hb6⟩
                    go_wp2
                    go_ret
                    exact ⟨rfl, HB2.out.trans (hb6.mono HB2.out.size)⟩
                · clear hgd
                  rw [wT2.1] at hdrop HAk0
                  have HDa := hide (hd.later (below_alloc wr (.cells #[.int .i64 2, .int .u64 (ox : Nat), .string os, .int .i64 on] 33)))
                  have hcall := rtxt_ok (os.size : Int) HDa.out.inn hs63 hA ⟨by omega, by omega⟩
                  rw [hdrop] at hcall
                  have hspec := txt_cut os (by omega) R (cut - A)
                  have hE : E = A + (size os.size + os.size) := by
                    have := HAk0.out
                    rw [tx, List.length_append, vr_length, bs_length] at this
                    exact this
                  have hEeq : Hid (A + (size os.size + os.size) = E) := hE.symm
                  have HAk : Hid ((wTs (xs.take (k' + 1))).length = E) := hEdef
                  clear hdrop HAk0 hEdef
                  by_cases hq : E ≤ cut
                  · rw [if_pos (by omega)] at hspec
                    rw [hspec] at hcall
                    simp only at hcall
                    clear hspec
                    go_wp2_with fail
                    refine hcall.mono ?_
                    rintro e w2 ⟨rfl, hd2⟩
                    have HD2 := hide (HDa.out.trans hd2)
                    clear hd2 hcall
                    have hI2 := hI1.did HD2.out hgB
                    obtain ⟨g2, ha2, hbl2, ce⟩ := hI2.cells k' _ hek
                    subst ha2
                    have hgt : (E : Int) ≤ (cut : Int) := by omega
                    have hne := later_ne w2
                    have hce : ∀ p : Later w2, p.val.cell? ⟨g2, k', none⟩ = some (.int .i64 (E : Nat)) := fun p => (p.below.cell hbl2).trans ce
                    have herr : ∀ p : Later w2, _ := fun p => same_b (err_any (HD2.out.inn.later p.below))
                    have hat : ∀ p : Later w2, _ := fun p => same_b (at_any (HD2.out.inn.later p.below))
                    rw [hEeq.out] at hat
                    go_wp2
                    refine wp_region_later (by kernel_rfl) (by kernel_rfl) ?_
                    (repeat (first | go_big_quiet_skip | (go_big_quiet_want; go_big_quiet_op; go_big_quiet_on)))
                    (go_big_quiet_want; go_big_quiet_op; apply Exists.intro; refine ⟨fun p => ?_, ?_⟩; (· exact later_of (herr p)); go_big_quiet_on)
                    (repeat (first | go_big_quiet_skip | (go_big_quiet_want; go_big_quiet_op; go_big_quiet_on)))
                    (go_big_quiet_want; go_big_quiet_op; apply Exists.intro; refine ⟨fun p => ?_, ?_⟩; (· exact later_of (hat p)); go_big_quiet_on)
                    (repeat (first | go_big_quiet_skip | (go_big_quiet_want; go_big_quiet_op; go_big_quiet_on)))
                    refine wpQuiet_nil ?_
                    rintro _ ⟨p, rfl⟩
                    go_wp2
                    go_roundw
                    case rel => exact ⟨k' + 1, by omega, by go_num, by rw [HAk.out]; exact hq, by rw [HAk.out, ← hEeq.out]; exact HD2.out.later p.below⟩
                    case measure => simp [intOf]; omega
                  · rw [if_neg (by omega)] at hspec
                    rw [hspec] at hcall
                    simp only [Nat.add_zero] at hcall
                    clear hspec
                    go_wp2_with fail
                    refine hcall.mono ?_
                    rintro e w2 ⟨rfl, hd2⟩
                    have HD2 := hide (HDa.out.trans hd2)
                    clear hd2 hcall
                    have hI2 := hI1.did HD2.out hgB
                    obtain ⟨g2, ha2, hbl2, ce⟩ := hI2.cells k' _ hek
                    subst ha2
                    have hgt : (cut : Int) < (E : Int) := by omega
                    have HB2 := hide (HB1.out.trans (HD2.out.below (B := w'.heap.size) HB1.out.size hBge))
                    go_wp2_with fail
                    refine (err_any HD2.out.inn).mono ?_
                    rintro e w5 ⟨rfl, hw5⟩
                    subst hw5
                    go_wp2_with fail
                    refine (awake_any _).mono ?_
                    rintro e w6 ⟨rfl, hb6⟩
                    go_wp2
                    go_ret
                    exact ⟨rfl, HB2.out.trans (hb6.mono HB2.out.size)⟩
                · clear hgd
                  have hwt := (wTr (x := ox) (s := os) (n := on) hok).1
                  obtain ⟨k0, k1, k4, k2⟩ := hok
                  rw [hwt] at hdrop HAk0
                  have HDa := hide (hd.later (below_alloc wr (.cells #[.int .i64 ok, .int .u64 (ox : Nat), .string os, .int .i64 on] 33)))
                  have hcall := rraw_ok (os.size : Int) HDa.out.inn hs63 hA ⟨by omega, by omega⟩
                  rw [hdrop] at hcall
                  have hspec := raw_cut os R (cut - A)
                  have hE : E = A + os.size := by
                    have := HAk0.out
                    rw [bs_length] at this
                    exact this
                  have hEeq : Hid (A + os.size = E) := hE.symm
                  have HAk : Hid ((wTs (xs.take (k' + 1))).length = E) := hEdef
                  clear hdrop HAk0 hEdef
                  by_cases hq : E ≤ cut
                  · rw [if_pos (by omega)] at hspec
                    rw [hspec] at hcall
                    simp only at hcall
                    clear hspec
                    go_wp2_with fail
                    refine hcall.mono ?_
                    rintro e w2 ⟨rfl, hd2⟩
                    have HD2 := hide (HDa.out.trans hd2)
                    clear hd2 hcall
                    have hI2 := hI1.did HD2.out hgB
                    obtain ⟨g2, ha2, hbl2, ce⟩ := hI2.cells k' _ hek
                    subst ha2
                    have hgt : (E : Int) ≤ (cut : Int) := by omega
                    have hne := later_ne w2
                    have hce : ∀ p : Later w2, p.val.cell? ⟨g2, k', none⟩ = some (.int .i64 (E : Nat)) := fun p => (p.below.cell hbl2).trans ce
                    have herr : ∀ p : Later w2, _ := fun p => same_b (err_any (HD2.out.inn.later p.below))
                    have hat : ∀ p : Later w2, _ := fun p => same_b (at_any (HD2.out.inn.later p.below))
                    rw [hEeq.out] at hat
                    go_wp2
                    refine wp_region_later (by kernel_rfl) (by kernel_rfl) ?_
                    (repeat (first | go_big_quiet_skip | (go_big_quiet_want; go_big_quiet_op; go_big_quiet_on)))
                    (go_big_quiet_want; go_big_quiet_op; apply Exists.intro; refine ⟨fun p => ?_, ?_⟩; (· exact later_of (herr p)); go_big_quiet_on)
                    (repeat (first | go_big_quiet_skip | (go_big_quiet_want; go_big_quiet_op; go_big_quiet_on)))
                    (go_big_quiet_want; go_big_quiet_op; apply Exists.intro; refine ⟨fun p => ?_, ?_⟩; (· exact later_of (hat p)); go_big_quiet_on)
                    (repeat (first | go_big_quiet_skip | (go_big_quiet_want; go_big_quiet_op; go_big_quiet_on)))
                    refine wpQuiet_nil ?_
                    rintro _ ⟨p, rfl⟩
                    go_wp2
                    go_roundw
                    case rel => exact ⟨k' + 1, by omega, by go_num, by rw [HAk.out]; exact hq, by rw [HAk.out, ← hEeq.out]; exact HD2.out.later p.below⟩
                    case measure => simp [intOf]; omega
                  · rw [if_neg (by omega)] at hspec
                    rw [hspec] at hcall
                    simp only [Nat.add_zero] at hcall
                    clear hspec
                    go_wp2_with fail
                    refine hcall.mono ?_
                    rintro e w2 ⟨rfl, hd2⟩
                    have HD2 := hide (HDa.out.trans hd2)
                    clear hd2 hcall
                    have hI2 := hI1.did HD2.out hgB
                    obtain ⟨g2, ha2, hbl2, ce⟩ := hI2.cells k' _ hek
                    subst ha2
                    have hgt : (cut : Int) < (E : Int) := by omega
                    have HB2 := hide (HB1.out.trans (HD2.out.below (B := w'.heap.size) HB1.out.size hBge))
                    go_wp2_with fail
                    refine (err_any HD2.out.inn).mono ?_
                    rintro e w5 ⟨rfl, hw5⟩
                    subst hw5
                    go_wp2_with fail
                    refine (awake_any _).mono ?_
                    rintro e w6 ⟨rfl, hb6⟩
                    go_wp2
                    go_ret
                    exact ⟨rfl, HB2.out.trans (hb6.mono HB2.out.size)⟩
              · obtain rfl : k' = k := by omega
                have hl := left_any hd.inn (by rw [HXS.out]; omega) (by rw [HXS.out]; exact hAc)
                rw [HXS.out] at hl
                clear hlen
                generalize (wTs (xs.take k')).length = A at *
                go_wp2_with fail
                refine hl.mono ?_
                rintro e w5 ⟨rfl, hb5⟩
                have HB5 := hide (HBr.out.trans (hb5.mono HBr.out.size))
                go_wp2_with fail
                refine (at_any (hd.later hb5).inn).mono ?_
                rintro e w6 ⟨rfl, hw6⟩
                subst hw6
                go_wp2_with fail
                refine (awake_any _).mono ?_
                rintro e w7 ⟨rfl, hb7⟩
                go_wp2
                go_ret
                exact ⟨rfl, HB5.out.trans (hb7.mono HB5.out.size)⟩

end Wi
end Go.Proofs.Ytnpnghdjdelemaa
