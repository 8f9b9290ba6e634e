/- Put and Cut, of any extents and spans that are handed in. -/
import Derived.Test.YtjbgojccfkmlnaaWv
namespace Go.Proofs.Ytjbgojccfkmlnaa
open Go.RowKit
namespace Wi

/-- One extent is put; one span is cut: what there is, and what was. -/
def stepP (p : List Xt × List Xt) (x : Xt) : List Xt × List Xt := (layL p.1 x.at_ x.fin [x], p.2 ++ wasL p.1 x.at_ x.fin)
def stepC (p : List Xt × List Xt) (x : Xt) : List Xt × List Xt := (layL p.1 x.at_ x.fin [], p.2 ++ wasL p.1 x.at_ x.fin)
def putP (l xs : List Xt) : List Xt × List Xt := xs.foldl stepP (l, [])
def cutP (l xs : List Xt) : List Xt × List Xt := xs.foldl stepC (l, [])
theorem was_len (l : List Xt) (a b : Nat) : (wasL l a b).length ≤ l.length := Nat.le_trans (ahead_len _ _) (behind_len _ _)
theorem Fit.put {l : List Xt} {x : Xt} (h : Fit l) (hs : x.Sm) (h1 : 1 ≤ x.len) : Fit (layL l x.at_ x.fin [x]) :=
  h.lay h1 (fun y hy => by simp at hy; subst hy; exact hs) (Nat.le_add_right _ _) fun y hy => by simp at hy; subst hy; exact ⟨Nat.le_refl _, Nat.le_refl _⟩
theorem Fit.cut {l : List Xt} {x : Xt} (h : Fit l) : Fit (layL l x.at_ x.fin []) :=
  h.lay trivial (fun y hy => by simp at hy) (Nat.le_add_right _ _) fun y hy => by simp at hy
theorem fold_take {α : Type} (f : α → Xt → α) (a : α) {l : List Xt} {k : Nat} {x : Xt} (h : l[k]? = some x) : (l.take (k + 1)).foldl f a = f ((l.take k).foldl f a) x := by
  rw [List.take_add_one, h, List.foldl_append]
  rfl
theorem LeftT.chain {B : Th} {w w1 w2 : World} {X X1 : Nat → Prop} (h2 : Keep X w w1) (h3 : ∀ k, X1 k → X k ∨ w.heap.size ≤ k) (hl : LeftT B w1 X1 w2) : LeftT B w X w2 := by
  obtain ⟨X2, k1, k2, k3⟩ := hl
  refine ⟨X2, k1, h2.trans k2 fun k hk e => ?_, fun k hk => ?_⟩
  · rcases h3 k e with e2 | e2
    · exact e2
    · omega
  · rcases k3 k hk with e | e
    · exact h3 k e
    · exact .inr (Nat.le_trans h2.size e)
theorem LeftT.frame_at {B C : Th} (hB : B.Good) {w w' : World} {X Y Z : Nat → Prop} (h2 : B w Y) (h3 : ∀ k, X k → ¬ Y k) (h4 : ∀ k, Z k ↔ X k ∨ Y k) (hl : LeftT C w X w') : LeftT (C.and B) w Z w' :=
  LeftT.frame (A := fun w1 X1 => w1 = w ∧ X1 = X) hB ⟨X, Y, ⟨rfl, rfl⟩, h2, h3, h4⟩ fun X2 hX2 => by
    obtain ⟨_, rfl⟩ := hX2
    exact hl
def xof (xs : List Ix) : List Xt := xs.map Ix.x
theorem xof_get {xs : List Ix} {k : Nat} {x : Ix} (h : xs[k]? = some x) : (xof xs)[k]? = some x.x := by unfold xof; rw [List.getElem?_map, h]; rfl
set_option maxHeartbeats 8000000 in
set_option maxRecDepth 100000 in
theorem put_no {w : World} {a : Option Addr} {n cap b : Nat} {xs : List Ix} (hE : Es w a n xs) (hn : n ≤ cap) (hno : ∃ x ∈ xs, x.may = false) : Calls Try.prog 28 #[.pointer (some ⟨b, 0, none⟩), .slice a n cap] w fun e w' => e = .returned (.tuple #[.slice none 0 0, .int .i64 1]) ∧ Below w.heap.size w w' := by
  have HE := hide hE
  have HL := hide hE.len
  have hm := hE.most
  have HNO := hide hno
  clear hE hno
  go_enter Try.func28, Try.ntmps28
  go_wp2
  go_loopw [16] (fun i wr => ∃ k : Nat, k ≤ n ∧ i = .int .i64 k ∧ (∀ j x, j < k → xs[j]? = some x → x.may = true) ∧ Below w.heap.size w wr) (fun i _ => n - (intOf i).toNat)
  case atStart => exact ⟨0, Nat.zero_le _, rfl, fun j x h => by omega, Below.refl _ _⟩
  case round =>
    obtain ⟨k, hk, rfl, hall, hb⟩ := hrel
    by_cases hlt : k < n
    · obtain ⟨x, hx⟩ : ∃ x, xs[k]? = some x := ⟨_, List.getElem?_eq_getElem (by have := HL.out; omega)⟩
      have hr := HE.out.rng x (List.mem_of_getElem? hx)
      obtain ⟨g, off, rfl, hg, c0, c1, c2, c3⟩ := (HE.out.later hb).cells k x hx
      have hc := may_any x.a x.n x.q x.t hr.a hr.n (wr.alloc (.cells #[.int .i64 x.a, .int .i64 x.n, .int .i64 x.q, .int .i64 x.t] 40))
      have HB := hide (hb.alloc hb.size (.cells #[.int .i64 x.a, .int .i64 x.n, .int .i64 x.q, .int .i64 x.t] 40))
      have HX := hide hx
      have HA := hide hall
      obtain ⟨xa, xn, xq, xt⟩ := x
      unfold vX at hc
      simp only at *
      clear hx hr hb hall
      cases hmm : mayX xa xn xq xt with
      | true =>
        rw [hmm, show erB true = 0 from rfl] at hc
        have HM : Hid (Ix.may ⟨xa, xn, xq, xt⟩ = true) := hmm
        clear hmm
        go_wp2_with fail
        refine hc.mono ?_
        rintro e w2 ⟨rfl, hb2⟩
        have HB2 := hide (HB.out.trans (hb2.mono HB.out.size))
        clear hc hb2
        go_wp2
        go_roundw
        case rel => exact ⟨k + 1, by omega, by go_num, fun j y hj hy => by
          by_cases e : j = k
          · subst e
            have := HX.out
            rw [hy] at this
            injection this with this
            rw [this]
            exact HM.out
          · exact HA.out j y (by omega) hy, HB2.out⟩
        case measure => simp [intOf]; omega
      | false =>
        rw [hmm, show erB false = 1 from rfl] at hc
        clear hmm
        go_wp2_with fail
        refine hc.mono ?_
        rintro e w2 ⟨rfl, hb2⟩
        have HB2 := hide (HB.out.trans (hb2.mono HB.out.size))
        clear hc hb2
        go_wp2
        go_ret2
        exact ⟨rfl, HB2.out⟩
    · obtain rfl : k = n := by omega
      obtain ⟨x, hxm, hxf⟩ := HNO.out
      obtain ⟨j, hj, rfl⟩ := List.mem_iff_getElem.1 hxm
      have := hall j xs[j] (by have := HL.out; omega) (List.getElem?_eq_getElem hj)
      rw [hxf] at this
      cases this
set_option maxHeartbeats 8000000 in
set_option maxRecDepth 100000 in
theorem put_ok {w : World} {a : Option Addr} {n cap b : Nat} {xs : List Ix} {l : List Xt} {X0 : Nat → Prop} (hE : Es w a n xs) (hn : n ≤ cap) (hn10 : n ≤ 10) (hM : mapT b l w X0) (hF : Fit l) (hEx : 0 < n → ∀ g off, a = some ⟨g, off, none⟩ → ¬ X0 g) (hall : ∀ x ∈ xs, x.may = true) :
    Calls Try.prog 28 #[.pointer (some ⟨b, 0, none⟩), .slice a n cap] w fun e w' => ∃ f, e = .returned (.tuple #[f, .int .i64 0]) ∧ LeftT ((mapT b (putP l (xof xs)).1).and (listT f (putP l (xof xs)).2)) w X0 w' := by
  have HE := hide hE
  have HL := hide hE.len
  have HMM := hide hM
  have HF := hide hF
  have HEx := hide hEx
  have HA := hide hall
  clear hE hM hF hEx hall
  go_enter Try.func28, Try.ntmps28
  go_wp2
  go_loopw [16] (fun i wr => ∃ k : Nat, k ≤ n ∧ i = .int .i64 k ∧ Below w.heap.size w wr) (fun i _ => n - (intOf i).toNat)
  case atStart => exact ⟨0, Nat.zero_le _, rfl, Below.refl _ _⟩
  case round =>
    obtain ⟨k, hk, rfl, hb⟩ := hrel
    by_cases hlt : k < n
    · obtain ⟨x, hx⟩ : ∃ x, xs[k]? = some x := ⟨_, List.getElem?_eq_getElem (by have := HL.out; omega)⟩
      have hr := HE.out.rng x (List.mem_of_getElem? hx)
      have hmm := HA.out x (List.mem_of_getElem? hx)
      obtain ⟨g, off, rfl, hg, c0, c1, c2, c3⟩ := (HE.out.later hb).cells k x hx
      have hc := may_any x.a x.n x.q x.t hr.a hr.n (wr.alloc (.cells #[.int .i64 x.a, .int .i64 x.n, .int .i64 x.q, .int .i64 x.t] 40))
      rw [show mayX x.a x.n x.q x.t = true from hmm, show erB true = 0 from rfl] at hc
      have HB := hide (hb.alloc hb.size (.cells #[.int .i64 x.a, .int .i64 x.n, .int .i64 x.q, .int .i64 x.t] 40))
      obtain ⟨xa, xn, xq, xt⟩ := x
      unfold vX at hc
      simp only at *
      clear hx hr hb hmm
      go_wp2_with fail
      refine hc.mono ?_
      rintro e w2 ⟨rfl, hb2⟩
      have HB2 := hide (HB.out.trans (hb2.mono HB.out.size))
      clear hc hb2
      go_wp2
      go_roundw
      case rel => exact ⟨k + 1, by omega, by go_num, HB2.out⟩
      case measure => simp [intOf]; omega
    · obtain rfl : k = n := by omega
      have HB := hide hb
      obtain ⟨W1, hW1⟩ : ∃ W1, W1 = wr := ⟨_, rfl⟩
      subst hW1
      have HM1 := hide ((mapT_good b l).later HMM.out hb)
      have HEW := hide (HE.out.later hb)
      clear hb hlt hk
      go_wp2
      go_loopw [9, 28] (fun f i wr => ∃ i0 : Nat, i0 ≤ k ∧ i = .int .i64 i0 ∧ LeftT ((mapT b ((xof xs).take i0 |>.foldl stepP (l, [])).1).and (listT f ((xof xs).take i0 |>.foldl stepP (l, [])).2)) W1 X0 wr ∧ Fit ((xof xs).take i0 |>.foldl stepP (l, [])).1 ∧ ((xof xs).take i0 |>.foldl stepP (l, [])).2.length ≤ i0 * 65536) (fun _ i _ => k - (intOf i).toNat)
      case atStart => exact ⟨0, Nat.zero_le _, rfl, start_list HM1.out, HF.out, by simp⟩
      case round =>
        obtain ⟨i0, hi0, rfl, hS, hFit, hlen⟩ := hrel
        by_cases hlt : i0 < k
        · obtain ⟨x, hx⟩ : ∃ x, xs[i0]? = some x := ⟨_, List.getElem?_eq_getElem (by have := HL.out; omega)⟩
          have hr := HE.out.rng x (List.mem_of_getElem? hx)
          have hmm := HA.out x (List.mem_of_getElem? hx)
          have HT1 := hide (fold_take stepP (l, []) (xof_get hx))
          obtain ⟨hxs, hx1⟩ := Ix.sm hmm
          have hxe := Ix.x_ix hmm
          obtain ⟨g, off, rfl, hg, c0, c1, c2, c3⟩ := HEW.out.cells i0 x hx
          have hgX : ¬ X0 g := HEx.out (by omega) g off rfl
          obtain ⟨X1, ⟨XA, XB, hq1, hq2, hq3, hq4⟩, hk1, hn1⟩ := hS
          obtain ⟨fa, fc, rfl, _, _⟩ := hq2.1.len
          have hX1 : ((mapT b _).and (listT _ _)) wr X1 := ⟨XA, XB, hq1, hq2, hq3, hq4⟩
          have hgk : ∀ j, wr.cell? ⟨g, j, none⟩ = W1.cell? ⟨g, j, none⟩ := fun j => keep_cell hk1 hg hgX
          rw [← hgk] at c0 c1 c2 c3
          rw [← hxe] at c0 c1 c2 c3
          generalize hy : x.x = y at *
          generalize ((xof xs).take i0).foldl stepP (l, []) = p at *
          obtain ⟨l1, acc⟩ := p
          obtain ⟨ya, yl, yq, yt⟩ := y
          simp only [Xt.ix] at *
          have hS2 : LeftT ((mapT b l1).and (listT (.slice fa acc.length fc) acc)) W1 X0 wr := ⟨X1, hX1, hk1, hn1⟩
          have HS := hide hS2
          have HFit := hide hFit
          have HLen := hide hlen
          have HXS := hide hxs
          clear hS2 hX1 hk1 hn1 hgk hgX hq1 hq2 hq3 hq4 hFit hlen hr hmm hxe hy hx
          have hxb := hxs.1
          unfold Xt.fin at hxb
          simp only at hxb hx1
          have hbb : Below wr.heap.size wr ((wr.alloc (.cells #[.int .i64 (ya : Nat), .int .i64 (yl : Nat), .int .i64 (yq : Nat), .int .i64 (yt : Nat)] 40)).alloc (.cells #[.int .i64 (ya : Nat), .int .i64 (yl : Nat), .int .i64 (yq : Nat), .int .i64 (yt : Nat)] 40)) := (below_alloc wr _).alloc (below_alloc wr _).size _
          obtain ⟨X1, ⟨XM, XL, ⟨v, hRM, hXv⟩, hL1, hd1, hi1⟩, hk1, hn1⟩ := HS.out.later (((mapT_good b l1).and (listT_good _ acc))) hbb
          have hone : Xs ((wr.alloc (.cells #[.int .i64 (ya : Nat), .int .i64 (yl : Nat), .int .i64 (yq : Nat), .int .i64 (yt : Nat)] 40)).alloc (.cells #[.int .i64 (ya : Nat), .int .i64 (yl : Nat), .int .i64 (yq : Nat), .int .i64 (yt : Nat)] 40)) (.slice (some ⟨wr.heap.size + 1, 0, none⟩) 1 1) [⟨ya, yl, yq, yt⟩] := by
            have := one_xs (x := ⟨ya, yl, yq, yt⟩) (heap_alloc_new (wr.alloc (.cells #[.int .i64 (ya : Nat), .int .i64 (yl : Nat), .int .i64 (yq : Nat), .int .i64 (yt : Nat)] 40)) (.cells (encX ⟨ya, yl, yq, yt⟩).toArray 40))
            rwa [show (wr.alloc (.cells #[.int .i64 (ya : Nat), .int .i64 (yl : Nat), .int .i64 (yq : Nat), .int .i64 (yt : Nat)] 40)).heap.size = wr.heap.size + 1 by simp] at this
          have hc := lay_any hXv hRM HFit.out.can HFit.out.sm (Nat.le_trans HFit.out.len (by omega)) hone (show Ris [(⟨ya, yl, yq, yt⟩ : Xt)] from hx1) (fun z hz => by simp at hz; subst hz; exact HXS.out) (by simp) ya yl hx1 hxb (fun z hz => by simp at hz; subst hz; exact ⟨Nat.le_refl _, Nat.le_refl _⟩)
          have HFit2 : Hid (Fit (layL l1 ya (ya + yl) [⟨ya, yl, yq, yt⟩])) := HFit.out.put (x := ⟨ya, yl, yq, yt⟩) HXS.out hx1
          have HWL : Hid ((wasL l1 ya (ya + yl)).length ≤ 65536) := Nat.le_trans (was_len _ _ _) HFit.out.len
          have HFR : Hid (∀ w3 v', LeftT ((mapT b (layL l1 ya (ya + yl) [⟨ya, yl, yq, yt⟩])).and (listT v' (wasL l1 ya (ya + yl)))) ((wr.alloc (.cells #[.int .i64 (ya : Nat), .int .i64 (yl : Nat), .int .i64 (yq : Nat), .int .i64 (yt : Nat)] 40)).alloc (.cells #[.int .i64 (ya : Nat), .int .i64 (yl : Nat), .int .i64 (yq : Nat), .int .i64 (yt : Nat)] 40)) XM w3 → LeftT (((mapT b (layL l1 ya (ya + yl) [⟨ya, yl, yq, yt⟩])).and (listT v' (wasL l1 ya (ya + yl)))).and (listT (.slice fa acc.length fc) acc)) W1 X0 w3) := fun w3 v' hl => LeftT.chain hk1 hn1 (LeftT.frame_at (listT_good _ _) hL1 hd1 hi1 hl)
          clear hRM hXv hL1 hd1 hi1 hk1 hn1 hone hbb
          go_wp2_with fail
          refine hc.mono ?_
          rintro e w3 ⟨v3, rfl, hl3⟩
          obtain ⟨X3, hZ3, hk3, hn3⟩ := HFR.out w3 v3 hl3
          obtain ⟨va3, vc3, rfl, _, _⟩ : ∃ a c, v3 = .slice a (wasL l1 ya (ya + yl)).length c ∧ (wasL l1 ya (ya + yl)).length ≤ c ∧ c ≤ 9223372036854775807 := by
            obtain ⟨_, _, ⟨_, _, _, h2, _⟩, _⟩ := hZ3
            exact h2.1.len
          have HV3 : Hid (Xs w3 (.slice va3 (wasL l1 ya (ya + yl)).length vc3) (wasL l1 ya (ya + yl))) := by
            obtain ⟨_, _, ⟨_, _, _, h2, _⟩, _⟩ := hZ3
            exact h2.1
          have HF3 : Hid (Xs w3 (.slice fa acc.length fc) acc) := by
            obtain ⟨_, _, _, h2, _⟩ := hZ3
            exact h2.1
          have HZ3 := hide hZ3
          have HK3 := hide hk3
          have HN3 := hide hn3
          have HQ := hide (encXs_oneCell (wasL l1 ya (ya + yl)))
          have b1 : acc.length + (wasL l1 ya (ya + yl)).length ≤ maxLen := by have := HLen.out; have := HWL.out; unfold maxLen; omega
          have b2 : (acc.length + (wasL l1 ya (ya + yl)).length) * 32 ≤ 140737488355328 := by have := HLen.out; have := HWL.out; omega
          clear hc hl3 hZ3 hk3 hn3 HFR
          go_wp2_with (at_builtin; refine append30 rfl (.tmp 32) (.tmp 38) rfl _ _ _ rfl HF3.out va3 _ vc3 _ rfl HV3.out HQ.out b1 b2 ?_; intro v4 w4 g1 g2 g3; replace g1 := hide g1; replace g2 := hide g2; replace g3 := hide g3)
          have HR4 := hide (LeftT.chain HK3.out HN3.out (append_step (mapT_good b _) HZ3.out g1.out g2.out g3.out))
          have HLen2 : Hid ((acc ++ wasL l1 ya (ya + yl)).length ≤ (i0 + 1) * 65536) := by show _ ≤ _; have := HLen.out; have := HWL.out; rw [List.length_append]; omega
          clear g1 g2 g3 b1 b2
          go_wp2
          go_roundw
          case rel => exact ⟨i0 + 1, by omega, by go_num, by rw [HT1.out]; exact HR4.out, by rw [HT1.out]; exact HFit2.out, by rw [HT1.out]; exact HLen2.out⟩
          case measure => simp [intOf]; omega
        · obtain rfl : i0 = k := by omega
          have hfin : (xof xs).take i0 = xof xs := List.take_of_length_le (by unfold xof; rw [List.length_map, ← HL.out]; exact Nat.le_refl _)
          rw [hfin] at hS
          have HS := hide hS
          clear hS hFit hlen
          go_wp2
          go_ret2
          refine ⟨_, rfl, HS.out.first HB.out⟩

end Wi
end Go.Proofs.Ytjbgojccfkmlnaa
