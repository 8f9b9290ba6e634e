/- The law ExtmapCopies, walked. -/
import Derived.Test.YtjbgojccfkmlnaaLm
namespace Go.Proofs.Ytjbgojccfkmlnaa
open Go.RowKit
namespace Wi

/-- The document's map, copied up to one sector. -/
def cpy (d : Rf) (j : Nat) : Rf := ⟨fun i => if i < j then d.is i else false, fun i => if i < j then d.sq i else 0, fun i => if i < j then d.to i else 0⟩
theorem cpy_zero (d : Rf) : cpy d 0 = rf0 := Rf.ext (fun j => by show (if j < 0 then d.is j else false) = false; rw [if_neg (Nat.not_lt_zero j)]) (fun j => by show (if j < 0 then d.sq j else 0) = 0; rw [if_neg (Nat.not_lt_zero j)]) fun j => by show (if j < 0 then d.to j else 0) = 0; rw [if_neg (Nat.not_lt_zero j)]
theorem cpy_succ (d : Rf) (j : Nat) : ((cpy d j).setIs j (d.is j)).setSp j (d.sq j) (d.to j) = cpy d (j + 1) := by
  apply Rf.ext
  · intro i
    show (if i = j then d.is j else if i < j then d.is i else false) = if i < j + 1 then d.is i else false
    by_cases e : i = j
    · subst e; rw [if_pos rfl, if_pos (by omega)]
    · rw [if_neg e]
      by_cases h : i < j
      · rw [if_pos h, if_pos (by omega)]
      · rw [if_neg h, if_neg (by omega)]
  · intro i
    show (if i = j then d.sq j else if i < j then d.sq i else 0) = if i < j + 1 then d.sq i else 0
    by_cases e : i = j
    · subst e; rw [if_pos rfl, if_pos (by omega)]
    · rw [if_neg e]
      by_cases h : i < j
      · rw [if_pos h, if_pos (by omega)]
      · rw [if_neg h, if_neg (by omega)]
  · intro i
    show (if i = j then d.to j else if i < j then d.to i else 0) = if i < j + 1 then d.to i else 0
    by_cases e : i = j
    · subst e; rw [if_pos rfl, if_pos (by omega)]
    · rw [if_neg e]
      by_cases h : i < j
      · rw [if_pos h, if_pos (by omega)]
      · rw [if_neg h, if_neg (by omega)]
theorem encBs_congr {n : Nat} {f g : Nat → Bool} (h : ∀ i, i < n → f i = g i) : encBs n f = encBs n g := by
  unfold encBs
  exact List.map_congr_left fun i hi => by rw [h i (List.mem_range.1 hi)]
theorem encPs_congr {n : Nat} {d e : Rf} (h : ∀ i, i < n → d.sq i = e.sq i ∧ d.to i = e.to i) : encPs n d = encPs n e := by
  unfold encPs
  have : ∀ l : List Nat, (∀ i ∈ l, i < n) → l.flatMap (fun i => [Value.int .i64 (d.sq i : Nat), .int .i64 (d.to i : Nat)]) = l.flatMap fun i => [.int .i64 (e.sq i : Nat), .int .i64 (e.to i : Nat)] := by
    intro l
    induction l with
    | nil => intro _; rfl
    | cons x r ih =>
      intro hl
      rw [List.flatMap_cons, List.flatMap_cons, ih fun i hi => hl i (by simp [hi]), (h x (hl x (by simp))).1, (h x (hl x (by simp))).2]
  exact this _ fun i hi => List.mem_range.1 hi
theorem cpy_is (d : Rf) : encBs 300 (cpy d 300).is = encBs 300 d.is := encBs_congr fun _i hi => if_pos hi
theorem cpy_sp (d : Rf) : encPs 300 (cpy d 300) = encPs 300 d := encPs_congr fun _i hi => ⟨if_pos hi, if_pos hi⟩
theorem ref_full {W w : World} {r : Nat} {d : Rf} {B : Th} (h : Mine W w ((refT r 300 (cpy d 300)).and B)) : Mine W w ((refT r 300 d).and B) :=
  Mine.le (Th.Le.mono (fun _ X ⟨gi, gs, hR, hX⟩ => ⟨X, ⟨gi, gs, ⟨hR.blk, by rw [hR.is_, cpy_is], by rw [hR.sp_, cpy_sp], hR.n1, hR.n2, hR.n3⟩, hX⟩, fun _ => id⟩) (Th.Le.refl _)) h
/-- A list of so many extents, whatever they are. -/
def anyT (v : Value) (n : Nat) : Th := fun w X => ∃ l : List Xt, l.length = n ∧ listT v l w X
theorem anyT_good (v : Value) (n : Nat) : (anyT v n).Good :=
  ⟨fun ⟨l, h1, h2⟩ k hx => ⟨l, h1, (listT_good v l).keep h2 k hx⟩, fun ⟨l, _, h2⟩ k hk => (listT_good v l).lt h2 k hk⟩
theorem list_any {v : Value} {l : List Xt} {n : Nat} (h : l.length = n) : (listT v l).Le (anyT v n) := fun _ X hx => ⟨X, ⟨l, h, hx⟩, fun _ => id⟩
def sevens : Xt := ⟨7, 7, 7, 7⟩
theorem any_set {W w : World} {g off n cap j : Nat} {B : Th} (hB : B.Good) (h : Mine W w ((anyT (.slice (some ⟨g, off, none⟩) n cap) n).and B)) (hj : j < n) :
    (w.cell? ⟨g, off + j * 4, none⟩).isSome = true ∧ (w.cell? ⟨g, off + j * 4 + 1, none⟩).isSome = true ∧ (w.cell? ⟨g, off + j * 4 + 2, none⟩).isSome = true ∧ (w.cell? ⟨g, off + j * 4 + 3, none⟩).isSome = true ∧ (∀ i, w.frozen? ⟨g, i, none⟩ = false) ∧
    Mine W ((((w.setCell ⟨g, off + j * 4, none⟩ (.int .i64 7)).setCell ⟨g, off + j * 4 + 1, none⟩ (.int .i64 7)).setCell ⟨g, off + j * 4 + 2, none⟩ (.int .i64 7)).setCell ⟨g, off + j * 4 + 3, none⟩ (.int .i64 7)) ((anyT (.slice (some ⟨g, off, none⟩) n cap) n).and B) := by
  obtain ⟨X, ⟨l, hl, hx, hX⟩, hge, hgo⟩ := Mine.go hB h
  subst hl
  have hse : (((w.setCell ⟨g, off + j * 4, none⟩ (.int .i64 7)).setCell ⟨g, off + j * 4 + 1, none⟩ (.int .i64 7)).setCell ⟨g, off + j * 4 + 2, none⟩ (.int .i64 7)).setCell ⟨g, off + j * 4 + 3, none⟩ (.int .i64 7) = w.setCells g (off + j * 4) (encX sevens) := rfl
  rw [hse]
  obtain ⟨y, hy⟩ : ∃ y, l[j]? = some y := ⟨_, List.getElem?_eq_getElem hj⟩
  have hc := Xs.cell hx hy
  refine ⟨by rw [hc.c0]; rfl, by rw [hc.c1]; rfl, by rw [hc.c2]; rfl, by rw [hc.c3]; rfl, hc.f, hgo ⟨X, ⟨l.set j sevens, by simp, ?_, hX⟩, ?_, fun _ e => .inl e⟩⟩
  · have := Xs.set hx hj sevens
    unfold Xs at this ⊢
    rw [List.length_set] at this ⊢
    exact this
  · exact Keep.setCells g ((hX g).2 rfl) _ _ _
theorem any_form {W w : World} {v : Value} {n : Nat} {B : Th} (h : Mine W w ((anyT v n).and B)) (hn : 0 < n) : ∃ g off c, v = .slice (some ⟨g, off, none⟩) n c := by
  obtain ⟨_, ⟨_, _, ⟨l, hl, h1⟩, _⟩, _⟩ := h
  subst hl
  obtain ⟨g, off, c, e, _⟩ := Rw.pos h1.1 hn
  exact ⟨g, off, c, e⟩

set_option maxRecDepth 100000 in
set_option maxHeartbeats 16000000 in
theorem extmapCopies_walk (a : Option Addr) (n cap : Nat) (os : List OpV) (a2 : Option Addr) (n2 cap2 : Nat) (ks : List OpV) (W : World) (h : Os W a n os) (hn : n ≤ cap) (h2 : Os W a2 n2 ks) (hn2 : n2 ≤ cap2) : Calls Try.prog 4 #[.slice a n cap, .slice a2 n2 cap2] W fun e w' => e = .returned (.bool true) ∧ Below W.heap.size W w' := by
  have HO := hide h
  have HLn := hide h.len
  have hmost := h.most
  have HK := hide h2
  have HLk := hide h2.len
  have hmost2 := h2.most
  clear h h2
  have hM0 : Mine W W emptyT := ⟨fun _ => False, fun _ => id, fun k hk => hk.elim, Below.refl _ _⟩
  have hc := new_mine emptyT_good hM0
  clear hM0
  go_enter Try.func4, Try.ntmps4
  go_wp2_with fail
  refine hc.mono ?_
  rintro e w1 ⟨b, rfl, hM⟩
  have HM1 := hide hM
  clear hc hM
  have hc := few_mine ((mapT_good _ _).and emptyT_good) HM1.out HO.out hn
  cases hf : fewB os with
  | false =>
    rw [hf] at hc
    clear hf
    go_wp2_with fail
    refine hc.mono ?_
    rintro e w2 ⟨rfl, hM⟩
    have HM2 := hide hM
    clear hc hM
    have hc := awake_mine HM2.out
    go_wp2_with fail
    refine hc.mono ?_
    rintro e w9 ⟨rfl, hb9⟩
    have HB9 := hide hb9
    clear hc hb9
    go_wp2
    go_ret
    exact ⟨rfl, HB9.out⟩
  | true =>
    rw [hf] at hc
    have HFEW := hide hf
    clear hf
    go_wp2_with fail
    refine hc.mono ?_
    rintro e w2 ⟨rfl, hM⟩
    have HM2 := hide hM
    clear hc hM
    have hc := few_mine ((mapT_good _ _).and emptyT_good) HM2.out HK.out hn2
    cases hf2 : fewB ks with
    | false =>
      rw [hf2] at hc
      clear hf2
      go_wp2_with fail
      refine hc.mono ?_
      rintro e w3 ⟨rfl, hM⟩
      have HM3 := hide hM
      clear hc hM
      have hc := awake_mine HM3.out
      go_wp2_with fail
      refine hc.mono ?_
      rintro e w9 ⟨rfl, hb9⟩
      have HB9 := hide hb9
      clear hc hb9
      go_wp2
      go_ret
      exact ⟨rfl, HB9.out⟩
    | true =>
      rw [hf2] at hc
      have HFEK := hide hf2
      clear hf2
      go_wp2_with fail
      refine hc.mono ?_
      rintro e w3 ⟨rfl, hM⟩
      have HM3 := hide hM
      clear hc hM
      have hc := refnew_mine ((mapT_good _ _).and emptyT_good) HM3.out
      go_wp2_with fail
      refine hc.mono ?_
      rintro e w4 ⟨r, rfl, hM⟩
      have HM4 := hide (Mine.le (Th.Le.trans (Th.Le.rot _ _ _) (Th.Le.mono (Th.Le.refl _) (Th.Le.refl _))) hM)
      clear hc hM HM1 HM2 HM3
      go_wp2
      go_loopw [7] (fun i wr => ∃ m : Nat, m ≤ n ∧ i = .int .i64 m ∧ ∃ l d, Inv l d ∧ Mine W wr ((mapT b l).and ((refT r 300 d).and emptyT))) (fun i _ => n - (intOf i).toNat)
      case atStart => exact ⟨0, Nat.zero_le _, rfl, [], rf0, Inv.start, HM4.out⟩
      case round =>
        clear HM4
        obtain ⟨m, hm, rfl, l, d, hI, hM⟩ := hrel
        have HM := hide hM
        have HI := hide hI
        clear hM hI
        by_cases hlt : m < n
        · obtain ⟨o, ho⟩ : ∃ o, os[m]? = some o := ⟨_, List.getElem?_eq_getElem (by have := HLn.out; omega)⟩
          obtain ⟨g, off, rfl, hg, e0, e1, e2, e3⟩ := (HO.out.later HM.out.below).at ho
          have hc := does_any emptyT_good HM.out HI.out (HO.out.ok o (List.mem_of_getElem? ho)) (fewB_at HFEW.out (List.mem_of_getElem? ho))
          obtain ⟨ask, la, ln, lc, q, t, xs⟩ := o
          unfold OpV.cells at hc
          simp only at e0 e1 e2 e3 hc
          clear ho HM HI
          go_wp2_with fail
          refine hc.mono ?_
          rintro e w6 ⟨rfl, l2, d2, hI2, hM2⟩
          have HM6 := hide hM2
          have HI6 := hide hI2
          clear hc hM2 hI2 e0 e1 e2 e3
          go_wp2
          go_roundw
          case rel => exact ⟨m + 1, by omega, by go_num, l2, d2, HI6.out, HM6.out⟩
          case measure => simp [intOf]; omega
        · obtain rfl : m = n := by omega
          have HFT := hide HI.out.fit
          have HLL : Hid (l.length ≤ 65536) := HI.out.fit.len
          have hc := copy_mine ((refT_good _ _ _).and emptyT_good) HM.out HFT.out
          clear hlt hm
          go_wp2_with fail
          refine hc.mono ?_
          rintro e w5 ⟨c, rfl, hM⟩
          have HM5 := hide hM
          clear hc hM HM
          -- c m r e
          have hc := all_mine ((mapT_good _ _).and ((refT_good _ _ _).and emptyT_good)) (Mine.le (Th.Le.trans (Th.Le.rot _ _ _) (Th.Le.mono (Th.Le.refl _) (Th.Le.refl _))) HM5.out) HFT.out
          go_wp2_with fail
          refine hc.mono ?_
          rintro e w6 ⟨va, vc, rfl, hvc, hM⟩
          have HM6 := hide (Mine.le (Th.Le.mono (list_any rfl) (Th.Le.refl _)) hM)
          clear hc hM HM5
          -- v m c r e
          have hll := HLL.out
          obtain ⟨N, hN⟩ : ∃ N, l.length = N := ⟨_, rfl⟩
          rw [hN] at hll hvc HM6
          rw [hN]
          clear hN
          go_wp2
          go_loopw [10] (fun i wr => ∃ j : Nat, j ≤ N ∧ i = .int .i64 j ∧ Mine W wr ((anyT (.slice va N vc) N).and ((mapT b l).and ((mapT c l).and ((refT r 300 d).and emptyT))))) (fun i _ => N - (intOf i).toNat)
          case atStart => exact ⟨0, Nat.zero_le _, rfl, HM6.out⟩
          case round =>
            clear HM6
            obtain ⟨j, hj, rfl, hM⟩ := hrel
            have HM := hide hM
            clear hM
            by_cases hlt : j < N
            · obtain ⟨g, off, c0, e0⟩ := any_form HM.out (by omega)
              obtain rfl : va = some ⟨g, off, none⟩ := by injection e0
              clear e0
              have hc := ext_any 7 7 7 7 wr
              go_wp2_with fail
              refine hc.mono ?_
              rintro e w7 ⟨rfl, hb7⟩
              have HM7 := hide (Mine.later ((anyT_good _ _).and ((mapT_good _ _).and ((mapT_good _ _).and ((refT_good _ _ _).and emptyT_good)))) HM.out hb7)
              clear hc hb7 HM
              obtain ⟨s0, s1, s2, s3, sf, hMs⟩ := any_set ((mapT_good _ _).and ((mapT_good _ _).and ((refT_good _ _ _).and emptyT_good))) HM7.out hlt
              have HMS := hide hMs
              obtain ⟨z0, k0⟩ := Option.isSome_iff_exists.1 s0
              obtain ⟨z1, k1⟩ := Option.isSome_iff_exists.1 s1
              obtain ⟨z2, k2⟩ := Option.isSome_iff_exists.1 s2
              obtain ⟨z3, k3⟩ := Option.isSome_iff_exists.1 s3
              have f0 := sf (off + j * 4)
              have f1 := sf (off + j * 4 + 1)
              have f2 := sf (off + j * 4 + 2)
              have f3 := sf (off + j * 4 + 3)
              clear s0 s1 s2 s3 sf hMs HM7
              go_wp2
              go_roundw
              case rel => exact ⟨j + 1, by omega, by go_num, HMS.out⟩
              case measure => simp [intOf]; omega
            · obtain rfl : j = N := by omega
              have HM7 := hide (Mine.le (Th.Le.trans (Th.Le.rot _ _ _) (Th.Le.mono (Th.Le.refl _) (Th.Le.trans (Th.Le.rot _ _ _) (Th.Le.mono (Th.Le.refl _) (Th.Le.trans (Th.Le.rot _ _ _) (Th.Le.mono (Th.Le.refl _) (Th.Le.trans (Th.Le.swap _ _) (Th.Le.fst _ _)))))))) HM.out)
              clear HM hlt
              have hc := find_mine ((mapT_good _ _).and ((refT_good _ _ _).and emptyT_good)) HM7.out HFT.out 0 300 (by omega) (by omega)
              go_wp2_with fail
              refine hc.mono ?_
              rintro e w8 ⟨ua, uc, rfl, huc, hM⟩
              have HM8 := hide (Mine.le (Th.Le.mono (list_any rfl) (Th.Le.refl _)) hM)
              clear hc hM HM7
              have hlu : (wasL l 0 (0 + 300)).length ≤ 65536 := Nat.le_trans (was_len _ _ _) HLL.out
              obtain ⟨M, hM2⟩ : ∃ M, (wasL l 0 (0 + 300)).length = M := ⟨_, rfl⟩
              rw [hM2] at hlu huc HM8
              rw [hM2]
              clear hM2
              go_wp2
              go_loopw [13] (fun i wr => ∃ k : Nat, k ≤ M ∧ i = .int .i64 k ∧ Mine W wr ((anyT (.slice ua M uc) M).and ((mapT b l).and ((mapT c l).and ((refT r 300 d).and emptyT))))) (fun i _ => M - (intOf i).toNat)
              case atStart => exact ⟨0, Nat.zero_le _, rfl, HM8.out⟩
              case round =>
                clear HM8
                obtain ⟨k, hk, rfl, hM⟩ := hrel
                have HM := hide hM
                clear hM
                by_cases hlt : k < M
                · obtain ⟨g, off, c0, e0⟩ := any_form HM.out (by omega)
                  obtain rfl : ua = some ⟨g, off, none⟩ := by injection e0
                  clear e0
                  have hc := ext_any 7 7 7 7 wr
                  go_wp2_with fail
                  refine hc.mono ?_
                  rintro e w9 ⟨rfl, hb9⟩
                  have HM9 := hide (Mine.later ((anyT_good _ _).and ((mapT_good _ _).and ((mapT_good _ _).and ((refT_good _ _ _).and emptyT_good)))) HM.out hb9)
                  clear hc hb9 HM
                  obtain ⟨s0, s1, s2, s3, sf, hMs⟩ := any_set ((mapT_good _ _).and ((mapT_good _ _).and ((refT_good _ _ _).and emptyT_good))) HM9.out hlt
                  have HMS := hide hMs
                  obtain ⟨z0, k0⟩ := Option.isSome_iff_exists.1 s0
                  obtain ⟨z1, k1⟩ := Option.isSome_iff_exists.1 s1
                  obtain ⟨z2, k2⟩ := Option.isSome_iff_exists.1 s2
                  obtain ⟨z3, k3⟩ := Option.isSome_iff_exists.1 s3
                  have f0 := sf (off + k * 4)
                  have f1 := sf (off + k * 4 + 1)
                  have f2 := sf (off + k * 4 + 2)
                  have f3 := sf (off + k * 4 + 3)
                  clear s0 s1 s2 s3 sf hMs HM9
                  go_wp2
                  go_roundw
                  case rel => exact ⟨k + 1, by omega, by go_num, HMS.out⟩
                  case measure => simp [intOf]; omega
                · obtain rfl : k = M := by omega
                  have HM9 := hide (Mine.le (Th.Le.trans (Th.Le.trans (Th.Le.mono (Th.Le.refl _) (Th.Le.rot _ _ _)) (Th.Le.rot _ _ _)) (Th.Le.mono (Th.Le.refl _) (Th.Le.trans (Th.Le.rot _ _ _) (Th.Le.mono (Th.Le.refl _) (Th.Le.trans (Th.Le.rot _ _ _) (Th.Le.mono (Th.Le.refl _) (Th.Le.trans (Th.Le.swap _ _) (Th.Le.fst _ _)))))))) HM.out)
                  clear HM hlt
                  -- c m r e
                  have hc := (show Calls Try.prog 15 #[.pointer (some ⟨c, 0, none⟩), .pointer (some ⟨r, 0, none⟩)] wr fun e w' => e = .returned (.bool true) ∧ Mine W w' ((mapT c l).and ((mapT b l).and ((refT r 300 d).and emptyT))) by
                    obtain ⟨v, hv⟩ := HM9.out.raw
                    obtain ⟨gi, gs, hr⟩ := (Mine.le (Th.Le.trans (Th.Le.trans (Th.Le.mono (Th.Le.refl _) (Th.Le.rot _ _ _)) (Th.Le.rot _ _ _)) (Th.Le.mono (Th.Le.refl _) (Th.Le.refl _))) HM9.out).ref
                    exact (sameM_any hv hr HI.out).mono fun e w' ⟨he, hb⟩ => ⟨he, Mine.later ((mapT_good _ _).and ((mapT_good _ _).and ((refT_good _ _ _).and emptyT_good))) HM9.out hb⟩)
                  go_wp2_with fail
                  refine hc.mono ?_
                  rintro e w10 ⟨rfl, hM⟩
                  have HM10 := hide hM
                  clear hc hM HM9
                  have hc := (show Calls Try.prog 15 #[.pointer (some ⟨b, 0, none⟩), .pointer (some ⟨r, 0, none⟩)] w10 fun e w' => e = .returned (.bool true) ∧ Mine W w' ((mapT c l).and ((mapT b l).and ((refT r 300 d).and emptyT))) by
                    obtain ⟨v, hv⟩ := (Mine.le (Th.Le.trans (Th.Le.rot _ _ _) (Th.Le.mono (Th.Le.refl _) (Th.Le.refl _))) HM10.out).raw
                    obtain ⟨gi, gs, hr⟩ := (Mine.le (Th.Le.trans (Th.Le.trans (Th.Le.mono (Th.Le.refl _) (Th.Le.rot _ _ _)) (Th.Le.rot _ _ _)) (Th.Le.mono (Th.Le.refl _) (Th.Le.refl _))) HM10.out).ref
                    exact (sameM_any hv hr HI.out).mono fun e w' ⟨he, hb⟩ => ⟨he, Mine.later ((mapT_good _ _).and ((mapT_good _ _).and ((refT_good _ _ _).and emptyT_good))) HM10.out hb⟩)
                  go_wp2_with fail
                  refine hc.mono ?_
                  rintro e w11 ⟨rfl, hM⟩
                  have HM11 := hide hM
                  clear hc hM HM10
                  have hc := refnew_mine ((mapT_good _ _).and ((mapT_good _ _).and ((refT_good _ _ _).and emptyT_good))) HM11.out
                  go_wp2_with fail
                  refine hc.mono ?_
                  rintro e w12 ⟨s, rfl, hM⟩
                  rw [← cpy_zero d] at hM
                  have HM12 := hide hM
                  clear hc hM HM11
                  -- s c m r e
                  go_wp2
                  go_loopw [15] (fun i wr => ∃ j : Nat, j ≤ 300 ∧ i = .int .i64 j ∧ Mine W wr ((refT s 300 (cpy d j)).and ((mapT c l).and ((mapT b l).and ((refT r 300 d).and emptyT))))) (fun i _ => 300 - (intOf i).toNat)
                  case atStart => exact ⟨0, Nat.zero_le _, rfl, HM12.out⟩
                  case round =>
                    clear HM12
                    obtain ⟨j, hj, rfl, hM⟩ := hrel
                    have HM := hide hM
                    clear hM
                    by_cases hlt : j < 300
                    · obtain ⟨X, ⟨ti, ts, hS, hX⟩, hge, ⟨Y, hY, hdis⟩, hgo⟩ := Mine.go2 (refT_good r 300 d) ((mapT_good _ _).and ((mapT_good _ _).and emptyT_good)) (Mine.le (Th.Le.mono (Th.Le.refl _) (Th.Le.trans (Th.Le.trans (Th.Le.mono (Th.Le.refl _) (Th.Le.rot _ _ _)) (Th.Le.rot _ _ _)) (Th.Le.mono (Th.Le.refl _) (Th.Le.refl _)))) HM.out)
                      obtain ⟨gi, gs, hR, hYY⟩ := hY
                      have hd1 : ¬ ti = gs := fun e => hdis ti ((hX ti).2 (by simp)) ((hYY ti).2 (by simp [e]))
                      have hd2 : ¬ ti = gi := fun e => hdis ti ((hX ti).2 (by simp)) ((hYY ti).2 (by simp [e]))
                      have hd3 : ¬ ti = r := fun e => hdis ti ((hX ti).2 (by simp)) ((hYY ti).2 (by simp [e]))
                      have d0 := hS.c0
                      have d1 := hR.c0
                      have d2 := hR.b hlt
                      have d3 := hS.b hlt
                      have hfr := frozen_of_row wr ti j _ _ hS.is_
                      have HL1 : Hid (RefL wr (wr.setCell ⟨ti, j, none⟩ (.bool (d.is j))).drew s ti ts 300 ((cpy d j).setIs j (d.is j))) := RefL.later (RefL.setIs ⟨hS, Keep.refl _ _⟩ j (d.is j)) (Below.refl _ _).drew
                      have HR1 : Hid (RefM (wr.setCell ⟨ti, j, none⟩ (.bool (d.is j))).drew r gi gs 300 d) := (hR.keep (Keep.setCell (X := fun k => k = ti) wr ⟨ti, j, none⟩ (.bool (d.is j)) rfl) (Ne.symm hd3) (Ne.symm hd2) (Ne.symm hd1)).later (Below.refl _ _).drew
                      have HGO : Hid (∀ w' d', RefL wr w' s ti ts 300 d' → Mine W w' ((refT s 300 d').and ((refT r 300 d).and ((mapT c l).and ((mapT b l).and emptyT))))) := fun w' d' h => hgo (h.left hX)
                      clear hge hdis hgo hX hYY hS hR HM
                      go_wp2
                      go_region
                      rename_i KK hKK
                      refine hKK _ _ ?_
                      obtain ⟨W5, hW5⟩ : ∃ W5, W5 = (wr.setCell ⟨ti, j, none⟩ (.bool (d.is j))).drew := ⟨_, rfl⟩
                      rw [← hW5]
                      rw [← hW5] at HL1 HR1
                      clear hKK d0 d1 d2 d3 hfr hW5
                      have d0 := HL1.out.ref.c1
                      have d1 := HR1.out.c1
                      have d2 := HR1.out.p0 hlt
                      have d3 := HR1.out.p1 hlt
                      have d4 := HL1.out.ref.p0 hlt
                      have d5 := HL1.out.ref.p1 hlt
                      have hfr1 := frozen_of_row W5 ts (j * 2) _ _ HL1.out.ref.sp_
                      have hfr2 := frozen_of_row W5 ts (j * 2 + 1) _ _ HL1.out.ref.sp_
                      have hl2 := RefL.later (RefL.setSp HL1.out (i := j) (d.sq j) (d.to j) hlt) (Below.refl _ _).drew
                      rw [cpy_succ] at hl2
                      have HM5 := hide (Mine.le (Th.Le.mono (Th.Le.refl _) (Th.Le.trans (Th.Le.rot _ _ _) (Th.Le.mono (Th.Le.refl _) (Th.Le.trans (Th.Le.rot _ _ _) (Th.Le.mono (Th.Le.refl _) (Th.Le.refl _)))))) (HGO.out _ _ hl2))
                      clear hl2 HGO HL1 HR1
                      go_wp2
                      go_region
                      rename_i KK hKK
                      refine hKK _ _ ?_
                      clear hKK d0 d1 d2 d3 d4 d5 hfr1 hfr2
                      go_wp2
                      go_roundw
                      case rel => exact ⟨j + 1, by omega, by go_num, HM5.out⟩
                      case measure => simp [intOf]; omega
                    · have HM13 := hide (Mine.le (Th.Le.trans (Th.Le.rot _ _ _) (Th.Le.mono (Th.Le.refl _) (Th.Le.refl _))) (ref_full (r := s) (d := d) (by
                        have e : j = 300 := by omega
                        have hh := HM.out
                        rw [e] at hh
                        exact hh)))
                      clear HM
                      -- c s m r e
                      go_wp2
                      go_loopw [16] (fun i wr => ∃ m2 : Nat, m2 ≤ n2 ∧ i = .int .i64 m2 ∧ ∃ l2 d2, Inv l2 d2 ∧ Mine W wr ((mapT c l2).and ((refT s 300 d2).and ((mapT b l).and ((refT r 300 d).and emptyT))))) (fun i _ => n2 - (intOf i).toNat)
                      case atStart => exact ⟨0, Nat.zero_le _, rfl, l, d, HI.out, HM13.out⟩
                      case round =>
                        clear HM13
                        obtain ⟨m2, hm2, rfl, l2, d2, hI2, hM⟩ := hrel
                        have HM := hide hM
                        have HI2 := hide hI2
                        clear hM hI2
                        by_cases hlt : m2 < n2
                        · obtain ⟨o, ho⟩ : ∃ o, ks[m2]? = some o := ⟨_, List.getElem?_eq_getElem (by have := HLk.out; omega)⟩
                          obtain ⟨g, off, rfl, hg, e0, e1, e2, e3⟩ := (HK.out.later HM.out.below).at ho
                          have hc := does_any ((mapT_good _ _).and ((refT_good _ _ _).and emptyT_good)) HM.out HI2.out (HK.out.ok o (List.mem_of_getElem? ho)) (fewB_at HFEK.out (List.mem_of_getElem? ho))
                          obtain ⟨ask, la, ln, lc, q, t, xs⟩ := o
                          unfold OpV.cells at hc
                          simp only at e0 e1 e2 e3 hc
                          clear ho HM HI2
                          go_wp2_with fail
                          refine hc.mono ?_
                          rintro e w14 ⟨rfl, l3, d3, hI3, hM3⟩
                          have HM14 := hide hM3
                          have HI14 := hide hI3
                          clear hc hM3 hI3 e0 e1 e2 e3
                          go_wp2
                          go_roundw
                          case rel => exact ⟨m2 + 1, by omega, by go_num, l3, d3, HI14.out, HM14.out⟩
                          case measure => simp [intOf]; omega
                        · obtain rfl : m2 = n2 := by omega
                          have hc := (show Calls Try.prog 15 #[.pointer (some ⟨c, 0, none⟩), .pointer (some ⟨s, 0, none⟩)] wr fun e w' => e = .returned (.bool true) ∧ Mine W w' ((mapT c l2).and ((refT s 300 d2).and ((mapT b l).and ((refT r 300 d).and emptyT)))) by
                            obtain ⟨v, hv⟩ := HM.out.raw
                            obtain ⟨gi, gs, hr⟩ := (Mine.le (Th.Le.trans (Th.Le.rot _ _ _) (Th.Le.mono (Th.Le.refl _) (Th.Le.refl _))) HM.out).ref
                            exact (sameM_any hv hr HI2.out).mono fun e w' ⟨he, hb⟩ => ⟨he, Mine.later ((mapT_good _ _).and ((refT_good _ _ _).and ((mapT_good _ _).and ((refT_good _ _ _).and emptyT_good)))) HM.out hb⟩)
                          go_wp2_with fail
                          refine hc.mono ?_
                          rintro e w15 ⟨rfl, hM⟩
                          have HM15 := hide hM
                          clear hc hM HM
                          have hc := (show Calls Try.prog 15 #[.pointer (some ⟨b, 0, none⟩), .pointer (some ⟨r, 0, none⟩)] w15 fun e w' => e = .returned (.bool true) ∧ Mine W w' ((mapT c l2).and ((refT s 300 d2).and ((mapT b l).and ((refT r 300 d).and emptyT)))) by
                            obtain ⟨v, hv⟩ := (Mine.le (Th.Le.trans (Th.Le.trans (Th.Le.mono (Th.Le.refl _) (Th.Le.rot _ _ _)) (Th.Le.rot _ _ _)) (Th.Le.mono (Th.Le.refl _) (Th.Le.refl _))) HM15.out).raw
                            obtain ⟨gi, gs, hr⟩ := (Mine.le (Th.Le.trans (Th.Le.trans (Th.Le.mono (Th.Le.refl _) (Th.Le.trans (Th.Le.mono (Th.Le.refl _) (Th.Le.rot _ _ _)) (Th.Le.rot _ _ _))) (Th.Le.rot _ _ _)) (Th.Le.mono (Th.Le.refl _) (Th.Le.refl _))) HM15.out).ref
                            exact (sameM_any hv hr HI.out).mono fun e w' ⟨he, hb⟩ => ⟨he, Mine.later ((mapT_good _ _).and ((refT_good _ _ _).and ((mapT_good _ _).and ((refT_good _ _ _).and emptyT_good)))) HM15.out hb⟩)
                          go_wp2_with fail
                          refine hc.mono ?_
                          rintro e w16 ⟨rfl, hM⟩
                          have HM16 := hide hM
                          clear hc hM HM15
                          have hc := awake_mine HM16.out
                          go_wp2_with fail
                          refine hc.mono ?_
                          rintro e w9 ⟨rfl, hb9⟩
                          have HB9 := hide hb9
                          clear hc hb9
                          go_wp2
                          go_ret
                          exact ⟨rfl, HB9.out⟩

end Wi
end Go.Proofs.Ytjbgojccfkmlnaa
