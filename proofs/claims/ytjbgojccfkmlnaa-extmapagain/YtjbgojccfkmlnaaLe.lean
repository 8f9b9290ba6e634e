/- The law ExtmapPlays, walked. -/
import Derived.Test.YtjbgojccfkmlnaaYz
namespace Go.Proofs.Ytjbgojccfkmlnaa
open Go.RowKit
namespace Wi

/-- No block at all. -/
def emptyT : Th := fun _ X => ∀ k, ¬ X k
theorem emptyT_good : emptyT.Good := ⟨fun h _ _ => h, fun h k hk => absurd hk (h k)⟩
theorem Mine.emp {W w : World} {A : Th} (h : Mine W w A) : Mine W w (A.and emptyT) := by
  obtain ⟨X, h1, h2, h3⟩ := h
  exact ⟨X, ⟨X, fun _ => False, h1, fun _ => id, fun _ _ => id, fun k => by simp⟩, h2, h3⟩
theorem map_new {W w w1 : World} (hB : Below W.heap.size W w) (h : RawM w1 w.heap.size (.slice none 0 0) []) (hb : Below w.heap.size w w1) : Mine W w1 (mapT w.heap.size []) :=
  ⟨fun k => k = w.heap.size ∨ (Value.slice none 0 0).ownBlock = some k, ⟨_, h, fun k => Iff.rfl⟩, fun k hk => by
    rcases hk with rfl | hk
    · exact hB.size
    · simp [Value.ownBlock] at hk, hB.trans (hb.mono hB.size)⟩
theorem Mine.raw {W w : World} {b : Nat} {l : List Xt} {B : Th} (h : Mine W w ((mapT b l).and B)) : ∃ v, RawM w b v l := by
  obtain ⟨_, ⟨_, _, ⟨v, hv, _⟩, _⟩, _⟩ := h
  exact ⟨v, hv⟩
theorem Mine.ref {W w : World} {r : Nat} {d : Rf} {B : Th} (h : Mine W w ((refT r 300 d).and B)) : ∃ gi gs, RefM w r gi gs 300 d := by
  obtain ⟨_, ⟨_, _, ⟨gi, gs, hv, _⟩, _⟩, _⟩ := h
  exact ⟨gi, gs, hv⟩
theorem Mine.xs {W w : World} {v : Value} {l : List Xt} {B : Th} (h : Mine W w ((listT v l).and B)) : Xs w v l := by
  obtain ⟨_, ⟨_, _, h1, _⟩, _⟩ := h
  exact h1.1
theorem fewB_at {os : List OpV} (h : fewB os = true) {o : OpV} (ho : o ∈ os) : opB o = true := by
  unfold fewB at h
  rw [Bool.and_eq_true, List.all_eq_true] at h
  exact h.1 o ho

set_option maxRecDepth 100000 in
set_option maxHeartbeats 8000000 in
theorem extmapPlays_walk (a : Option Addr) (n cap : Nat) (os : List OpV) (W : World) (h : Os W a n os) (hn : n ≤ cap) : Calls Try.prog 3 #[.slice a n cap] W fun e w' => e = .returned (.bool true) ∧ Below W.heap.size W w' := by
  have HO := hide h
  have HLn := hide h.len
  have hmost := h.most
  have hc := new_any W
  clear h
  go_enter Try.func3, Try.ntmps3
  go_wp2_with fail
  refine hc.mono ?_
  rintro e w1 ⟨rfl, hR, hb1⟩
  have HM1 := hide (map_new (Below.refl _ W) hR hb1)
  have hc2 := few_any (HO.out.later hb1) hn
  clear hc hR hb1
  cases hf : fewB os with
  | false =>
    rw [hf] at hc2
    clear hf
    go_wp2_with fail
    refine hc2.mono ?_
    rintro e w2 ⟨rfl, hb2⟩
    have HB2 := hide (HM1.out.below.trans (hb2.mono HM1.out.below.size))
    have hc3 := awake_any w2
    clear hc2 hb2
    go_wp2_with fail
    refine hc3.mono ?_
    rintro e w3 ⟨rfl, hb3⟩
    have HB3 := hide (HB2.out.trans (hb3.mono HB2.out.size))
    clear hc3 hb3
    go_wp2
    go_ret
    exact ⟨rfl, HB3.out⟩
  | true =>
    rw [hf] at hc2
    have HF := hide hf
    clear hf
    go_wp2_with fail
    refine hc2.mono ?_
    rintro e w2 ⟨rfl, hb2⟩
    have HM2 := hide (Mine.emp (Mine.later (mapT_good _ _) HM1.out hb2))
    clear hc2 hb2
    have hc3 := refnew_any w2
    go_wp2_with fail
    refine hc3.mono ?_
    rintro e w3 ⟨r, X, rfl, hr, hge, hb3⟩
    have HM3 := hide (Mine.le (Th.Le.trans (Th.Le.rot _ _ _) (Th.Le.mono (Th.Le.refl _) (Th.Le.refl _))) (Mine.new ((mapT_good _ _).and emptyT_good) HM2.out hb3 ⟨X, hr, hge⟩))
    clear hc3 hr hge hb3 HM1 HM2
    go_wp2
    go_loopw [5] (fun i wr => ∃ m : Nat, m ≤ n ∧ i = .int .i64 m ∧ ∃ l d, Inv l d ∧ Mine W wr ((mapT W.heap.size l).and ((refT r 300 d).and emptyT))) (fun i _ => n - (intOf i).toNat)
    case atStart => exact ⟨0, Nat.zero_le _, rfl, [], rf0, Inv.start, HM3.out⟩
    case round =>
      clear HM3
      obtain ⟨m, hm, rfl, l, d, hI, hM⟩ := hrel
      have HM := hide hM
      have HI := hide hI
      clear hM hI
      by_cases hlt : m < n
      · obtain ⟨o, ho⟩ : ∃ o, os[m]? = some o := ⟨_, List.getElem?_eq_getElem (by have := HLn.out; omega)⟩
        obtain ⟨g, off, rfl, hg, e0, e1, e2, e3⟩ := (HO.out.later HM.out.below).at ho
        have hc := does_any emptyT_good HM.out HI.out (HO.out.ok o (List.mem_of_getElem? ho)) (fewB_at HF.out (List.mem_of_getElem? ho))
        obtain ⟨ask, la, ln, lc, q, t, xs⟩ := o
        unfold OpV.cells at hc
        simp only at e0 e1 e2 e3 hc
        clear ho HM HI
        go_wp2_with fail
        refine hc.mono ?_
        rintro e w4 ⟨rfl, l2, d2, hI2, hM2⟩
        have HM4 := hide hM2
        have HI4 := hide hI2
        obtain ⟨v, hv⟩ := hM2.raw
        obtain ⟨gi, gs, hr⟩ := (Mine.le (Th.Le.trans (Th.Le.rot _ _ _) (Th.Le.mono (Th.Le.refl _) (Th.Le.refl _))) hM2).ref
        have hc5 := sameM_any hv hr hI2
        clear hc hv hr hM2 hI2 e0 e1 e2 e3
        go_wp2_with fail
        refine hc5.mono ?_
        rintro e w5 ⟨rfl, hb5⟩
        have HM5 := hide (Mine.later ((mapT_good _ _).and ((refT_good _ _ _).and emptyT_good)) HM4.out hb5)
        clear hc5 hb5 HM4
        go_wp2
        go_roundw
        case rel => exact ⟨m + 1, by omega, by go_num, l2, d2, HI4.out, HM5.out⟩
        case measure => simp [intOf]; omega
      · obtain rfl : m = n := by omega
        have HB := hide HM.out.below
        have hc := awake_any wr
        clear HM HI
        go_wp2_with fail
        refine hc.mono ?_
        rintro e w5 ⟨rfl, hb5⟩
        have HB5 := hide (HB.out.trans (hb5.mono HB.out.size))
        clear hc hb5
        go_wp2
        go_ret
        exact ⟨rfl, HB5.out⟩

end Wi
end Go.Proofs.Ytjbgojccfkmlnaa
