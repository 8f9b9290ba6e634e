/- The sectors of any positions. -/
import Derived.Test.YtbgadcofjhgmiaaWb
namespace Go.Proofs.Ytbgadcofjhgmiaa
open Go.RowKit
namespace Sp

set_option maxRecDepth 100000 in
set_option maxHeartbeats 4000000 in
theorem at_ok (s h t p n : Nat) (hm : mayR s h t = true) (hp : p < 1099511627776) (hn : n ≤ s) (w : World) :
    Calls Try.prog 10 #[.agg #[.int .i64 (s : Nat), .int .i64 (h : Nat), .int .i64 (t : Nat)], .int .i64 (p : Nat), .int .i64 (n : Nat)] w fun e w' => ∃ v, e = .returned (.tuple #[v, .int .i64 0]) ∧ Own w' v (secL s p n) ∧ From w.heap.size v ∧ Below w.heap.size w w' := by
  obtain ⟨m1, m2, m3, m4, m5, m6⟩ := mayR_get hm
  have hc := check_any s h t ⟨by omega, by omega⟩ ⟨by omega, by omega⟩ (w.alloc (.cells #[.int .i64 (s : Nat), .int .i64 (h : Nat), .int .i64 (t : Nat)] 23))
  rw [hm, show erB true = 0 from rfl] at hc
  have HX := hide (Rc.new w s h t)
  have HB := hide (below_alloc w (.cells #[.int .i64 (s : Nat), .int .i64 (h : Nat), .int .i64 (t : Nat)] 23))
  have HS : Hid (∀ w' : World, _) := fun w' => sectors_any s p n h t (by omega) (by omega) (by omega) hn w'
  obtain ⟨P, hP⟩ : ∃ P : Int, P = (p : Int) := ⟨_, rfl⟩
  have hp1 : 0 ≤ P := by omega
  have hp2 : P < 1099511627776 := by omega
  rw [← hP] at HS ⊢
  clear hm hp hP m1 m2 m3 m4 m5 m6
  obtain ⟨c0, c1, c2, _⟩ := HX.out
  go_enter Try.func10, Try.ntmps10
  go_wp2_with fail
  refine hc.mono ?_
  rintro e w1 ⟨rfl, hb1⟩
  have HB1 := hide (HB.out.trans (hb1.mono HB.out.size))
  clear c0 c1 c2
  obtain ⟨c0, c1, c2, _⟩ := HX.out.later hb1
  have hc2 := HS.out w1
  clear hc hb1
  go_wp2_with fail
  refine hc2.mono ?_
  rintro e w2 ⟨v, rfl, ho, hf, hb2⟩
  have HO := hide ho
  have HF : Hid (From w.heap.size v) := fun k hk => Nat.le_trans HB1.out.size (hf k hk)
  have HB2 := hide (HB1.out.trans (hb2.mono HB1.out.size))
  clear hc2 ho hf hb2 c0 c1 c2
  go_wp2
  go_ret2
  exact ⟨_, rfl, HO.out, HF.out, HB2.out⟩
set_option maxRecDepth 100000 in
set_option maxHeartbeats 4000000 in
theorem at_no (s h t p n : Int) (hh : I64 h) (ht : I64 t) (hno : mayR s h t = false ∨ p < 0 ∨ 1099511627776 ≤ p ∨ n < 0 ∨ s < n) (w : World) :
    Calls Try.prog 10 #[.agg #[.int .i64 s, .int .i64 h, .int .i64 t], .int .i64 p, .int .i64 n] w fun e w' => e = .returned (.tuple #[.slice none 0 0, .int .i64 1]) ∧ Below w.heap.size w w' := by
  have hc := check_any s h t hh ht (w.alloc (.cells #[.int .i64 s, .int .i64 h, .int .i64 t] 23))
  have HX := hide (Rc.new w s h t)
  have HB := hide (below_alloc w (.cells #[.int .i64 s, .int .i64 h, .int .i64 t] 23))
  obtain ⟨c0, c1, c2, _⟩ := HX.out
  cases hm : mayR s h t with
  | false =>
    rw [hm, show erB false = 1 from rfl] at hc
    clear hm hno
    go_enter Try.func10, Try.ntmps10
    go_wp2_with fail
    refine hc.mono ?_
    rintro e w1 ⟨rfl, hb1⟩
    have HB1 := hide (HB.out.trans (hb1.mono HB.out.size))
    clear c0 c1 c2 hc hb1
    go_wp2
    go_ret2
    exact ⟨rfl, HB1.out⟩
  | true =>
    rw [hm, show erB true = 0 from rfl] at hc
    have hno2 : p < 0 ∨ 1099511627776 ≤ p ∨ n < 0 ∨ s < n := by
      rcases hno with e | e
      · rw [hm] at e; cases e
      · exact e
    clear hm hno
    by_cases g1 : p < 0
    · go_enter Try.func10, Try.ntmps10
      go_wp2_with fail
      refine hc.mono ?_
      rintro e w1 ⟨rfl, hb1⟩
      have HB1 := hide (HB.out.trans (hb1.mono HB.out.size))
      clear c0 c1 c2
      obtain ⟨c0, c1, c2, _⟩ := HX.out.later hb1
      clear hc hb1 hno2
      go_wp2
      go_ret2
      exact ⟨rfl, HB1.out⟩
    · by_cases g2 : 1099511627776 ≤ p
      · go_enter Try.func10, Try.ntmps10
        go_wp2_with fail
        refine hc.mono ?_
        rintro e w1 ⟨rfl, hb1⟩
        have HB1 := hide (HB.out.trans (hb1.mono HB.out.size))
        clear c0 c1 c2
        obtain ⟨c0, c1, c2, _⟩ := HX.out.later hb1
        clear hc hb1 hno2
        go_wp2
        go_ret2
        exact ⟨rfl, HB1.out⟩
      · by_cases g3 : n < 0
        · go_enter Try.func10, Try.ntmps10
          go_wp2_with fail
          refine hc.mono ?_
          rintro e w1 ⟨rfl, hb1⟩
          have HB1 := hide (HB.out.trans (hb1.mono HB.out.size))
          clear c0 c1 c2
          obtain ⟨c0, c1, c2, _⟩ := HX.out.later hb1
          clear hc hb1 hno2
          go_wp2
          go_ret2
          exact ⟨rfl, HB1.out⟩
        · by_cases g4 : s < n
          · go_enter Try.func10, Try.ntmps10
            go_wp2_with fail
            refine hc.mono ?_
            rintro e w1 ⟨rfl, hb1⟩
            have HB1 := hide (HB.out.trans (hb1.mono HB.out.size))
            clear c0 c1 c2
            obtain ⟨c0, c1, c2, _⟩ := HX.out.later hb1
            clear hc hb1 hno2
            go_wp2
            go_ret2
            exact ⟨rfl, HB1.out⟩
          · exact absurd hno2 (by omega)

end Sp
end Go.Proofs.Ytbgadcofjhgmiaa
