/- Which positions are held; how many sectors spans have. -/
import Derived.Test.YtbgadcofjhgmiaaWe
namespace Go.Proofs.Ytbgadcofjhgmiaa
open Go.RowKit
namespace Sp

theorem run_eql23 (a b c a' b' c' : Int) (w : World) : (binOp .eql 23 (.agg #[.int .i64 a, .int .i64 b, .int .i64 c]) (.agg #[.int .i64 a', .int .i64 b', .int .i64 c'])).run Try.prog w = .ok (.bool (decide (a = a' ∧ b = b' ∧ c = c'))) w := by
  simp [go_sem]
  by_cases h1 : a = a' <;> by_cases h2 : b = b' <;> by_cases h3 : c = c' <;> simp [h1, h2, h3]
/-- Are the n positions from p on all taken? -/
def holdsB (s h t p n : Int) : Bool := mayR s h t && decide (0 ≤ n ∧ t ≤ p ∧ p ≤ h ∧ n ≤ h - p)
theorem holds_eq {s h t p n A : Int} (hm : mayR s h t = true) (hp : I64 p) (hn : I64 n) (hA : A = IntKind.i64.wrap (p + n)) : holdsB s h t p n = (mayR s A p && (decide (A ≤ h) && decide (t ≤ p))) := by
  obtain ⟨m1, m2, m3, m4, m5, m6⟩ := mayR_get hm
  obtain ⟨p1, p2⟩ := hp
  obtain ⟨n1, n2⟩ := hn
  rw [IntKind.wrap_i64] at hA
  unfold holdsB
  rw [hm, Bool.true_and, Bool.eq_iff_iff]
  unfold mayR
  rw [Bool.and_eq_true, Bool.and_eq_true, decide_eq_true_eq, decide_eq_true_eq, decide_eq_true_eq, decide_eq_true_eq]
  constructor
  · rintro ⟨e1, e2, e3, e4⟩
    omega
  · rintro ⟨⟨e1, e2, e3, e4, e5, e6⟩, e7, e8⟩
    omega
set_option maxRecDepth 100000 in
set_option maxHeartbeats 8000000 in
theorem holds_any (s h t p n : Int) (hh : I64 h) (ht : I64 t) (hp : I64 p) (hn : I64 n) (w : World) :
    Calls Try.prog 14 #[.agg #[.int .i64 s, .int .i64 h, .int .i64 t], .int .i64 p, .int .i64 n] w fun e w' => e = .returned (.bool (holdsB s h t p n)) ∧ Below w.heap.size w w' := by
  obtain ⟨A, hA⟩ : ∃ A, A = IntKind.i64.wrap (p + n) := ⟨_, rfl⟩
  have hAr : I64 A := by
    rw [hA, IntKind.wrap_i64]
    unfold I64
    omega
  have hb0 := below_alloc w (.cells #[.int .i64 s, .int .i64 h, .int .i64 t] 23)
  have HB := hide (hb0.alloc hb0.size (.cells #[.int .i64 s, .int .i64 A, .int .i64 p] 23))
  have hs1 : (w.alloc (.cells #[.int .i64 s, .int .i64 h, .int .i64 t] 23)).heap.size = w.heap.size + 1 := by simp
  have HR : Hid (∀ w', Below ((w.alloc (.cells #[.int .i64 s, .int .i64 h, .int .i64 t] 23)).alloc (.cells #[.int .i64 s, .int .i64 A, .int .i64 p] 23)).heap.size ((w.alloc (.cells #[.int .i64 s, .int .i64 h, .int .i64 t] 23)).alloc (.cells #[.int .i64 s, .int .i64 A, .int .i64 p] 23)) w' → Rc w' w.heap.size s h t ∧ Rc w' (w.heap.size + 1) s A p) := fun w' hb => by
    have r1 := (Rc.new w s h t).later (below_alloc _ (.cells #[.int .i64 s, .int .i64 A, .int .i64 p] 23))
    have r2 := Rc.new (w.alloc (.cells #[.int .i64 s, .int .i64 h, .int .i64 t] 23)) s A p
    rw [hs1] at r2
    exact ⟨r1.later hb, r2.later hb⟩
  have hc := check_any s h t hh ht ((w.alloc (.cells #[.int .i64 s, .int .i64 h, .int .i64 t] 23)).alloc (.cells #[.int .i64 s, .int .i64 A, .int .i64 p] 23))
  have HC2 : Hid (∀ w' : World, _) := fun w' => check_any s A p hAr hp w'
  have HHE : Hid (mayR s h t = true → holdsB s h t p n = (mayR s A p && (decide (A ≤ h) && decide (t ≤ p)))) := fun hm => holds_eq hm hp hn hA
  have hw : IntKind.i64.wrap (p + n) = A := hA.symm
  obtain ⟨c0, c1, c2, _⟩ := Rc.new w s h t
  clear hb0 hAr hA hs1
  cases hm : mayR s h t with
  | false =>
    have hH : holdsB s h t p n = false := by unfold holdsB; rw [hm]; rfl
    rw [hm, show erB false = 1 from rfl] at hc
    rw [hH]
    clear hm hH HHE
    go_enter Try.func14, Try.ntmps14
    go_wp2_with fail
    refine hc.mono ?_
    rintro e w1 ⟨rfl, hb1⟩
    have HB1 := hide (HB.out.trans (hb1.mono HB.out.size))
    clear hc hb1 c0 c1 c2
    go_wp2
    go_ret
    exact ⟨rfl, HB1.out⟩
  | true =>
    rw [HHE.out hm]
    rw [hm, show erB true = 0 from rfl] at hc
    clear hm HHE
    cases hm2 : mayR s A p with
    | false =>
      rw [hm2, show erB false = 1 from rfl] at HC2
      rw [Bool.false_and]
      clear hm2
      go_enter Try.func14, Try.ntmps14
      go_wp2_with fail
      refine hc.mono ?_
      rintro e w1 ⟨rfl, hb1⟩
      have HB1 := hide (HB.out.trans (hb1.mono HB.out.size))
      clear c0 c1 c2
      obtain ⟨⟨c0, c1, c2, _⟩, ⟨d0, d1, d2, _⟩⟩ := HR.out w1 hb1
      have hc2 := HC2.out w1
      clear hc hb1
      go_wp2_with fail
      refine hc2.mono ?_
      rintro e w2 ⟨rfl, hb2⟩
      have HB2 := hide (HB1.out.trans (hb2.mono HB1.out.size))
      clear hc2 hb2 c0 c1 c2 d0 d1 d2
      go_wp2
      go_ret
      exact ⟨rfl, HB2.out⟩
    | true =>
      rw [hm2, show erB true = 0 from rfl] at HC2
      rw [Bool.true_and]
      clear hm2
      have hmin : ∀ w, (Builtin.min_ #[3, 3] 3 #[.int .i64 h, .int .i64 A]).run Try.prog w = .ok (.int .i64 (min h A)) w := fun w => by
        show Result.ok (Value.int .i64 (if A < h then A else h)) w = _
        rw [show (if A < h then A else h) = min h A by split <;> omega]
      have hmax : ∀ w, (Builtin.max_ #[3, 3] 3 #[.int .i64 t, .int .i64 p]).run Try.prog w = .ok (.int .i64 (max t p)) w := fun w => by
        show Result.ok (Value.int .i64 (if t < p then p else t)) w = _
        rw [show (if t < p then p else t) = max t p by split <;> omega]
      have HD : Hid (decide (s = s ∧ min h A = A ∧ max t p = p) = (decide (A ≤ h) && decide (t ≤ p))) := by
        show _ = _
        rw [Bool.eq_iff_iff, Bool.and_eq_true, decide_eq_true_eq, decide_eq_true_eq, decide_eq_true_eq]
        omega
      rw [← HD.out]
      generalize hmn : min h A = MN at *
      generalize hmx : max t p = MX at *
      have heq : ∀ w, (binOp .eql 23 (.agg #[.int .i64 s, .int .i64 MN, .int .i64 MX]) (.agg #[.int .i64 s, .int .i64 A, .int .i64 p])).run Try.prog w = .ok (.bool (decide (s = s ∧ MN = A ∧ MX = p))) w := fun w => run_eql23 _ _ _ _ _ _ w
      generalize decide (s = s ∧ MN = A ∧ MX = p) = D at *
      clear hmn hmx HD
      go_enter Try.func14, Try.ntmps14
      go_wp2_with fail
      refine hc.mono ?_
      rintro e w1 ⟨rfl, hb1⟩
      have HB1 := hide (HB.out.trans (hb1.mono HB.out.size))
      clear c0 c1 c2
      obtain ⟨⟨c0, c1, c2, _⟩, ⟨d0, d1, d2, _⟩⟩ := HR.out w1 hb1
      have hc2 := HC2.out w1
      have HBB := hide hb1
      clear hc hb1
      go_wp2_with fail
      refine hc2.mono ?_
      rintro e w2 ⟨rfl, hb2⟩
      have HB2 := hide (HB1.out.trans (hb2.mono HB1.out.size))
      have hb3 := HBB.out.trans (hb2.mono HBB.out.size)
      clear hc2 hb2 c0 c1 c2 d0 d1 d2
      obtain ⟨⟨c0, c1, c2, c3⟩, ⟨d0, d1, d2, d3⟩⟩ := HR.out w2 hb3
      have HB3 := hide (HB2.out.alloc HB2.out.size (.cells #[.int .i64 s, .int .i64 MN, .int .i64 MX] 23))
      clear hb3
      go_wp2
      go_ret
      exact ⟨rfl, HB3.out⟩
theorem sum_take : ∀ {L : List (Int × Int)} {k : Nat} {x : Int × Int}, L[k]? = some x → sumL (L.take (k + 1)) = sumL (L.take k) + x.2
  | [], _, _, h => by simp at h
  | y :: r, 0, x, h => by
    simp at h
    subst h
    simp [sumL]
  | y :: r, k + 1, x, h => by
    simp only [List.getElem?_cons_succ] at h
    have ih := sum_take h
    simp only [List.take_succ_cons, sumL]
    rw [ih]
    omega
theorem sum_bound : ∀ {L : List (Int × Int)}, (∀ x ∈ L, 0 ≤ x.2 ∧ x.2 ≤ 65536) → 0 ≤ sumL L ∧ sumL L ≤ L.length * 65536
  | [], _ => by simp [sumL]
  | y :: r, h => by
    have ih := sum_bound (L := r) fun x hx => h x (by simp [hx])
    have h1 := h y (by simp)
    simp only [sumL, List.length_cons]
    omega
set_option maxRecDepth 100000 in
set_option maxHeartbeats 4000000 in
theorem size_any {w : World} {a : Option Addr} {n cap : Nat} {L : List (Int × Int)} (h : Sl w a n L) (hb : ∀ x ∈ L, 0 ≤ x.2 ∧ x.2 ≤ 65536) (hn : n ≤ 1000000) : Calls Try.prog 20 #[.slice a n cap] w fun e w' => e = .returned (.int .i64 (sumL L)) ∧ Below w.heap.size w w' := by
  have HS := hide h
  have HL := hide h.len
  have HBD : Hid (∀ k, 0 ≤ sumL (L.take k) ∧ sumL (L.take k) ≤ 65536000000) := fun k => by
    have := sum_bound (L := L.take k) fun x hx => hb x (List.mem_of_mem_take hx)
    have h2 : (L.take k).length ≤ 1000000 := by rw [List.length_take, ← HL.out]; omega
    omega
  clear h hb
  go_enter Try.func20, Try.ntmps20
  go_wp2
  go_loopw [3, 4] (fun s i wr => ∃ k : Nat, k ≤ n ∧ i = .int .i64 k ∧ s = .int .i64 (sumL (L.take k)) ∧ Below w.heap.size w wr) (fun _ i _ => n - (intOf i).toNat)
  case atStart => exact ⟨0, Nat.zero_le _, rfl, by simp [sumL], Below.refl _ _⟩
  case round =>
    obtain ⟨k, hk, rfl, rfl, hbr⟩ := hrel
    by_cases hlt : k < n
    · have hkl : k < L.length := by rw [← HL.out]; exact hlt
      obtain ⟨g, off, rfl, hg, c0, c1⟩ := (HS.out.later hbr).cells k hkl
      have HT := hide (sum_take (List.getElem?_eq_getElem hkl))
      rw [nth_eq hkl] at c0 c1
      have b1 := HBD.out k
      have b2 := HBD.out (k + 1)
      rw [HT.out] at b2
      generalize L[k] = x at *
      generalize sumL (L.take k) = S at *
      obtain ⟨x1, x2⟩ := x
      simp only at *
      have hw : IntKind.i64.wrap (S + x2) = S + x2 := by rw [IntKind.wrap_i64]; omega
      have HBR := hide hbr
      clear hbr b1 b2
      go_wp2
      go_roundw
      case rel => exact ⟨k + 1, by omega, by go_num, by rw [HT.out], HBR.out⟩
      case measure => simp [intOf]; omega
    · obtain rfl : k = n := by omega
      have hful : L.take k = L := List.take_of_length_le (by rw [← HL.out]; exact Nat.le_refl _)
      rw [hful]
      have HBR := hide hbr
      clear hbr hful
      go_wp2
      go_ret
      exact ⟨rfl, HBR.out⟩

end Sp
end Go.Proofs.Ytbgadcofjhgmiaa
