/- Calls that are handed to a law; whether they are few. -/
import Derived.Test.YtjbgojccfkmlnaaLa
namespace Go.Proofs.Ytjbgojccfkmlnaa
open Go.RowKit
namespace Wi

/-- A call that is handed to a law. -/
structure OpV where
  ask : Int
  la : Option Addr
  ln : Nat
  lc : Nat
  q : Int
  t : Int
  xs : List Ix
def OpV.cells (o : OpV) : List Value := [.int .i64 o.ask, .slice o.la o.ln o.lc, .int .i64 o.q, .int .i64 o.t]
structure OpOk (w : World) (o : OpV) : Prop where
  ask : I64 o.ask
  q : I64 o.q
  t : I64 o.t
  es : Es w o.la o.ln o.xs
  cap : o.ln ≤ o.lc
structure Os (w : World) (a : Option Addr) (n : Nat) (os : List OpV) : Prop where
  len : n = os.length
  most : n ≤ 9223372036854775807
  ok : ∀ o ∈ os, OpOk w o
  cells : ∀ i o, os[i]? = some o → ∃ g off, a = some ⟨g, off, none⟩ ∧ g < w.heap.size ∧ ∀ j v, o.cells[j]? = some v → w.cell? ⟨g, off + i * 4 + j, none⟩ = some v
theorem OpOk.later {w w' : World} {o : OpV} (h : OpOk w o) (hb : Below w.heap.size w w') : OpOk w' o := ⟨h.ask, h.q, h.t, h.es.later hb, h.cap⟩
theorem Os.later {w w' : World} {a : Option Addr} {n : Nat} {os : List OpV} (h : Os w a n os) (hb : Below w.heap.size w w') : Os w' a n os :=
  ⟨h.len, h.most, fun o ho => (h.ok o ho).later hb, fun i o hi => by
    obtain ⟨g, off, ha, hg, hc⟩ := h.cells i o hi
    exact ⟨g, off, ha, Nat.lt_of_lt_of_le hg hb.size, fun j v hv => (hb.cell (p := ⟨g, _, none⟩) hg).trans (hc j v hv)⟩⟩
theorem Os.at {w : World} {a : Option Addr} {n : Nat} {os : List OpV} (h : Os w a n os) {i : Nat} {o : OpV} (hi : os[i]? = some o) : ∃ g off, a = some ⟨g, off, none⟩ ∧ g < w.heap.size ∧ w.cell? ⟨g, off + i * 4, none⟩ = some (.int .i64 o.ask) ∧ w.cell? ⟨g, off + i * 4 + 1, none⟩ = some (.slice o.la o.ln o.lc) ∧ w.cell? ⟨g, off + i * 4 + 2, none⟩ = some (.int .i64 o.q) ∧ w.cell? ⟨g, off + i * 4 + 3, none⟩ = some (.int .i64 o.t) := by
  obtain ⟨g, off, ha, hg, hc⟩ := h.cells i o hi
  exact ⟨g, off, ha, hg, hc 0 _ rfl, hc 1 _ rfl, hc 2 _ rfl, hc 3 _ rfl⟩
theorem os_one {w : World} {k : Nat} {o : OpV} (hr : OpOk w o) (h : w.heap[k]? = some (.cells o.cells.toArray 34 (0, 0))) : Os w (some ⟨k, 0, none⟩) 1 [o] :=
  ⟨rfl, by omega, by simpa using hr, fun i y hi => by
    cases i with
    | zero =>
      simp at hi
      subst hi
      refine ⟨k, 0, rfl, lt_of_block h, fun j v hv => ?_⟩
      rw [cell_of_row _ _ _ _ _ _ h]
      simpa using hv
    | succ i => simp at hi⟩
def opB (o : OpV) : Bool := decide (o.ln ≤ 10) && o.xs.all fun x => !farB x.a x.n
def fewB (os : List OpV) : Bool := os.all opB && decide (os.length ≤ 40)
theorem opB_no {o : OpV} {x : Ix} (h : x ∈ o.xs) (hf : farB x.a x.n = true) : opB o = false := by
  unfold opB
  rw [Bool.and_eq_false_iff]
  right
  rw [List.all_eq_false]
  exact ⟨x, h, by simp [hf]⟩
theorem fewB_no {os : List OpV} {o : OpV} (h : o ∈ os) (hf : opB o = false) : fewB os = false := by
  unfold fewB
  rw [Bool.and_eq_false_iff]
  left
  rw [List.all_eq_false]
  exact ⟨o, h, by simp [hf]⟩
set_option maxHeartbeats 8000000 in
set_option maxRecDepth 100000 in
theorem few_any {W : World} {a : Option Addr} {n cap : Nat} {os : List OpV} (h : Os W a n os) (hn : n ≤ cap) : Calls Try.prog 11 #[.slice a n cap] W fun e w' => e = .returned (.bool (fewB os)) ∧ Below W.heap.size W w' := by
  have HO := hide h
  have HL := hide h.len
  have hm := h.most
  clear h
  go_enter Try.func11, Try.ntmps11
  go_wp2
  go_loopw [3] (fun i wr => ∃ k : Nat, k ≤ n ∧ i = .int .i64 k ∧ (∀ (j : Nat) o, j < k → os[j]? = some o → opB o = true) ∧ Below W.heap.size W wr) (fun i _ => n - (intOf i).toNat)
  case atStart => exact ⟨0, Nat.zero_le _, rfl, fun j o h => by omega, Below.refl _ _⟩
  case round =>
    obtain ⟨k, hk, rfl, hall, hb⟩ := hrel
    by_cases hlt : k < n
    · obtain ⟨o, ho⟩ : ∃ o, os[k]? = some o := ⟨_, List.getElem?_eq_getElem (by have := HL.out; omega)⟩
      have hom := List.mem_of_getElem? ho
      have hok := HO.out.ok o hom
      obtain ⟨g, off, rfl, hg, c0, c1, c2, c3⟩ := (HO.out.later hb).at ho
      have HA := hide hall
      have HB := hide hb
      have HE := hide hok.es
      have HEL := hide hok.es.len
      have hem := hok.es.most
      have hec := hok.cap
      have HFN : Hid (∀ x ∈ o.xs, farB x.a x.n = true → fewB os = false) := fun x hx hf => fewB_no hom (opB_no hx hf)
      have HF10 : Hid (10 < o.ln → fewB os = false) := fun h => fewB_no hom (by unfold opB; simp; intro h2; omega)
      have HY : Hid (∀ y, os[k]? = some y → y = o) := fun y hy => by rw [ho] at hy; injection hy with hy; exact hy.symm
      obtain ⟨oa, la, ln, lc, oq, ot, xs⟩ := o
      simp only at *
      clear ho hom hok hb hall c0 c2 c3
      by_cases h10 : 10 < ln
      · have HFF := hide (HF10.out h10)
        go_wp2
        go_ret
        exact ⟨by rw [HFF.out]; rfl, HB.out⟩
      · obtain ⟨W1, hW1⟩ : ∃ W1, W1 = wr := ⟨_, rfl⟩
        subst hW1
        have HC1 : Hid (∀ wq, Below W1.heap.size W1 wq → wq.cell? ⟨g, off + k * 4 + 1, none⟩ = some (.slice la ln lc)) := fun wq hb => (hb.cell (p := ⟨g, _, none⟩) hg).trans c1
        go_wp2
        go_loopw [4] (fun i wq => ∃ m : Nat, m ≤ ln ∧ i = .int .i64 m ∧ (∀ (j : Nat) x, j < m → xs[j]? = some x → farB x.a x.n = false) ∧ Below W1.heap.size W1 wq) (fun i _ => ln - (intOf i).toNat)
        case atStart => exact ⟨0, Nat.zero_le _, rfl, fun j o h => by omega, Below.refl _ _⟩
        case round =>
          clear c1
          obtain ⟨m, hm2, rfl, hall2, hb2⟩ := hrel
          have c1 := HC1.out wr hb2
          by_cases hlt2 : m < ln
          · obtain ⟨x, hx⟩ : ∃ x, xs[m]? = some x := ⟨_, List.getElem?_eq_getElem (by have := HEL.out; omega)⟩
            have hxm := List.mem_of_getElem? hx
            have hr := HE.out.rng x hxm
            obtain ⟨g2, off2, rfl, hg2, d0, d1, d2, d3⟩ := (HE.out.later (HB.out.trans (hb2.mono HB.out.size))).cells m x hx
            have hc := far_any x.a x.n x.q x.t hr.a hr.n wr
            have HB2 := hide hb2
            have HA2 := hide hall2
            have HX := hide hx
            have HFX := hide (HFN.out x hxm)
            obtain ⟨xa, xn, xq, xt⟩ := x
            simp only at *
            clear hx hxm hr hb2 hall2
            cases hf : farB xa xn with
            | true =>
              rw [hf] at hc
              have HFF := hide (HFX.out hf)
              clear hf
              go_wp2_with fail
              refine hc.mono ?_
              rintro e w2 ⟨rfl, hb3⟩
              have HB3 := hide (HB.out.trans ((HB2.out.trans (hb3.mono HB2.out.size)).mono HB.out.size))
              clear hc hb3
              go_wp2
              go_ret
              exact ⟨by rw [HFF.out]; rfl, HB3.out⟩
            | false =>
              rw [hf] at hc
              have HF0 := hide hf
              clear hf
              go_wp2_with fail
              refine hc.mono ?_
              rintro e w2 ⟨rfl, hb3⟩
              have HB3 := hide (HB2.out.trans (hb3.mono HB2.out.size))
              clear hc hb3
              go_wp2
              go_roundw
              case rel => exact ⟨m + 1, by omega, by go_num, fun j y hj hy => by
                by_cases e : j = m
                · subst e
                  have := HX.out
                  rw [hy] at this
                  injection this with this
                  rw [this]
                  exact HF0.out
                · exact HA2.out j y (by omega) hy, HB3.out⟩
              case measure => simp [intOf]; omega
          · obtain rfl : m = ln := by omega
            have HOB : Hid (opB ⟨oa, la, m, lc, oq, ot, xs⟩ = true) := by
              show _ = _
              unfold opB
              simp only [Bool.and_eq_true, decide_eq_true_eq, List.all_eq_true]
              refine ⟨by omega, fun x hx => ?_⟩
              obtain ⟨j, hj, rfl⟩ := List.mem_iff_getElem.1 hx
              rw [hall2 j _ (by have := HEL.out; omega) (List.getElem?_eq_getElem hj)]
              rfl
            have HB3 := hide (HB.out.trans (hb2.mono HB.out.size))
            clear hb2 hall2
            go_wp2
            go_roundw
            case rel => exact ⟨k + 1, by omega, by go_num, fun j y hj hy => by
              by_cases e : j = k
              · subst e
                rw [HY.out y hy]
                exact HOB.out
              · exact HA.out j y (by omega) hy, HB3.out⟩
            case measure => simp [intOf]; omega
    · obtain rfl : k = n := by omega
      have hF : fewB os = decide (os.length ≤ 40) := by
        unfold fewB
        rw [show os.all opB = true from ?_]
        · simp
        · rw [List.all_eq_true]
          intro o ho
          obtain ⟨j, hj, rfl⟩ := List.mem_iff_getElem.1 ho
          exact hall j _ (by have := HL.out; omega) (List.getElem?_eq_getElem hj)
      rw [← HL.out] at hF
      have HFF := hide hF
      have HB := hide hb
      clear hb hall hF
      go_wp2
      go_ret
      exact ⟨by rw [HFF.out]; first | rfl | (apply ret_bool; first | rfl | (apply decide_eq_decide.2; omega)), HB.out⟩

end Wi
end Go.Proofs.Ytjbgojccfkmlnaa
