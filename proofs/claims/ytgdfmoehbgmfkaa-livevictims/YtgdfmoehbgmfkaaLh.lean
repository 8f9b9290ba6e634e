/- Calls that are handed in, and whether they are few; what a nil table answers. -/
import Derived.Test.YtgdfmoehbgmfkaaLg
namespace Go.Proofs.Ytgdfmoehbgmfkaa
open Go.RowKit
namespace Li
open Wi
/-- An extent that is handed in. -/
structure Ix where
  a : Int
  n : Int
  q : Int
  t : Int
structure Ix.Rng (x : Ix) : Prop where
  a : I64 x.a
  n : I64 x.n
  q : I64 x.q
  t : I64 x.t
/-- A slice's memory holds these extents. -/
structure Ex (w : World) (a : Option Addr) (n : Nat) (xs : List Ix) : Prop where
  len : n = xs.length
  most : n ≤ 9223372036854775807
  rng : ∀ x ∈ xs, x.Rng
  cells : ∀ i x, xs[i]? = some x → ∃ g off, a = some ⟨g, off, none⟩ ∧ g < w.heap.size ∧ w.cell? ⟨g, off + i * 4, none⟩ = some (.int .i64 x.a) ∧ w.cell? ⟨g, off + i * 4 + 1, none⟩ = some (.int .i64 x.n) ∧ w.cell? ⟨g, off + i * 4 + 2, none⟩ = some (.int .i64 x.q) ∧ w.cell? ⟨g, off + i * 4 + 3, none⟩ = some (.int .i64 x.t)
theorem Ex.later {w w' : World} {a : Option Addr} {n : Nat} {xs : List Ix} (h : Ex w a n xs) (hb : Below w.heap.size w w') : Ex w' a n xs :=
  ⟨h.len, h.most, h.rng, fun i x hi => by
    obtain ⟨g, off, ha, hg, c0, c1, c2, c3⟩ := h.cells i x hi
    exact ⟨g, off, ha, Nat.lt_of_lt_of_le hg hb.size, (hb.cell (p := ⟨g, _, none⟩) hg).trans c0, (hb.cell (p := ⟨g, _, none⟩) hg).trans c1, (hb.cell (p := ⟨g, _, none⟩) hg).trans c2, (hb.cell (p := ⟨g, _, none⟩) hg).trans c3⟩⟩
/-- A call that is handed in. -/
structure OpV where
  ask : Int
  seq : Int
  ra : Option Addr
  rn : Nat
  rcap : Nat
  ma : Option Addr
  mn : Nat
  mcap : Nat
  la : Option Addr
  ln : Nat
  lcap : Nat
  rs : List Ro
  ms : List Ix
  ls : List Ix
def OpV.vals (o : OpV) : List Value := [.int .i64 o.ask, .int .i64 o.seq, .slice o.ra o.rn o.rcap, .slice o.ma o.mn o.mcap, .slice o.la o.ln o.lcap]
def OpV.few (o : OpV) : Bool := decide (o.rn ≤ 20) && decide (o.mn ≤ 20) && decide (o.ln ≤ 20)
structure Os (w : World) (a : Option Addr) (n : Nat) (os : List OpV) : Prop where
  len : n = os.length
  most : n ≤ 9223372036854775807
  big : ∀ o ∈ os, o.rn ≤ 9223372036854775807 ∧ o.mn ≤ 9223372036854775807 ∧ o.ln ≤ 9223372036854775807
  cells : ∀ i o, os[i]? = some o → ∃ g off, a = some ⟨g, off, none⟩ ∧ g < w.heap.size ∧ w.cell? ⟨g, off + i * 5, none⟩ = some (.int .i64 o.ask) ∧ w.cell? ⟨g, off + i * 5 + 1, none⟩ = some (.int .i64 o.seq) ∧ w.cell? ⟨g, off + i * 5 + 2, none⟩ = some (.slice o.ra o.rn o.rcap) ∧ w.cell? ⟨g, off + i * 5 + 3, none⟩ = some (.slice o.ma o.mn o.mcap) ∧ w.cell? ⟨g, off + i * 5 + 4, none⟩ = some (.slice o.la o.ln o.lcap)
theorem Os.later {w w' : World} {a : Option Addr} {n : Nat} {os : List OpV} (h : Os w a n os) (hb : Below w.heap.size w w') : Os w' a n os :=
  ⟨h.len, h.most, h.big, fun i o hi => by
    obtain ⟨g, off, ha, hg, c0, c1, c2, c3, c4⟩ := h.cells i o hi
    exact ⟨g, off, ha, Nat.lt_of_lt_of_le hg hb.size, (hb.cell (p := ⟨g, _, none⟩) hg).trans c0, (hb.cell (p := ⟨g, _, none⟩) hg).trans c1, (hb.cell (p := ⟨g, _, none⟩) hg).trans c2, (hb.cell (p := ⟨g, _, none⟩) hg).trans c3, (hb.cell (p := ⟨g, _, none⟩) hg).trans c4⟩⟩
/-- What an argument of a law keeps to. -/
structure OpOk (w : World) (o : OpV) : Prop where
  ask : I64 o.ask
  seq : I64 o.seq
  rs : Er w o.ra o.rn o.rs
  rc : o.rn ≤ o.rcap
  rm : o.rn ≤ 9223372036854775807
  ms : Ex w o.ma o.mn o.ms
  mc : o.mn ≤ o.mcap
  ls : Ex w o.la o.ln o.ls
  lc : o.ln ≤ o.lcap
theorem OpOk.later {w w' : World} {o : OpV} (h : OpOk w o) (hb : Below w.heap.size w w') : OpOk w' o := ⟨h.ask, h.seq, h.rs.later hb, h.rc, h.rm, h.ms.later hb, h.mc, h.ls.later hb, h.lc⟩
theorem OpOk.big {w : World} {o : OpV} (h : OpOk w o) : o.rn ≤ 9223372036854775807 ∧ o.mn ≤ 9223372036854775807 ∧ o.ln ≤ 9223372036854775807 := ⟨h.rm, h.ms.most, h.ls.most⟩
def fewL (os : List OpV) : Bool := os.all OpV.few && decide (os.length ≤ 40)
theorem few_no {o : OpV} {os : List OpV} (h : o ∈ os) (hf : o.few = false) : fewL os = false := by
  unfold fewL
  have : os.all OpV.few = false := by
    cases hb : os.all OpV.few with
    | false => rfl
    | true => have := List.all_eq_true.1 hb o h; rw [hf] at this; cases this
  rw [this]; rfl
set_option maxHeartbeats 8000000 in
set_option maxRecDepth 100000 in
theorem few_any {w : World} {a : Option Addr} {n cap : Nat} {os : List OpV} (hO : Os w a n os) : Calls Try.prog 12 #[.slice a n cap] w fun e w' => e = .returned (.bool (fewL os)) ∧ Below w.heap.size w w' := by
  have HO := hide hO
  have HL := hide hO.len
  have hm := hO.most
  clear hO
  go_enter Try.func12, Try.ntmps12
  go_wp2
  go_loopw [3] (fun i wr => ∃ k : Nat, k ≤ n ∧ i = .int .i64 k ∧ (∀ j o, j < k → os[j]? = some o → o.few = true) ∧ Below w.heap.size w wr) (fun i _ => n - (intOf i).toNat)
  case atStart => exact ⟨0, Nat.zero_le _, rfl, fun j o h => by omega, Below.refl _ _⟩
  case round =>
    obtain ⟨k, hk, rfl, hall, hb⟩ := hrel
    by_cases hlt : k < n
    · obtain ⟨o, ho⟩ : ∃ o, os[k]? = some o := ⟨_, List.getElem?_eq_getElem (by have := HL.out; omega)⟩
      obtain ⟨g, off, rfl, hg, c0, c1, c2, c3, c4⟩ := (HO.out.later hb).cells k o ho
      obtain ⟨b1, b2, b3⟩ := HO.out.big o (List.mem_of_getElem? ho)
      have HB := hide hb
      have HX := hide ho
      have HA := hide hall
      have hff : ∀ (h : o.few = false), fewL os = false := fun h => few_no (List.mem_of_getElem? ho) h
      have HFF := hide hff
      have hfd : o.few = (decide (o.rn ≤ 20) && decide (o.mn ≤ 20) && decide (o.ln ≤ 20)) := rfl
      have HFD := hide hfd
      clear ho hb hall hff hfd
      obtain ⟨o1, o2, ra, rn, rcap, ma, mn, mcap, la, ln, lcap, rs, ms, ls⟩ := o
      simp only at *
      by_cases h1 : 20 < rn
      · have HF := hide (HFF.out (by rw [HFD.out, decide_eq_false (by omega)]; rfl))
        have h1' : (20 : Int) < (rn : Int) := by omega
        clear HFF
        go_wp2
        go_ret
        exact ⟨by rw [HF.out]; rfl, HB.out⟩
      · by_cases h2 : 20 < mn
        · have HF := hide (HFF.out (by rw [HFD.out, decide_eq_false (p := mn ≤ 20) (by omega)]; simp))
          have h1' : ¬ (20 : Int) < (rn : Int) := by omega
          have h2' : (20 : Int) < (mn : Int) := by omega
          clear HFF
          go_wp2
          go_ret
          exact ⟨by rw [HF.out]; rfl, HB.out⟩
        · by_cases h3 : 20 < ln
          · have HF := hide (HFF.out (by rw [HFD.out, decide_eq_false (p := ln ≤ 20) (by omega)]; simp))
            have h1' : ¬ (20 : Int) < (rn : Int) := by omega
            have h2' : ¬ (20 : Int) < (mn : Int) := by omega
            have h3' : (20 : Int) < (ln : Int) := by omega
            clear HFF
            go_wp2
            go_ret
            exact ⟨by rw [HF.out]; rfl, HB.out⟩
          · have HF : Hid (OpV.few ⟨o1, o2, ra, rn, rcap, ma, mn, mcap, la, ln, lcap, rs, ms, ls⟩ = true) := by
              show _ = _
              rw [HFD.out, decide_eq_true (p := rn ≤ 20) (by omega), decide_eq_true (p := mn ≤ 20) (by omega), decide_eq_true (p := ln ≤ 20) (by omega)]; rfl
            have h1' : ¬ (20 : Int) < (rn : Int) := by omega
            have h2' : ¬ (20 : Int) < (mn : Int) := by omega
            have h3' : ¬ (20 : Int) < (ln : Int) := by omega
            clear HFF
            go_wp2
            go_roundw
            case rel => exact ⟨k + 1, by omega, by go_num, fun j y hj hy => by
              by_cases e : j = k
              · subst e
                have := HX.out
                rw [hy] at this
                injection this with this
                rw [this]
                exact HF.out
              · exact HA.out j y (by omega) hy, HB.out⟩
            case measure => simp [intOf]; omega
    · obtain rfl : k = n := by omega
      have HB := hide hb
      have HF : Hid (fewL os = decide ((k : Int) ≤ 40)) := by
        show _ = _
        have : os.all OpV.few = true := List.all_eq_true.2 fun x hx => by
          obtain ⟨j, hj, rfl⟩ := List.mem_iff_getElem.1 hx
          exact hall j _ (by have := HL.out; omega) (List.getElem?_eq_getElem hj)
        unfold fewL
        rw [this, Bool.true_and, ← HL.out]
        by_cases h : k ≤ 40
        · rw [decide_eq_true h, decide_eq_true (by omega)]
        · rw [decide_eq_false h, decide_eq_false (by omega)]
      clear hall hb
      go_wp2
      all_goals go_ret
      all_goals exact ⟨by rw [HF.out]; first | rfl | simp [*], HB.out⟩
end Li
end Go.Proofs.Ytgdfmoehbgmfkaa
