/- Drop, as the document has it. -/
import Derived.Test.YtgdfmoehbgmfkaaNe
import Derived.Test.YtgdfmoehbgmfkaaNd
namespace Go.Proofs.Ytgdfmoehbgmfkaa
open Go.RowKit
namespace Li
open Wi
theorem delA_at {β : Type} : ∀ {rs : Al β} {i : Nat} {y : Int × β}, Ris rs → rs[i]? = some y → delA rs y.1 = rs.take i ++ rs.drop (i + 1)
  | [], i, y, _, h => by simp at h
  | p :: r, 0, y, hr, h => by
    have h : p = y := by simpa using h
    subst h
    have hp := List.pairwise_cons.1 hr
    unfold delA
    rw [List.filter_cons]
    simp only [bne_self_eq_false, Bool.false_eq_true, if_false, List.take_zero, List.nil_append, List.drop_succ_cons, List.drop_zero]
    rw [List.filter_eq_self]
    intro q hq
    have h9 : p.1 < q.1 := hp.1 q hq
    rw [bne_iff_ne]; omega
  | p :: r, i + 1, y, hr, h => by
    have h : r[i]? = some y := by simpa using h
    have hp := List.pairwise_cons.1 hr
    have h9 : p.1 < y.1 := hp.1 y (List.mem_of_getElem? h)
    have ih := delA_at hr.tail h
    unfold delA at ih ⊢
    rw [List.filter_cons, if_pos (by rw [bne_iff_ne]; omega), ih]
    rfl
theorem delA_none {β : Type} {rs : Al β} {k : Int} (h : getA rs k = none) : delA rs k = rs := by
  unfold delA
  rw [List.filter_eq_self]
  intro q hq
  rw [bne_iff_ne]
  exact getA_none.1 h q hq
theorem delA_sub {β : Type} {rs : Al β} {k : Int} {x : Int × β} (h : x ∈ delA rs k) : x ∈ rs := (List.mem_filter.1 h).1
theorem delA_len {β : Type} (rs : Al β) (k : Int) : (delA rs k).length ≤ rs.length := List.length_filter_le _ _
def drpE (rs : Rows) (k : Int) : Int := if (getA rs k).isSome then 0 else 15
theorem find_get {qs : Rows} {k : Int} (h : ∀ (i : Nat) (x : Ro), qs[i]? = some x → x.1 ≠ k) : getA qs k = none := getA_none.2 fun p hp => by
  obtain ⟨t, ht, rfl⟩ := List.mem_iff_getElem.1 hp
  exact h t _ (List.getElem?_eq_getElem ht)
theorem find_got {qs : Rows} {k : Int} {i : Nat} {x : Ro} (hr : Ris qs) (h : qs[i]? = some x) (hk : x.1 = k) : getA qs k = some x.2 := by
  subst hk
  exact getA_of_mem hr (k := x.1) (v := x.2) (List.mem_of_getElem? h)
/-- Rows from one on, as a slice. -/
theorem slice_from {w0 : World} {g n cap : Nat} {xs : List Ro} (hE : Er w0 (some ⟨g, 0, none⟩) n xs) (k : Nat) (h1 : k ≤ n) (h2 : n ≤ cap) :
    ∃ ad : Addr, (∀ w, (Instr.slice 27 (.slice (some ⟨g, 0, none⟩) n cap) (some (.int .i64 (k : Int))) none none).run Try.prog w = .ok (.slice (some ad) (n - k) (cap - k)) w) ∧ ∀ w', Below w0.heap.size w0 w' → ∀ (j : Nat) (u : Value), (rcs (xs.drop k))[j]? = some u → w'.cell? (ad.add j) = some u := by
  refine ⟨if cap = k then ⟨g, 0, none⟩ else (⟨g, 0, none⟩ : Addr).add (k * 3), fun w => ?_, fun w' hb j u hu => ?_⟩
  · have b1 : n ≤ cap := h2
    by_cases e : cap = k
    · subst e
      have : n = cap := by omega
      subst this
      simp [Instr.slice, Instr.sliceBounds, Instr.sliceBound, run_underlying Try.underlying27, asIntOf, go_sem]
    · simp [Instr.slice, Instr.sliceBounds, Instr.sliceBound, run_underlying Try.underlying27, asIntOf, h1, e, go_sem]
  · have hl := hE.len
    by_cases e : cap = k
    · have : xs.drop k = [] := List.drop_eq_nil_of_le (by omega)
      rw [this] at hu
      cases hu
    · rw [if_neg e, Addr.add_lit]
      exact er_cells (hE.later hb) k j u hu
set_option maxHeartbeats 8000000 in
set_option maxRecDepth 100000 in
/-- Drop, as the document has it. -/
theorem refDrop_any {w : World} {b0 : Nat} {a : Option Addr} {n cap : Nat} {qs : Rows} {k : Int} (hO : w.ownsRow b0 35 3 (.slice a n cap) n (rcs qs)) (hL : n = qs.length) (hb0 : b0 ≤ w.heap.size) (hris : Ris qs) (hmay : ∀ x ∈ qs, mayRo x = true) (hn : n ≤ 1000000) :
    Calls Try.prog 31 #[.slice a n cap, .int .i64 k] w fun e w' => Below w.heap.size w w' ∧ ∃ v, e = .returned (.tuple #[v, .int .i64 (drpE qs k)]) ∧ w'.ownsRow b0 35 3 v (delA qs k).length (rcs (delA qs k)) := by
  have hrng : ∀ x ∈ qs, I64 x.1 ∧ I64 x.2.1 ∧ I64 x.2.2 := fun x hx => may_rng (hmay x hx)
  have hf := find_any (q := k) (cap := cap) (er_own35 hO hL hrng) hn
  have hE := er_own35 hO hL hrng
  have hcase : (a = none ∧ n = 0 ∧ cap = 0) ∨ (∃ g, a = some ⟨g, 0, none⟩ ∧ n ≤ cap) := by
    rcases hO.2 with ⟨h1, h2⟩ | ⟨g, cap', cur, hv, hb, hgg, h3, rest⟩
    · injection h1 with e1 e2 e3; exact .inl ⟨e1, h2, e3⟩
    · injection hv with e1 e2 e3; exact .inr ⟨g, e1, by omega⟩
  have HO := hide hO
  have HE := hide hE
  have HL := hide hL
  have HB0 := hide hb0
  have HRIS := hide hris
  have HCASE := hide hcase
  obtain ⟨i0, hi, hz0, hz1, hz2⟩ := info_parts info35
  clear hO hL hb0 hris hmay hrng hE hcase
  go_enter Try.func31, Try.ntmps31
  go_wp2_with fail
  refine hf.mono ?_
  rintro e w1 ⟨hb1, ⟨rfl, hno⟩ | ⟨i, y, hy, hyk, rfl⟩⟩
  · have hg := find_get hno
    have HD := hide (delA_none hg)
    have HEE : Hid (drpE qs k = 15) := by show _ = _; unfold drpE; rw [hg]; rfl
    have HB1 := hide hb1
    clear hf hno hg hb1
    go_wp2
    go_ret2
    refine ⟨HB1.out, _, by rw [HEE.out]; rfl, ?_⟩
    rw [HD.out, ← HL.out]
    exact row_later HO.out HB1.out
  · have hg := find_got HRIS.out hy hyk
    have HEE : Hid (drpE qs k = 0) := by show _ = _; unfold drpE; rw [hg]; rfl
    have hil := (List.getElem?_eq_some_iff.1 hy).1
    have HD := hide (show delA qs k = qs.take i ++ qs.drop (i + 1) by rw [← hyk]; exact delA_at HRIS.out hy)
    have hiN : i < n := by have := HL.out; omega
    have hT : (rcs (qs.take i)).length = i * 3 := by rw [rcs_length, List.length_take]; have := HL.out; omega
    have hD2 : (rcs (qs.drop (i + 1))).length = (n - (i + 1)) * 3 := by rw [rcs_length, List.length_drop, ← HL.out]
    rcases HCASE.out with ⟨rfl, h0, rfl⟩ | ⟨g, rfl, hnc⟩
    · omega
    · have HB1 := hide hb1
      have HR0 : w1.ownsRow w1.heap.size 35 3 (.slice none 0 0) 0 (rcs ([] : List Ro)) := World.ownsRow_nil _ _ _ _
      have hn1 : ∀ (j : Nat) (u : Value), (rcs (qs.take i))[j]? = some u → w1.cell? ((⟨g, 0, none⟩ : Addr).add j) = some u := fun j u hj => by
        have h1 := er_cells (HE.out.later HB1.out) 0 j u
        rw [List.drop_zero, Nat.zero_mul, Nat.add_zero] at h1
        refine h1 ?_
        have hjl := (List.getElem?_eq_some_iff.1 hj).1
        rw [hT] at hjl
        have e1 : rcs qs = rcs (qs.take i) ++ rcs (qs.drop i) := by rw [← rcs_append, List.take_append_drop]
        rw [e1, List.getElem?_append_left (by rw [hT]; exact hjl)]
        exact hj
      have hbs := HB1.out.size
      have hi1 : (i : Int) ≤ (cap : Int) := by omega
      obtain ⟨ad, hsl, hcl⟩ := slice_from (cap := cap) HE.out (i + 1) (by omega) hnc
      rw [show (((i + 1 : Nat) : Int)) = (i : Int) + 1 by omega] at hsl
      have HCL := hide hcl
      clear hcl
      clear hf hb1 hy hyk hg hil
      go_wp2_with (first
        | (at_builtin; refine wpList_append_own _ rfl _ _ 27 rfl w1.heap.size 35 i0 (.agg #[.int .i64 0, .int .i64 0, .int .i64 0]) 3 24 Try.underlying27 hi hz0 hz1 hz2 rfl (by decide) _ _ _ rfl HR0 ⟨g, 0, none⟩ i _ (rcs (qs.take i)) rfl hT hn1 (rcs_ones _) (by simp only [maxLen]; omega) (by omega) (Nat.le_refl _) ?_; intro v4 w4 hown4 hgrow4 _; have HB4 := hide ((Below.refl w1.heap.size w1).grown hgrow4 (Nat.le_refl _) (fun i hi => by cases hi)); have hnews := HCL.out w4 (HB1.out.trans (HB4.out.mono HB1.out.size)); have hbs5 := HB4.out.size)
        | (at_builtin; refine wpList_append_own _ rfl _ _ 27 rfl w1.heap.size 35 i0 (.agg #[.int .i64 0, .int .i64 0, .int .i64 0]) 3 24 Try.underlying27 hi hz0 hz1 hz2 rfl (by decide) _ _ _ rfl hown4 _ _ _ (rcs (qs.drop (i + 1))) rfl hD2 hnews (rcs_ones _) (by simp only [maxLen]; omega) (by omega) hbs5 ?_; intro v6 w6 hown6 hgrow6 _))
      go_ret2
      have HB6 := HB4.out.grown hgrow6 hbs5 (fun i hi => (hown4.lt i hi).1)
      refine ⟨HB1.out.trans (HB6.mono HB1.out.size), _, by rw [HEE.out]; rfl, ?_⟩
      rw [HD.out, rcs_append, List.length_append, List.length_take, List.length_drop, show min i qs.length + (qs.length - (i + 1)) = 0 + i + (n - (i + 1)) by have := HL.out; omega]
      have e9 : rcs ([] : List Ro) ++ rcs (qs.take i) = rcs (qs.take i) := rfl
      rw [e9] at hown6
      exact own_base hown6 (Nat.le_trans HB0.out hbs)
end Li
end Go.Proofs.Ytgdfmoehbgmfkaa
