/- Extents that are made at the call are put, spans are cut; what a list is when the same is put twice, or moved back. -/
import Derived.Test.YtjbgojccfkmlnaaLe
namespace Go.Proofs.Ytjbgojccfkmlnaa
open Go.RowKit
namespace Wi

theorem xof_ix (xs : List Xt) : xof (xs.map Xt.ix) = xs := by
  unfold xof
  rw [List.map_map]
  conv => rhs; rw [← List.map_id xs]
  exact List.map_congr_left fun x _ => x.ix_x
theorem may_rng {x : Xt} (h : x.ix.may = true) : x.ix.Rng := by
  have hs := Ix.sm h
  rw [x.ix_x] at hs
  obtain ⟨⟨h1, h2, h3⟩, h4⟩ := hs
  unfold Xt.fin at h1
  exact ⟨⟨by show (-9223372036854775808 : Int) ≤ x.at_; omega, by show (x.at_ : Int) ≤ 9223372036854775807; omega⟩, ⟨by show (-9223372036854775808 : Int) ≤ x.len; omega, by show (x.len : Int) ≤ 9223372036854775807; omega⟩, ⟨by show (-9223372036854775808 : Int) ≤ x.seq; omega, by show (x.seq : Int) ≤ 9223372036854775807; omega⟩, ⟨by show (-9223372036854775808 : Int) ≤ x.to; omega, by show (x.to : Int) ≤ 9223372036854775807; omega⟩⟩
theorem es_block {w : World} {k : Nat} {xs : List Xt} (hm : ∀ x ∈ xs, x.ix.may = true) (hn : xs.length ≤ 1000000) (h : w.heap[k]? = some (.cells (encXs xs).toArray 40 (0, 0))) : Es w (some ⟨k, 0, none⟩) xs.length (xs.map Xt.ix) :=
  ⟨by rw [List.length_map], by omega, fun y hy => by
    obtain ⟨x, hx, rfl⟩ := List.mem_map.1 hy
    exact may_rng (hm x hx), fun i y hi => by
    rw [List.getElem?_map] at hi
    cases hx : xs[i]? with
    | none => rw [hx] at hi; cases hi
    | some x =>
      rw [hx] at hi
      simp only [Option.map_some, Option.some.injEq] at hi
      subst hi
      have hc := Xs.cell (xs_block h hn) hx
      exact ⟨k, 0, rfl, hc.lt, hc.c0, hc.c1, hc.c2, hc.c3⟩⟩
/-- Extents, made at the call, are put. -/
theorem put_new {W w : World} {b : Nat} {l : List Xt} {B : Th} (hB : B.Good) (h : Mine W w ((mapT b l).and B)) (hF : Fit l) (xs : List Xt) (hm : ∀ x ∈ xs, x.ix.may = true) (hn : xs.length ≤ 10) (k : Nat) (hk : k = xs.length) (cs : Array Value) (hcs : cs = (encXs xs).toArray) :
    Calls Try.prog 28 #[.pointer (some ⟨b, 0, none⟩), .slice (some ⟨w.heap.size, 0, none⟩) k k] (w.alloc (.cells cs 40)) fun e w' => ∃ f, e = .returned (.tuple #[f, .int .i64 0]) ∧ Mine W w' ((mapT b (putP l xs).1).and ((listT f (putP l xs).2).and B)) := by
  subst hk hcs
  have hM := Mine.obj ((mapT_good b l).and hB) h (.cells (encXs xs).toArray 40)
  obtain ⟨XM, hXM, _, ⟨Y, hY, hdis⟩, hgo⟩ := Mine.go2 (objT_good _ _) hB (Mine.le (Th.Le.rot _ _ _) hM)
  have hE := es_block hm (by omega) hY.1
  refine (put_ok hE (Nat.le_refl _) hn hXM hF (fun _ g off e hx => hdis g hx ((hY.2 g).2 (by injection e with e; injection e with e _ _; exact e.symm))) (fun y hy => by
    obtain ⟨x, hx, rfl⟩ := List.mem_map.1 hy
    exact hm x hx)).mono ?_
  rintro e w' ⟨f, rfl, hl⟩
  rw [xof_ix] at hl
  exact ⟨f, rfl, Mine.le (Th.Le.trans (Th.Le.right _ _ _) (Th.Le.mono (Th.Le.refl _) (Th.Le.mono (Th.Le.refl _) (Th.Le.snd _ _)))) (hgo hl)⟩
/-- A span, made at the call, is cut. -/
theorem cut_new {W w : World} {b : Nat} {l : List Xt} {B : Th} (hB : B.Good) (h : Mine W w ((mapT b l).and B)) (hF : Fit l) (a n : Nat) (h1 : 1 ≤ n) (h2 : a + n ≤ 65536) :
    Calls Try.prog 27 #[.pointer (some ⟨b, 0, none⟩), .slice (some ⟨w.heap.size, 0, none⟩) 1 1] (w.alloc (.cells #[.int .i64 (a : Nat), .int .i64 (n : Nat)] 38)) fun e w' => ∃ f, e = .returned (.tuple #[f, .int .i64 0]) ∧ Mine W w' ((mapT b (layL l a (a + n) [])).and ((listT f (wasL l a (a + n))).and B)) := by
  have hM := Mine.obj ((mapT_good b l).and hB) h (.cells #[.int .i64 (a : Nat), .int .i64 (n : Nat)] 38)
  obtain ⟨XM, hXM, _, ⟨Y, hY, hdis⟩, hgo⟩ := Mine.go2 (objT_good _ _) hB (Mine.le (Th.Le.rot _ _ _) hM)
  have hms : (⟨a, n, 0, 0⟩ : Ix).mays = true := by unfold Ix.mays mayS; exact decide_eq_true (by simp only; omega)
  have hE : Es2 (w.alloc (.cells #[.int .i64 (a : Nat), .int .i64 (n : Nat)] 38)) (some ⟨w.heap.size, 0, none⟩) 1 [⟨a, n, 0, 0⟩] := ⟨rfl, by omega, fun y hy => by
    simp at hy
    subst hy
    exact ⟨⟨by simp only; omega, by simp only; omega⟩, ⟨by simp only; omega, by simp only; omega⟩, ⟨by simp only; omega, by simp only; omega⟩, ⟨by simp only; omega, by simp only; omega⟩⟩, fun i y hi => by
    cases i with
    | zero =>
      simp at hi
      subst hi
      exact ⟨_, 0, rfl, lt_of_block hY.1, by rw [cell_of_row _ _ _ _ _ _ hY.1]; rfl, by rw [cell_of_row _ _ _ _ _ _ hY.1]; rfl⟩
    | succ i => simp at hi⟩
  refine (cut_ok hE (Nat.le_refl _) (by omega) hXM hF (fun _ g off e hx => hdis g hx ((hY.2 g).2 (by injection e with e; injection e with e _ _; exact e.symm))) (fun y hy => by simp at hy; subst hy; exact hms)).mono ?_
  rintro e w' ⟨f, rfl, hl⟩
  have he : cutP l (xof [(⟨a, n, 0, 0⟩ : Ix)]) = (layL l a (a + n) [], wasL l a (a + n)) := rfl
  rw [he] at hl
  exact ⟨f, rfl, Mine.le (Th.Le.trans (Th.Le.right _ _ _) (Th.Le.mono (Th.Le.refl _) (Th.Le.mono (Th.Le.refl _) (Th.Le.snd _ _)))) (hgo hl)⟩
theorem one_ris {x : Xt} (h : 1 ≤ x.len) : Ris [x] := h
theorem one_can {x : Xt} (h : 1 ≤ x.len) : Can [x] := by
  have := join_can (one_ris h)
  exact this
theorem one_spot (x : Xt) (i : Nat) : spot [x] i = if x.at_ ≤ i ∧ i < x.fin then some (x.seq, x.to + (i - x.at_)) else none := rfl
theorem was_lay_one {l : List Xt} (hl : Can l) {x : Xt} (h : 1 ≤ x.len) : wasL (layL l x.at_ x.fin [x]) x.at_ x.fin = [x] := by
  have hr := lay_can hl.ris (one_ris h) (show x.at_ ≤ x.fin by unfold Xt.fin; omega) (fun y hy => by simp at hy; subst hy; exact ⟨Nat.le_refl _, Nat.le_refl _⟩)
  refine can_eq (was_can hr) (one_can h) fun i => ?_
  rw [was_spot hr.ris, lay_spot hl.ris (one_ris h) (show x.at_ ≤ x.fin by unfold Xt.fin; omega) (fun y hy => by simp at hy; subst hy; exact ⟨Nat.le_refl _, Nat.le_refl _⟩)]
  by_cases hi : x.at_ ≤ i ∧ i < x.fin
  · rw [if_pos hi, if_pos hi]
  · rw [if_neg hi, one_spot, if_neg hi]
theorem was_lay_nil {l : List Xt} (hl : Can l) {a b : Nat} (h : a ≤ b) : wasL (layL l a b []) a b = [] := by
  have hr := lay_can (X := []) hl.ris trivial h (fun y hy => by simp at hy)
  refine can_eq (was_can hr) trivial fun i => ?_
  rw [was_spot hr.ris, lay_spot (X := []) hl.ris trivial h (fun y hy => by simp at hy)]
  by_cases hi : a ≤ i ∧ i < b
  · rw [if_pos hi, if_pos hi]
  · rw [if_neg hi]
    rfl
/-- Other sectors are as they were. -/
theorem was_lay_off {l X : List Xt} (hl : Can l) (hX : Ris X) {a b i : Nat} (h : a ≤ b) (hx : ∀ x ∈ X, a ≤ x.at_ ∧ x.fin ≤ b) (hi : ¬ (a ≤ i ∧ i < b)) : wasL (layL l a b X) i (i + 1) = wasL l i (i + 1) := by
  have hr := lay_can hl.ris hX h hx
  refine can_eq (was_can hr) (was_can hl) fun j => ?_
  rw [was_spot hr.ris, was_spot hl.ris, lay_spot hl.ris hX h hx]
  by_cases hj : i ≤ j ∧ j < i + 1
  · obtain rfl : j = i := by omega
    rw [if_pos hj, if_pos hj, if_neg hi]
  · rw [if_neg hj, if_neg hj]
/-- What is put a second time changes nothing. -/
theorem lay_again {l : List Xt} (hl : Can l) {x : Xt} (h : 1 ≤ x.len) : layL (layL l x.at_ x.fin [x]) x.at_ x.fin [x] = layL l x.at_ x.fin [x] := by
  have hx : ∀ y ∈ [x], x.at_ ≤ y.at_ ∧ y.fin ≤ x.fin := fun y hy => by simp at hy; subst hy; exact ⟨Nat.le_refl _, Nat.le_refl _⟩
  have hab : x.at_ ≤ x.fin := by unfold Xt.fin; omega
  have hr := lay_can hl.ris (one_ris h) hab hx
  refine can_eq (lay_can hr.ris (one_ris h) hab hx) hr fun i => ?_
  rw [lay_spot hr.ris (one_ris h) hab hx, lay_spot hl.ris (one_ris h) hab hx]
  by_cases hi : x.at_ ≤ i ∧ i < x.fin
  · rw [if_pos hi, if_pos hi]
  · rw [if_neg hi, if_neg hi]
/-- An extent that is put in two parts is there as one. -/
theorem lay_parts {l : List Xt} (hl : Can l) {x : Xt} {k : Nat} (h1 : 1 ≤ k) (h2 : k < x.len) : (putP l [⟨x.at_ + k, x.len - k, x.seq, x.to + k⟩, ⟨x.at_, k, x.seq, x.to⟩]).1 = layL l x.at_ x.fin [x] := by
  have e : (putP l [⟨x.at_ + k, x.len - k, x.seq, x.to + k⟩, ⟨x.at_, k, x.seq, x.to⟩]).1 = layL (layL l (x.at_ + k) (Xt.fin ⟨x.at_ + k, x.len - k, x.seq, x.to + k⟩) [⟨x.at_ + k, x.len - k, x.seq, x.to + k⟩]) x.at_ (Xt.fin ⟨x.at_, k, x.seq, x.to⟩) [⟨x.at_, k, x.seq, x.to⟩] := rfl
  rw [e]
  have hf1 : Xt.fin ⟨x.at_ + k, x.len - k, x.seq, x.to + k⟩ = x.fin := by unfold Xt.fin; simp only; omega
  have hf2 : Xt.fin ⟨x.at_, k, x.seq, x.to⟩ = x.at_ + k := rfl
  rw [hf1, hf2]
  have r1 : Ris [(⟨x.at_ + k, x.len - k, x.seq, x.to + k⟩ : Xt)] := one_ris (by show 1 ≤ x.len - k; omega)
  have r2 : Ris [(⟨x.at_, k, x.seq, x.to⟩ : Xt)] := one_ris h1
  have i1 : ∀ y ∈ [(⟨x.at_ + k, x.len - k, x.seq, x.to + k⟩ : Xt)], x.at_ + k ≤ y.at_ ∧ y.fin ≤ x.fin := fun y hy => by simp at hy; subst hy; exact ⟨Nat.le_refl _, by rw [hf1]; exact Nat.le_refl _⟩
  have i2 : ∀ y ∈ [(⟨x.at_, k, x.seq, x.to⟩ : Xt)], x.at_ ≤ y.at_ ∧ y.fin ≤ x.at_ + k := fun y hy => by simp at hy; subst hy; exact ⟨Nat.le_refl _, by rw [hf2]; exact Nat.le_refl _⟩
  have hx : ∀ y ∈ [x], x.at_ ≤ y.at_ ∧ y.fin ≤ x.fin := fun y hy => by simp at hy; subst hy; exact ⟨Nat.le_refl _, Nat.le_refl _⟩
  have a1 : x.at_ + k ≤ x.fin := by unfold Xt.fin; omega
  have a2 : x.at_ ≤ x.at_ + k := by omega
  have a3 : x.at_ ≤ x.fin := by omega
  have hr := lay_can hl.ris r1 a1 i1
  refine can_eq (lay_can hr.ris r2 a2 i2) (lay_can hl.ris (one_ris (show 1 ≤ x.len by omega)) a3 hx) fun i => ?_
  rw [lay_spot hr.ris r2 a2 i2, lay_spot hl.ris r1 a1 i1, lay_spot hl.ris (one_ris (show 1 ≤ x.len by omega)) a3 hx, one_spot, one_spot, one_spot, hf1, hf2]
  by_cases c1 : x.at_ ≤ i ∧ i < x.at_ + k
  · rw [if_pos c1, if_pos (show x.at_ ≤ i ∧ i < x.fin by omega), if_pos (show x.at_ ≤ i ∧ i < x.fin by omega)]
    simp only
    rw [if_pos c1]
  · rw [if_neg c1]
    by_cases c2 : x.at_ + k ≤ i ∧ i < x.fin
    · rw [if_pos c2, if_pos (show x.at_ ≤ i ∧ i < x.fin by omega), if_pos (show x.at_ ≤ i ∧ i < x.fin by omega)]
      simp only
      rw [if_pos c2]
      congr 2
      omega
    · rw [if_neg c2, if_neg (show ¬ (x.at_ ≤ i ∧ i < x.fin) by omega)]
theorem put_one_P (l : List Xt) (x : Xt) : putP l [x] = (layL l x.at_ x.fin [x], wasL l x.at_ x.fin) := rfl
theorem filter_spot_seq (q : Nat) : ∀ {l : List Xt}, Ris l → ∀ i, (spot (l.filter fun y => decide (y.seq = q)) i).isSome = (match spot l i with | none => false | some p => decide (p.1 = q))
  | [], _, i => rfl
  | y :: r, hl, i => by
    have ih := filter_spot_seq q hl.tail i
    rw [List.filter_cons]
    have hr : y.at_ ≤ i → i < y.fin → spot r i = none := fun h1 h2 => spot_out fun z hz => .inl (Nat.lt_of_lt_of_le h2 (Ris.first hl z hz))
    by_cases hq : y.seq = q
    · rw [if_pos (by simpa using hq), spot, spot]
      by_cases hi : y.at_ ≤ i ∧ i < y.fin
      · rw [if_pos hi, if_pos hi]
        simp [hq]
      · rw [if_neg hi, if_neg hi]
        exact ih
    · rw [if_neg (by simpa using hq)]
      conv => rhs; rw [spot]
      by_cases hi : y.at_ ≤ i ∧ i < y.fin
      · rw [if_pos hi, ih, hr hi.1 hi.2]
        simp [hq]
      · rw [if_neg hi]
        exact ih
/-- How many sectors of an object there are behind a move to it. -/
theorem moved_there {l : List Xt} {x : Xt} {q t : Nat} (hl : Can l) (_hf : ∀ y ∈ l, y.fin ≤ 65536) (hx : x.fin ≤ 65536) (hq : ∀ y ∈ l, ¬ y.seq = q) (hm : Can (mvL l x q t)) (hmf : ∀ y ∈ mvL l x q t, y.fin ≤ 65536) :
    lens ((mvL l x q t).filter fun y => decide (y.seq = q)) = lens ((wasL l x.at_ x.fin).filter (hitX x)) := by
  have hab : x.at_ ≤ x.fin := by unfold Xt.fin; omega
  obtain ⟨m1, m2⟩ := mv_in hl x q t
  have hw := (was_can (a := x.at_) (b := x.fin) hl).ris
  rw [lens_cnt (n := 65536) (filter_ris _ hm.ris) (fun y hy => hmf y ((List.mem_filter.1 hy).1)), lens_cnt (n := 65536) (filter_ris _ hw) (fun y hy => by have := was_in hl.ris y ((List.mem_filter.1 hy).1); omega)]
  refine cnt_congr fun i hi => ?_
  rw [filter_spot_seq q hm.ris, show mvL l x q t = layL l x.at_ x.fin ((wasL l x.at_ x.fin).map (mvX x q t)) from rfl, lay_spot hl.ris m1 hab m2]
  have hsp : ∀ j p, spot l j = some p → ¬ p.1 = q := fun j p hp => by
    have : ∀ {m : List Xt}, (∀ y ∈ m, ¬ y.seq = q) → spot m j = some p → ¬ p.1 = q := by
      intro m
      induction m with
      | nil => intro _ h; cases h
      | cons y r ih =>
        intro hy h
        rw [spot] at h
        split at h
        · injection h with h
          rw [← h]
          exact hy y (by simp)
        · exact ih (fun z hz => hy z (by simp [hz])) h
    exact this hq hp
  by_cases hc : x.at_ ≤ i ∧ i < x.fin
  · rw [if_pos hc, mv_spot x q t (fun y hy => (was_in hl.ris y hy).1) hc.1, filter_spot x hw (fun y hy => (was_in hl.ris y hy).1) hc.1, was_spot hl.ris, if_pos hc]
    by_cases hs : spot l i = some (x.seq, x.to + (i - x.at_))
    · rw [if_pos hs, decide_eq_true hs]
      simp
    · rw [if_neg hs, decide_eq_false hs]
      cases hp : spot l i with
      | none => rfl
      | some p => exact decide_eq_false (hsp i p hp)
  · rw [if_neg hc, spot_out (l := (wasL l x.at_ x.fin).filter (hitX x)) (fun y hy => by
      have := was_in hl.ris y ((List.mem_filter.1 hy).1)
      unfold Xt.fin at *
      omega)]
    cases hp : spot l i with
    | none => rfl
    | some p => exact decide_eq_false (hsp i p hp)
/-- A move back is as if none had been. -/
theorem move_back {l : List Xt} {x : Xt} {q t : Nat} (hl : Can l) (hq : ∀ y ∈ l, ¬ y.seq = q) : mvL (mvL l x q t) ⟨x.at_, x.len, q, t⟩ x.seq x.to = l ∧ lens ((wasL (mvL l x q t) x.at_ x.fin).filter (hitX ⟨x.at_, x.len, q, t⟩)) = lens ((wasL l x.at_ x.fin).filter (hitX x)) := by
  have hab : x.at_ ≤ x.fin := by unfold Xt.fin; omega
  obtain ⟨m1, m2⟩ := mv_in hl x q t
  have hm : Can (mvL l x q t) := lay_can hl.ris m1 hab m2
  have hf : (⟨x.at_, x.len, q, t⟩ : Xt).fin = x.fin := rfl
  have hw := (was_can (a := x.at_) (b := x.fin) hl).ris
  have hw2 := (was_can (a := x.at_) (b := x.fin) hm).ris
  have hsp : ∀ j p, spot l j = some p → ¬ p.1 = q := fun j p hp => by
    have : ∀ {m : List Xt}, (∀ y ∈ m, ¬ y.seq = q) → spot m j = some p → ¬ p.1 = q := by
      intro m
      induction m with
      | nil => intro _ h; cases h
      | cons y r ih =>
        intro hy h
        rw [spot] at h
        split at h
        · injection h with h
          rw [← h]
          exact hy y (by simp)
        · exact ih (fun z hz => hy z (by simp [hz])) h
    exact this hq hp
  have hs2 : ∀ i, x.at_ ≤ i ∧ i < x.fin → spot (mvL l x q t) i = if spot l i = some (x.seq, x.to + (i - x.at_)) then some (q, t + (i - x.at_)) else spot l i := fun i hc => by
    rw [show mvL l x q t = layL l x.at_ x.fin ((wasL l x.at_ x.fin).map (mvX x q t)) from rfl, lay_spot hl.ris m1 hab m2, if_pos hc, mv_spot x q t (fun y hy => (was_in hl.ris y hy).1) hc.1, was_spot hl.ris, if_pos hc]
  have hs3 : ∀ i, ¬ (x.at_ ≤ i ∧ i < x.fin) → spot (mvL l x q t) i = spot l i := fun i hc => by
    rw [show mvL l x q t = layL l x.at_ x.fin ((wasL l x.at_ x.fin).map (mvX x q t)) from rfl, lay_spot hl.ris m1 hab m2, if_neg hc]
  constructor
  · obtain ⟨n1, n2⟩ := mv_in hm ⟨x.at_, x.len, q, t⟩ x.seq x.to
    refine can_eq (lay_can hm.ris n1 hab n2) hl fun i => ?_
    rw [show mvL (mvL l x q t) ⟨x.at_, x.len, q, t⟩ x.seq x.to = layL (mvL l x q t) (⟨x.at_, x.len, q, t⟩ : Xt).at_ (⟨x.at_, x.len, q, t⟩ : Xt).fin ((wasL (mvL l x q t) (⟨x.at_, x.len, q, t⟩ : Xt).at_ (⟨x.at_, x.len, q, t⟩ : Xt).fin).map (mvX ⟨x.at_, x.len, q, t⟩ x.seq x.to)) from rfl, lay_spot hm.ris n1 (show (⟨x.at_, x.len, q, t⟩ : Xt).at_ ≤ (⟨x.at_, x.len, q, t⟩ : Xt).fin from hab) n2]
    by_cases hc : x.at_ ≤ i ∧ i < x.fin
    · rw [if_pos (show (⟨x.at_, x.len, q, t⟩ : Xt).at_ ≤ i ∧ i < (⟨x.at_, x.len, q, t⟩ : Xt).fin from hc), mv_spot ⟨x.at_, x.len, q, t⟩ x.seq x.to (fun y hy => (was_in hm.ris y hy).1) hc.1, was_spot hm.ris, if_pos (show (⟨x.at_, x.len, q, t⟩ : Xt).at_ ≤ i ∧ i < (⟨x.at_, x.len, q, t⟩ : Xt).fin from hc), hs2 i hc]
      by_cases hs : spot l i = some (x.seq, x.to + (i - x.at_))
      · rw [if_pos hs, if_pos rfl, hs]
      · rw [if_neg hs, if_neg]
        intro e
        exact hsp i _ e rfl
    · rw [if_neg (show ¬ ((⟨x.at_, x.len, q, t⟩ : Xt).at_ ≤ i ∧ i < (⟨x.at_, x.len, q, t⟩ : Xt).fin) from hc), hs3 i hc]
  · rw [lens_cnt (n := x.fin) (filter_ris _ hw2) (fun y hy => (was_in hm.ris y ((List.mem_filter.1 hy).1)).2.1), lens_cnt (n := x.fin) (filter_ris _ hw) (fun y hy => (was_in hl.ris y ((List.mem_filter.1 hy).1)).2.1)]
    refine cnt_congr fun i hi => ?_
    by_cases hc : x.at_ ≤ i
    · rw [filter_spot x hw (fun y hy => (was_in hl.ris y hy).1) hc, filter_spot ⟨x.at_, x.len, q, t⟩ hw2 (fun y hy => (was_in hm.ris y hy).1) hc, was_spot hl.ris, was_spot hm.ris, if_pos ⟨hc, hi⟩, if_pos ⟨hc, hi⟩, hs2 i ⟨hc, hi⟩]
      by_cases hs : spot l i = some (x.seq, x.to + (i - x.at_))
      · rw [if_pos hs, decide_eq_true hs, decide_eq_true rfl]
      · rw [if_neg hs, decide_eq_false hs, decide_eq_false]
        intro e
        exact hsp i _ e rfl
    · rw [spot_out (l := (wasL l x.at_ x.fin).filter (hitX x)) (fun y hy => by have := was_in hl.ris y ((List.mem_filter.1 hy).1); omega), spot_out (l := (wasL (mvL l x q t) x.at_ x.fin).filter (hitX ⟨x.at_, x.len, q, t⟩)) (fun y hy => by have := was_in hm.ris y ((List.mem_filter.1 hy).1); omega)]

end Wi
end Go.Proofs.Ytjbgojccfkmlnaa
