/- A move: those extents of a span that are just there; no program but its numbers. -/
import Derived.Test.YtjbgojccfkmlnaaRe
import Derived.Test.YtjbgojccfkmlnaaRg
namespace Go.Proofs.Ytjbgojccfkmlnaa
open Go.RowKit
namespace Wi

/-- Is an extent just where another one tells its sectors to be? -/
def hitX (x y : Xt) : Bool := decide (y.seq = x.seq ∧ y.to = x.to + (y.at_ - x.at_))
def mvX (x : Xt) (q t : Nat) (y : Xt) : Xt := if hitX x y then ⟨y.at_, y.len, q, t + (y.at_ - x.at_)⟩ else y
theorem mvX_at (x : Xt) (q t : Nat) (y : Xt) : (mvX x q t y).at_ = y.at_ ∧ (mvX x q t y).len = y.len := by
  unfold mvX
  split <;> exact ⟨rfl, rfl⟩
theorem mv_ris (x : Xt) (q t : Nat) : ∀ {l : List Xt}, Ris l → Ris (l.map (mvX x q t))
  | [], _ => trivial
  | [y], h => by
    show 1 ≤ (mvX x q t y).len
    rw [(mvX_at x q t y).2]
    exact h
  | y :: z :: r, h => by
    refine ⟨?_, ?_, mv_ris (l := z :: r) x q t h.2.2⟩
    · rw [(mvX_at x q t y).2]; exact h.1
    · have h1 := mvX_at x q t y
      have h2 := mvX_at x q t z
      have h3 := h.2.1
      unfold Xt.fin at *
      rw [h1.1, h1.2, h2.1]
      exact h3
/-- What a move leaves of a sector. -/
theorem mv_spot (x : Xt) (q t : Nat) : ∀ {l : List Xt}, (∀ y ∈ l, x.at_ ≤ y.at_) → ∀ {i : Nat}, x.at_ ≤ i → spot (l.map (mvX x q t)) i = if spot l i = some (x.seq, x.to + (i - x.at_)) then some (q, t + (i - x.at_)) else spot l i
  | [], _, i, _ => by
    rw [if_neg (by simp [spot])]
    rfl
  | y :: r, h, i, hi => by
    have hy := h y (by simp)
    have ih := mv_spot x q t (l := r) (fun z hz => h z (by simp [hz])) hi
    have e1 := mvX_at x q t y
    rw [List.map_cons, spot, spot]
    unfold Xt.fin
    rw [e1.1, e1.2]
    by_cases hin : y.at_ ≤ i ∧ i < y.at_ + y.len
    · rw [if_pos hin, if_pos hin]
      unfold mvX
      by_cases hh : y.seq = x.seq ∧ y.to = x.to + (y.at_ - x.at_)
      · rw [show hitX x y = true from decide_eq_true hh, if_pos rfl]
        rw [if_pos (by rw [hh.1, hh.2]; congr 2; omega)]
        simp only
        congr 2
        omega
      · rw [show hitX x y = false from decide_eq_false hh, if_neg (by simp)]
        rw [if_neg (fun e => hh (by
          injection e with e
          injection e with e1 e2
          exact ⟨e1, by omega⟩))]
    · rw [if_neg hin, if_neg hin]
      exact ih
theorem filter_ris (p : Xt → Bool) : ∀ {l : List Xt}, Ris l → Ris (l.filter p)
  | [], _ => trivial
  | y :: r, h => by
    have ih := filter_ris p (l := r) h.tail
    rw [List.filter_cons]
    split
    · refine Ris.append (A := [y]) h.pos ih fun u hu v hv => ?_
      simp at hu
      subst hu
      exact h.first v (List.mem_filter.1 hv).1
    · exact ih
theorem filter_spot (x : Xt) : ∀ {l : List Xt}, Ris l → (∀ y ∈ l, x.at_ ≤ y.at_) → ∀ {i : Nat}, x.at_ ≤ i → (spot (l.filter (hitX x)) i).isSome = decide (spot l i = some (x.seq, x.to + (i - x.at_)))
  | [], _, _, i, _ => by simp [spot]
  | y :: r, hr, h, i, hi => by
    have hy := h y (by simp)
    have ih := filter_spot x (l := r) hr.tail (fun z hz => h z (by simp [hz])) hi
    rw [List.filter_cons]
    by_cases hin : y.at_ ≤ i ∧ i < y.fin
    · have hout : spot r i = none := spot_out fun z hz => .inl (by have := hr.first z hz; omega)
      have hout2 : spot (r.filter (hitX x)) i = none := spot_out fun z hz => .inl (by have := hr.first z (List.mem_filter.1 hz).1; omega)
      rw [spot_in (x := y) (r := r) hin.1 hin.2]
      by_cases hh : y.seq = x.seq ∧ y.to = x.to + (y.at_ - x.at_)
      · rw [show hitX x y = true from decide_eq_true hh, if_pos rfl, spot_in (x := y) hin.1 hin.2, decide_eq_true (by rw [hh.1, hh.2]; congr 2; omega)]
        rfl
      · rw [show hitX x y = false from decide_eq_false hh, if_neg (by simp), hout2, decide_eq_false (fun e => hh (by
          injection e with e
          injection e with e1 e2
          exact ⟨e1, by omega⟩))]
        rfl
    · have e2 : spot (y :: r) i = spot r i := by rw [spot, if_neg hin]
      rw [e2, ← ih]
      split
      · rw [spot, if_neg hin]
      · rfl
theorem cnt_win (p : Nat → Bool) (a m : Nat) : ∀ n, cnt (fun i => decide (a ≤ i ∧ i < a + m) && p i) n = cnt (fun j => p (a + j)) (min (n - a) m)
  | 0 => by simp [cnt]
  | n + 1 => by
    have ih := cnt_win p a m n
    show cnt (fun i => decide (a ≤ i ∧ i < a + m) && p i) n + (if (decide (a ≤ n ∧ n < a + m) && p n) = true then 1 else 0) = _
    rw [ih]
    by_cases h : a ≤ n ∧ n < a + m
    · rw [decide_eq_true h, Bool.true_and]
      rw [show min (n + 1 - a) m = min (n - a) m + 1 by omega]
      show _ = cnt (fun j => p (a + j)) (min (n - a) m) + if p (a + min (n - a) m) then 1 else 0
      rw [show a + min (n - a) m = n by omega]
    · rw [decide_eq_false h, Bool.false_and, show min (n + 1 - a) m = min (n - a) m by omega]
      simp
theorem moved_cnt (d : Rf) (x : Xt) : ∀ m, d.moved x m = cnt (fun j => d.there x (x.at_ + j)) m
  | 0 => rfl
  | m + 1 => by
    unfold Rf.moved cnt
    rw [moved_cnt d x m]
/-- As many sectors are moved as in the document's map. -/
theorem mv_count {l : List Xt} {d : Rf} {n : Nat} (hl : Can l) (h : Rel l d n) {x : Xt} (hx : x.fin ≤ n) : lens ((wasL l x.at_ x.fin).filter (hitX x)) = d.moved x x.len := by
  have hr := (was_can (a := x.at_) (b := x.fin) hl).ris
  have hin := was_in (a := x.at_) (b := x.fin) hl.ris
  have hat : ∀ y ∈ wasL l x.at_ x.fin, x.at_ ≤ y.at_ := fun y hy => (hin y hy).1
  rw [lens_cnt (n := n) (filter_ris _ hr) (fun y hy => Nat.le_trans (hin y (List.mem_filter.1 hy).1).2.1 hx), moved_cnt]
  have e : ∀ i, i < n → (spot ((wasL l x.at_ x.fin).filter (hitX x)) i).isSome = (decide (x.at_ ≤ i ∧ i < x.at_ + x.len) && d.there x i) := fun i hi => by
    by_cases h1 : x.at_ ≤ i
    · rw [filter_spot x hr hat h1, was_spot hl.ris]
      by_cases h2 : i < x.fin
      · rw [if_pos ⟨h1, h2⟩, h i, decide_eq_true (show x.at_ ≤ i ∧ i < x.at_ + x.len from ⟨h1, h2⟩), Bool.true_and]
        unfold Rf.there
        cases hd : d.is i with
        | true =>
          rw [if_pos ⟨hi, rfl⟩, Bool.true_and, ← Bool.decide_and]
          apply decide_eq_decide.2
          constructor
          · intro e
            injection e with e
            injection e with e1 e2
            exact ⟨e1, e2⟩
          · rintro ⟨e1, e2⟩
            rw [e1, e2]
        | false =>
          rw [if_neg (fun e => by cases e.2), Bool.false_and]
          simp
      · rw [if_neg (fun e => h2 e.2), decide_eq_false (show ¬ (x.at_ ≤ i ∧ i < x.at_ + x.len) from fun e => h2 e.2)]
        simp
    · rw [decide_eq_false (fun e => h1 e.1), Bool.false_and]
      rw [spot_out fun y hy => .inl (by have := hat y (List.mem_filter.1 hy).1; omega)]
      rfl
  rw [cnt_congr e, cnt_win]
  congr 1
  unfold Xt.fin at hx
  omega
def mvL (l : List Xt) (x : Xt) (q t : Nat) : List Xt := layL l x.at_ x.fin ((wasL l x.at_ x.fin).map (mvX x q t))
theorem mv_in {l : List Xt} (hl : Can l) (x : Xt) (q t : Nat) : Ris ((wasL l x.at_ x.fin).map (mvX x q t)) ∧ ∀ y ∈ (wasL l x.at_ x.fin).map (mvX x q t), x.at_ ≤ y.at_ ∧ y.fin ≤ x.fin := by
  refine ⟨mv_ris x q t (was_can hl).ris, fun y hy => ?_⟩
  obtain ⟨z, hz, rfl⟩ := List.mem_map.1 hy
  obtain ⟨h1, h2, _⟩ := was_in hl.ris z hz
  have := mvX_at x q t z
  unfold Xt.fin at *
  omega
/-- What a move leaves is what the document's map has then. -/
theorem mv_rel {l : List Xt} {d : Rf} {n : Nat} (hl : Can l) (h : Rel l d n) {x : Xt} (hx : x.fin ≤ n) (q t : Nat) : Rel (mvL l x q t) (d.moveN x q t x.len) n := fun i => by
  obtain ⟨h1, h2⟩ := mv_in hl x q t
  have hin := was_in (a := x.at_) (b := x.fin) hl.ris
  rw [mvL, lay_spot (b := x.fin) hl.ris h1 (Nat.le_add_right _ _) h2]
  have e1 : (d.moveN x q t x.len).is i = d.is i := rfl
  have e2 : (d.moveN x q t x.len).sq i = if d.hit x x.len i then q else d.sq i := rfl
  have e3 : (d.moveN x q t x.len).to i = if d.hit x x.len i then t + (i - x.at_) else d.to i := rfl
  rw [e1, e2, e3]
  by_cases hi : x.at_ ≤ i ∧ i < x.fin
  · rw [if_pos hi, mv_spot x q t (fun y hy => (hin y hy).1) hi.1, was_spot hl.ris, if_pos hi, h i]
    have hhit : d.hit x x.len i = d.there x i := by
      unfold Rf.hit
      rw [decide_eq_true (show x.at_ ≤ i ∧ i < x.at_ + x.len from hi), Bool.true_and]
    rw [hhit]
    unfold Rf.there
    cases hd : d.is i with
    | true =>
      have hin2 : i < n := by omega
      rw [if_pos (show i < n ∧ true = true from ⟨hin2, rfl⟩), Bool.true_and]
      by_cases hs : d.sq i = x.seq ∧ d.to i = x.to + (i - x.at_)
      · rw [if_pos (by rw [hs.1, hs.2]), decide_eq_true hs.1, decide_eq_true hs.2, if_pos (show i < n ∧ true = true from ⟨hin2, rfl⟩)]
        rfl
      · have hb : (decide (d.sq i = x.seq) && decide (d.to i = x.to + (i - x.at_))) = false := by
          rw [← Bool.decide_and]
          exact decide_eq_false hs
        rw [hb, if_neg (fun e => hs (by injection e with e; injection e with e1 e2; exact ⟨e1, e2⟩)), if_pos (show i < n ∧ true = true from ⟨hin2, rfl⟩)]
        rfl
    | false =>
      rw [if_neg (show ¬ (i < n ∧ false = true) from fun e => by cases e.2), if_neg (fun e => by cases e)]
      rw [if_neg (show ¬ (i < n ∧ false = true) from fun e => by cases e.2)]
  · have hhit : d.hit x x.len i = false := by
      unfold Rf.hit
      rw [decide_eq_false (show ¬ (x.at_ ≤ i ∧ i < x.at_ + x.len) from hi), Bool.false_and]
    rw [if_neg hi, h i, hhit]
    rfl

end Wi
end Go.Proofs.Ytjbgojccfkmlnaa
