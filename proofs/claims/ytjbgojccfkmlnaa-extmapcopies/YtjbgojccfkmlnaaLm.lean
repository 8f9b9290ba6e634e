/- The calls, each as what it leaves of all that is the call's own. -/
import Derived.Test.YtjbgojccfkmlnaaLf
import Derived.Test.YtjbgojccfkmlnaaYz
namespace Go.Proofs.Ytjbgojccfkmlnaa
open Go.RowKit
namespace Wi

theorem new_mine {W w : World} {A : Th} (hA : A.Good) (h : Mine W w A) : Calls Try.prog 10 #[] w fun e w' => ∃ b, e = .returned (.pointer (some ⟨b, 0, none⟩)) ∧ Mine W w' ((mapT b []).and A) :=
  (new_any w).mono fun e w' ⟨he, hR, hb⟩ => ⟨_, he, Mine.new hA h hb ⟨_, ⟨_, hR, fun _ => Iff.rfl⟩, fun k hk => by
    rcases hk with rfl | hk
    · exact Nat.le_refl _
    · simp [Value.ownBlock] at hk⟩⟩
theorem refnew_mine {W w : World} {A : Th} (hA : A.Good) (h : Mine W w A) : Calls Try.prog 13 #[.int .i64 300] w fun e w' => ∃ r, e = .returned (.pointer (some ⟨r, 0, none⟩)) ∧ Mine W w' ((refT r 300 rf0).and A) :=
  (refnew_any w).mono fun _e _w' ⟨r, X, he, hr, hge, hb⟩ => ⟨r, he, Mine.new hA h hb ⟨X, hr, hge⟩⟩
theorem copy_mine {W w : World} {b : Nat} {l : List Xt} {A : Th} (hA : A.Good) (h : Mine W w ((mapT b l).and A)) (hF : Fit l) : Calls Try.prog 16 #[.pointer (some ⟨b, 0, none⟩)] w fun e w' => ∃ c, e = .returned (.pointer (some ⟨c, 0, none⟩)) ∧ Mine W w' ((mapT c l).and ((mapT b l).and A)) := by
  obtain ⟨v, hv⟩ := h.raw
  exact (copy_any hv (Nat.le_trans hF.len (by omega))).mono fun e w' ⟨k, X, he, hk, hge, hb⟩ => ⟨k, he, Mine.new ((mapT_good _ _).and hA) h hb ⟨X, hk, hge⟩⟩
theorem all_mine {W w : World} {b : Nat} {l : List Xt} {A : Th} (hA : A.Good) (h : Mine W w ((mapT b l).and A)) (hF : Fit l) : Calls Try.prog 17 #[.pointer (some ⟨b, 0, none⟩)] w fun e w' => ∃ a c, e = .returned (.slice a l.length c) ∧ l.length ≤ c ∧ Mine W w' ((listT (.slice a l.length c) l).and ((mapT b l).and A)) := by
  obtain ⟨v, hv⟩ := h.raw
  refine (all_any hv (Nat.le_trans hF.len (by omega))).mono fun e w' ⟨v', he, hx, hfr, hb⟩ => ?_
  obtain ⟨a, c, rfl, hc, _⟩ := hx.len
  exact ⟨a, c, he, hc, Mine.new ((mapT_good _ _).and hA) h hb ⟨_, ⟨hx, fun _ => Iff.rfl⟩, hfr⟩⟩
theorem find_mine {W w : World} {b : Nat} {l : List Xt} {A : Th} (hA : A.Good) (h : Mine W w ((mapT b l).and A)) (hF : Fit l) (p m : Nat) (h1 : 1 ≤ m) (h2 : p + m ≤ 65536) : Calls Try.prog 19 #[.pointer (some ⟨b, 0, none⟩), .agg #[.int .i64 (p : Nat), .int .i64 (m : Nat)]] w fun e w' => ∃ a c, e = .returned (.tuple #[.slice a (wasL l p (p + m)).length c, .int .i64 0]) ∧ (wasL l p (p + m)).length ≤ c ∧ Mine W w' ((listT (.slice a (wasL l p (p + m)).length c) (wasL l p (p + m))).and ((mapT b l).and A)) := by
  obtain ⟨v, hv⟩ := h.raw
  refine (find_ok hv hF p m h1 h2).mono fun e w' ⟨v', he, hx, hfr, hb⟩ => ?_
  obtain ⟨a, c, rfl, hc, _⟩ := hx.len
  exact ⟨a, c, he, hc, Mine.new ((mapT_good _ _).and hA) h hb ⟨_, ⟨hx, fun _ => Iff.rfl⟩, hfr⟩⟩
theorem holes_mine {W w : World} {b : Nat} {l : List Xt} {A : Th} (hA : A.Good) (h : Mine W w ((mapT b l).and A)) (hF : Fit l) (p m : Nat) (h1 : 1 ≤ m) (h2 : p + m ≤ 65536) : Calls Try.prog 29 #[.pointer (some ⟨b, 0, none⟩), .agg #[.int .i64 (p : Nat), .int .i64 (m : Nat)]] w fun e w' => ∃ a ys c, e = .returned (.tuple #[.slice a ys.length c, .int .i64 0]) ∧ ys.length ≤ c ∧ Sp.setB ys = true ∧ (∀ i, Sp.wi ys i = true ↔ ∃ j : Nat, i = (j : Int) ∧ p ≤ j ∧ j < p + m ∧ spot l j = none) ∧ Mine W w' ((ownT (.slice a ys.length c) ys).and ((mapT b l).and A)) := by
  obtain ⟨v, hv⟩ := h.raw
  refine (holes_ok hv hF p m h1 h2).mono fun e w' ⟨v', ys, he, ho, hfr, hs, hw, hb⟩ => ?_
  obtain ⟨a, c, rfl, hc, _⟩ := ho.sl' (fun x hx => Sp.Fit.of_may (by
    have := Sp.allB_setB hs
    unfold Sp.allB at this
    rw [List.all_eq_true] at this
    exact this x hx))
  exact ⟨a, ys, c, he, hc, hs, hw, Mine.new ((mapT_good _ _).and hA) h hb ⟨_, ⟨ho, fun _ => Iff.rfl⟩, hfr⟩⟩
theorem move_mine {W w : World} {b : Nat} {l : List Xt} {A : Th} (hA : A.Good) (h : Mine W w ((mapT b l).and A)) (hF : Fit l) (xa xl xq xt q t : Nat) (hm : mayX xa xl xq xt = true) (hp : mayP q t = true) : Calls Try.prog 32 #[.pointer (some ⟨b, 0, none⟩), .agg #[.int .i64 (xa : Nat), .int .i64 (xl : Nat), .int .i64 (xq : Nat), .int .i64 (xt : Nat)], .agg #[.int .i64 (q : Nat), .int .i64 (t : Nat)]] w fun e w' => e = .returned (.tuple #[.int .i64 (lens ((wasL l xa (xa + xl)).filter (hitX ⟨xa, xl, xq, xt⟩)) : Nat), .int .i64 0]) ∧ Mine W w' ((mapT b (mvL l ⟨xa, xl, xq, xt⟩ q t)).and A) := by
  have hs := Ix.sm (x := ⟨xa, xl, xq, xt⟩) hm
  obtain ⟨_, _, hq, ht⟩ := mayP_nat hp
  obtain ⟨X, hX, _, hgo⟩ := Mine.go hA h
  exact (move_ok hX hF xa xl xq xt q t hs.1 hs.2 hm hp hq ht).mono fun e w' ⟨he, hl⟩ => ⟨he, hgo hl⟩
theorem same_mine {W w : World} {v u : Value} {l : List Xt} {A B : Th} (hA : Mine W w ((listT v l).and A)) (hB : Mine W w ((listT u l).and B)) (hn : l.length ≤ 1000000) {C : Th} (hC : C.Good) (h : Mine W w C) : Calls Try.prog 25 #[v, u] w fun e w' => e = .returned (.bool true) ∧ Mine W w' C :=
  (same_yes hA.xs hB.xs hn).mono fun _e _w' ⟨he, hb⟩ => ⟨he, Mine.later hC h hb⟩
theorem awake_mine {W w : World} {A : Th} (h : Mine W w A) : Calls Try.prog 12 #[] w fun e w' => e = .returned (.bool true) ∧ Below W.heap.size W w' :=
  (awake_any w).mono fun _e _w' ⟨he, hb⟩ => ⟨he, h.below.trans (hb.mono h.below.size)⟩
theorem few_mine {W w : World} {A : Th} (hA : A.Good) (h : Mine W w A) {a : Option Addr} {n cap : Nat} {os : List OpV} (ho : Os W a n os) (hn : n ≤ cap) : Calls Try.prog 11 #[.slice a n cap] w fun e w' => e = .returned (.bool (fewB os)) ∧ Mine W w' A :=
  (few_any (ho.later h.below) hn).mono fun _e _w' ⟨he, hb⟩ => ⟨he, Mine.later hA h hb⟩
theorem may_mine {W w : World} {A : Th} (hA : A.Good) (h : Mine W w A) (a n q t : Int) (ha : I64 a) (hn : I64 n) : Calls Try.prog 22 #[.agg #[.int .i64 a, .int .i64 n, .int .i64 q, .int .i64 t]] w fun e w' => e = .returned (.bool (mayX a n q t)) ∧ Mine W w' A :=
  (refmay_any a n q t ha hn w).mono fun _e _w' ⟨he, hb⟩ => ⟨he, Mine.later hA h hb⟩
theorem far_mine {W w : World} {A : Th} (hA : A.Good) (h : Mine W w A) (a n q t : Int) (ha : I64 a) (hn : I64 n) : Calls Try.prog 20 #[.agg #[.int .i64 a, .int .i64 n, .int .i64 q, .int .i64 t]] w fun e w' => e = .returned (.bool (farB a n)) ∧ Mine W w' A :=
  (far_any a n q t ha hn w).mono fun _e _w' ⟨he, hb⟩ => ⟨he, Mine.later hA h hb⟩
theorem place_mine {W w : World} {A : Th} (hA : A.Good) (h : Mine W w A) (q t : Int) : Calls Try.prog 31 #[.agg #[.int .i64 q, .int .i64 t]] w fun e w' => e = .returned (.bool (mayP q t)) ∧ Mine W w' A :=
  (refspot_any q t w).mono fun _e _w' ⟨he, hb⟩ => ⟨he, Mine.later hA h hb⟩
/-- The cells of a block that nobody writes. -/
theorem objX {W w : World} {k : Nat} {a n q t : Int} {A : Th} (h : Mine W w ((objT k (.cells #[.int .i64 a, .int .i64 n, .int .i64 q, .int .i64 t] 40)).and A)) : w.cell? ⟨k, 0, none⟩ = some (.int .i64 a) ∧ w.cell? ⟨k, 1, none⟩ = some (.int .i64 n) ∧ w.cell? ⟨k, 2, none⟩ = some (.int .i64 q) ∧ w.cell? ⟨k, 3, none⟩ = some (.int .i64 t) := by
  obtain ⟨_, ⟨_, _, h1, _⟩, _⟩ := h
  have hh := h1.1
  refine ⟨?_, ?_, ?_, ?_⟩ <;> (rw [cell_of_row _ _ _ _ _ _ hh]; rfl)
theorem objP {W w : World} {k : Nat} {q t : Int} {A : Th} (h : Mine W w ((objT k (.cells #[.int .i64 q, .int .i64 t] 32)).and A)) : w.cell? ⟨k, 0, none⟩ = some (.int .i64 q) ∧ w.cell? ⟨k, 1, none⟩ = some (.int .i64 t) := by
  obtain ⟨_, ⟨_, _, h1, _⟩, _⟩ := h
  have hh := h1.1
  refine ⟨?_, ?_⟩ <;> (rw [cell_of_row _ _ _ _ _ _ hh]; rfl)
/-- An extent that is handed in, may be, and is not too far. -/
theorem near_x {x : Ix} (h : x.may = true) (hf : farB x.a x.n = false) : ∃ y : Xt, x = y.ix ∧ y.ix.may = true ∧ y.Sm ∧ 1 ≤ y.len ∧ y.fin ≤ 300 := by
  have hs := Ix.sm h
  refine ⟨x.x, (Ix.x_ix h).symm, by rw [Ix.x_ix h]; exact h, hs.1, hs.2, ?_⟩
  have hm := may_mays h
  unfold farB at hf
  have hm2 : mayS x.a x.n = true := hm
  rw [hm2, Bool.true_and] at hf
  have h7 := of_decide_eq_false hf
  obtain ⟨h3, h4, h5, h6⟩ := mayS_nat hm2
  show x.a.toNat + x.n.toNat ≤ 300
  omega

end Wi
end Go.Proofs.Ytjbgojccfkmlnaa
