/- Extents that are handed in; what is found; things that are left, step by step. -/
import Derived.Test.YtjbgojccfkmlnaaWu
namespace Go.Proofs.Ytjbgojccfkmlnaa
open Go.RowKit
namespace Wi

/-- An extent that is handed in: any numbers. -/
structure Ix where
  a : Int
  n : Int
  q : Int
  t : Int
def Ix.may (x : Ix) : Bool := mayX x.a x.n x.q x.t
def Ix.mays (x : Ix) : Bool := mayS x.a x.n
def Ix.x (x : Ix) : Xt := ⟨x.a.toNat, x.n.toNat, x.q.toNat, x.t.toNat⟩
structure Ix.Rng (x : Ix) : Prop where
  a : I64 x.a
  n : I64 x.n
  q : I64 x.q
  t : I64 x.t
/-- A slice's memory holds these. -/
structure Es (w : World) (a : Option Addr) (n : Nat) (xs : List Ix) : Prop where
  len : n = xs.length
  most : n ≤ 9223372036854775807
  rng : ∀ x ∈ xs, x.Rng
  cells : ∀ i x, xs[i]? = some x → ∃ g off, a = some ⟨g, off, none⟩ ∧ g < w.heap.size ∧ w.cell? ⟨g, off + i * 4, none⟩ = some (.int .i64 x.a) ∧ w.cell? ⟨g, off + i * 4 + 1, none⟩ = some (.int .i64 x.n) ∧ w.cell? ⟨g, off + i * 4 + 2, none⟩ = some (.int .i64 x.q) ∧ w.cell? ⟨g, off + i * 4 + 3, none⟩ = some (.int .i64 x.t)
theorem Es.later {w w' : World} {a : Option Addr} {n : Nat} {xs : List Ix} (h : Es w a n xs) (hb : Below w.heap.size w w') : Es w' a n xs :=
  ⟨h.len, h.most, h.rng, fun i x hi => by
    obtain ⟨g, off, ha, hg, c0, c1, c2, c3⟩ := h.cells i x hi
    exact ⟨g, off, ha, Nat.lt_of_lt_of_le hg hb.size, (hb.cell (p := ⟨g, _, none⟩) hg).trans c0, (hb.cell (p := ⟨g, _, none⟩) hg).trans c1, (hb.cell (p := ⟨g, _, none⟩) hg).trans c2, (hb.cell (p := ⟨g, _, none⟩) hg).trans c3⟩⟩
/-- Extents of the program's own, handed in. -/
def Xt.ix (x : Xt) : Ix := ⟨x.at_, x.len, x.seq, x.to⟩
theorem Xt.ix_x (x : Xt) : x.ix.x = x := by
  obtain ⟨a, n, q, t⟩ := x
  simp [Xt.ix, Ix.x]
theorem Ix.x_ix {x : Ix} (h : x.may = true) : x.x.ix = x := by
  obtain ⟨a, n, q, t⟩ := x
  unfold Ix.may mayX mayS mayP at h
  simp at h
  simp [Xt.ix, Ix.x]
  omega
theorem Ix.sm {x : Ix} (h : x.may = true) : x.x.Sm ∧ 1 ≤ x.x.len := by
  obtain ⟨a, n, q, t⟩ := x
  unfold Ix.may mayX mayS mayP at h
  simp at h
  unfold Xt.Sm Xt.fin Ix.x
  simp
  omega
theorem LeftT.step {A B : Th} {w w1 w2 : World} {X : Nat → Prop} (h : LeftT A w X w1) (hs : ∀ X1, A w1 X1 → LeftT B w1 X1 w2) : LeftT B w X w2 := by
  obtain ⟨X1, h1, h2, h3⟩ := h
  obtain ⟨X2, k1, k2, k3⟩ := hs X1 h1
  refine ⟨X2, k1, h2.trans k2 fun k hk e => ?_, fun k hk => ?_⟩
  · rcases h3 k e with e2 | e2
    · exact e2
    · omega
  · rcases k3 k hk with e | e
    · exact h3 k e
    · exact .inr (Nat.le_trans h2.size e)
theorem LeftT.frame {A B C : Th} (hB : B.Good) {w w' : World} {Z : Nat → Prop} (h : (A.and B) w Z) (hs : ∀ X, A w X → LeftT C w X w') : LeftT (C.and B) w Z w' := by
  obtain ⟨X, Y, h1, h2, h3, h4⟩ := h
  obtain ⟨X', k1, k2, k3⟩ := hs X h1
  refine ⟨fun k => X' k ∨ Y k, ⟨X', Y, k1, hB.keep h2 k2 fun i hi hx => h3 i hx hi, fun k hx hy => ?_, fun k => Iff.rfl⟩, ⟨k2.os, k2.tape, k2.output, k2.size, fun k hk hn => k2.block k hk fun e => hn ((h4 k).2 (.inl e))⟩, fun k hk => ?_⟩
  · rcases k3 k hx with e | e
    · exact h3 k e hy
    · exact Nat.lt_irrefl _ (Nat.lt_of_lt_of_le (hB.lt h2 k hy) e)
  · rcases hk with e | e
    · rcases k3 k e with e2 | e2
      · exact .inl ((h4 k).2 (.inl e2))
      · exact .inr e2
    · exact .inl ((h4 k).2 (.inr e))
theorem LeftT.refl {A : Th} {w : World} {X : Nat → Prop} (h : A w X) : LeftT A w X w := ⟨X, h, Keep.refl _ _, fun _ e => .inl e⟩
theorem LeftT.mono {A B : Th} {w w' : World} {X : Nat → Prop} (h : LeftT A w X w') (hs : ∀ Y, A w' Y → ∃ Z, B w' Z ∧ ∀ k, Z k → Y k) : LeftT B w X w' := by
  obtain ⟨X1, h1, h2, h3⟩ := h
  obtain ⟨Z, k1, k2⟩ := hs X1 h1
  exact ⟨Z, k1, h2, fun k hk => h3 k (k2 k hk)⟩
/-- A list grows by another one; a third thing lies by. -/
theorem append_step {M : Th} (hM : M.Good) {w w' : World} {f f' v : Value} {acc l : List Xt} {X : Nat → Prop} (h : ((M.and (listT v l)).and (listT f acc)) w X) (g1 : Rw w' 40 4 f' (acc.length + l.length) (encXs acc ++ encXs l)) (g2 : w.grownBy w' f.ownBlock) (g3 : Moved w f f') : LeftT (M.and (listT f' (acc ++ l))) w X w' := by
  obtain ⟨XY, F, ⟨XM, XV, h1, h2, h3, h4⟩, hf, h5, h6⟩ := h
  have hk : Keep F w w' := Keep.grown g2 fun k hk => (hf.2 k).2 hk
  have hx : Xs w' f' (acc ++ l) := by
    unfold Xs
    rw [encXs_append, List.length_append]
    exact g1
  refine ⟨fun k => XM k ∨ f'.ownBlock = some k, ⟨XM, _, hM.keep h1 hk fun i hi hF => h5 i ((h4 i).2 (.inl hi)) hF, ⟨hx, fun k => Iff.rfl⟩, fun k hm hF => ?_, fun k => Iff.rfl⟩, ⟨hk.os, hk.tape, hk.output, hk.size, fun k hk' hn => hk.block k hk' fun e => hn ((h6 k).2 (.inr e))⟩, fun k hk' => ?_⟩
  · rcases g3 with e | e
    · exact h5 k ((h4 k).2 (.inl hm)) ((hf.2 k).2 (e ▸ hF))
    · have := e k hF
      have := hM.lt h1 k hm
      omega
  · rcases hk' with e | e
    · exact .inl ((h6 k).2 (.inl ((h4 k).2 (.inl e))))
    · rcases g3 with e2 | e2
      · exact .inl ((h6 k).2 (.inr ((hf.2 k).2 (e2 ▸ e))))
      · exact .inr (e2 k e)
theorem listT_nil {w : World} : listT (.slice none 0 0) [] w (fun _ => False) := ⟨Xs.nil _, fun k => by simp [Value.ownBlock]⟩
theorem start_list {M : Th} {w : World} {X : Nat → Prop} (h : M w X) : LeftT (M.and (listT (.slice none 0 0) [])) w X w :=
  ⟨X, ⟨X, fun _ => False, h, listT_nil, fun _ _ => id, fun k => by simp⟩, Keep.refl _ _, fun _ e => .inl e⟩
theorem mayS_nat {a n : Int} (h : mayS a n = true) : a = (a.toNat : Nat) ∧ n = (n.toNat : Nat) ∧ 1 ≤ n.toNat ∧ a.toNat + n.toNat ≤ 65536 := by
  unfold mayS at h
  simp at h
  omega
theorem find_no {w : World} {b : Nat} {v : Value} {l : List Xt} (_h : RawM w b v l) (a n : Int) (ha : I64 a) (hn : I64 n) (hm : mayS a n = false) : Calls Try.prog 19 #[.pointer (some ⟨b, 0, none⟩), .agg #[.int .i64 a, .int .i64 n]] w fun e w' => e = .returned (.tuple #[.slice none 0 0, .int .i64 1]) ∧ Below w.heap.size w w' := by
  have hb := below_alloc w (.cells #[.int .i64 a, .int .i64 n] 38)
  have hc := spanmay_any a n ha hn (w.alloc (.cells #[.int .i64 a, .int .i64 n] 38))
  rw [hm, show erB false = 1 from rfl] at hc
  have HB := hide hb
  clear _h hm hb
  go_enter Try.func19, Try.ntmps19
  go_wp2_with fail
  refine hc.mono ?_
  rintro e w1 ⟨rfl, hb1⟩
  have HB1 := hide (HB.out.trans (hb1.mono HB.out.size))
  clear hc hb1
  go_wp2
  go_ret2
  exact ⟨rfl, HB1.out⟩
theorem find_ok {w : World} {b : Nat} {v : Value} {l : List Xt} (h : RawM w b v l) (hF : Fit l) (a n : Nat) (h1 : 1 ≤ n) (h2 : a + n ≤ 65536) : Calls Try.prog 19 #[.pointer (some ⟨b, 0, none⟩), .agg #[.int .i64 (a : Nat), .int .i64 (n : Nat)]] w fun e w' => ∃ f, e = .returned (.tuple #[f, .int .i64 0]) ∧ Xs w' f (wasL l a (a + n)) ∧ From w.heap.size f ∧ Below w.heap.size w w' := by
  have hb := below_alloc w (.cells #[.int .i64 (a : Nat), .int .i64 (n : Nat)] 38)
  have hc := spanmay_any a n ⟨by omega, by omega⟩ ⟨by omega, by omega⟩ (w.alloc (.cells #[.int .i64 (a : Nat), .int .i64 (n : Nat)] 38))
  rw [show mayS a n = true by unfold mayS; simp; omega, show erB true = 0 from rfl] at hc
  have HB := hide hb
  have HW : Hid (∀ w', Below w.heap.size w w' → _) := fun w' (hb : Below w.heap.size w w') => within_any (h.later hb) hF.can.ris hF.sm (Nat.le_trans hF.len (by omega)) a n h1 h2
  clear h hF hb
  go_enter Try.func19, Try.ntmps19
  go_wp2_with fail
  refine hc.mono ?_
  rintro e w1 ⟨rfl, hb1⟩
  have HB1 := hide (HB.out.trans (hb1.mono HB.out.size))
  have hc2 := HW.out w1 HB1.out
  have c0 : w1.cell? ⟨w.heap.size, 0, none⟩ = some (.int .i64 (a : Nat)) := (hb1.cell (p := ⟨w.heap.size, 0, none⟩) (by simp)).trans (by rw [cell_of_row _ _ _ _ _ _ (heap_alloc_new w _)]; rfl)
  have c1 : w1.cell? ⟨w.heap.size, 1, none⟩ = some (.int .i64 (n : Nat)) := (hb1.cell (p := ⟨w.heap.size, 1, none⟩) (by simp)).trans (by rw [cell_of_row _ _ _ _ _ _ (heap_alloc_new w _)]; rfl)
  clear hc hb1
  go_wp2_with fail
  refine hc2.mono ?_
  rintro e w2 ⟨f, rfl, hf, hn, hb2⟩
  have HF := hide hf
  have HN : Hid (From w.heap.size f) := fun k hk => Nat.le_trans HB1.out.size (hn k hk)
  have HB2 := hide (HB1.out.trans (hb2.mono HB1.out.size))
  clear hc2 hb2 hf hn c0 c1
  go_wp2
  go_ret2
  exact ⟨_, rfl, HF.out, HN.out, HB2.out⟩

end Wi
end Go.Proofs.Ytjbgojccfkmlnaa
