/- Answers of calls, kept in a list; a bucket, its copy and the document's bucket side by side. -/
import Derived.Test.YthnhapjjgaicdaaRl
import Derived.Test.YthnhapjjgaicdaaRj
namespace Go.Proofs.Ythnhapjjgaicdaa
open Go.RowKit
namespace Wi

/-- One thing is a part of another. -/
def Th.Le (A B : Th) : Prop := ∀ w X, A w X → ∃ Y, B w Y ∧ ∀ k, Y k → X k
theorem Th.Le.refl (A : Th) : A.Le A := fun _ X h => ⟨X, h, fun _ => id⟩
theorem Th.Le.trans {A B C : Th} (h : A.Le B) (g : B.Le C) : A.Le C := fun w X hx => by
  obtain ⟨Y, h1, h2⟩ := h w X hx
  obtain ⟨Z, g1, g2⟩ := g w Y h1
  exact ⟨Z, g1, fun k hk => h2 k (g2 k hk)⟩
theorem Th.Le.fst (A B : Th) : (A.and B).Le A := fun _ _ ⟨X, _, h1, _, _, h4⟩ => ⟨X, h1, fun k hk => (h4 k).2 (.inl hk)⟩
theorem Th.Le.snd (A B : Th) : (A.and B).Le B := fun _ _ ⟨_, Y, _, h2, _, h4⟩ => ⟨Y, h2, fun k hk => (h4 k).2 (.inr hk)⟩
theorem Th.Le.swap (A B : Th) : (A.and B).Le (B.and A) := fun _ _ ⟨X, Y, h1, h2, h3, h4⟩ => ⟨fun k => Y k ∨ X k, ⟨Y, X, h2, h1, fun k hy hx => h3 k hx hy, fun _ => Iff.rfl⟩, fun k hk => (h4 k).2 hk.symm⟩
theorem Th.Le.mono {A B C D : Th} (h : A.Le C) (g : B.Le D) : (A.and B).Le (C.and D) := fun w _ ⟨X, Y, h1, h2, h3, h4⟩ => by
  obtain ⟨X', a1, a2⟩ := h w X h1
  obtain ⟨Y', b1, b2⟩ := g w Y h2
  exact ⟨fun k => X' k ∨ Y' k, ⟨X', Y', a1, b1, fun k hx hy => h3 k (a2 k hx) (b2 k hy), fun _ => Iff.rfl⟩, fun k hk => (h4 k).2 (hk.imp (a2 k) (b2 k))⟩
theorem Th.Le.rot (A B C : Th) : (A.and (B.and C)).Le (B.and (A.and C)) := fun _ _ ⟨X, _, h1, ⟨Y, V, k1, k2, k3, k4⟩, h3, h4⟩ =>
  ⟨fun k => Y k ∨ X k ∨ V k, ⟨Y, fun k => X k ∨ V k, k1, ⟨X, V, h1, k2, fun k hx hv => h3 k hx ((k4 k).2 (.inr hv)), fun _ => Iff.rfl⟩, fun k hy hz => hz.elim (fun hx => h3 k hx ((k4 k).2 (.inl hy))) (k3 k hy), fun _ => Iff.rfl⟩, fun k hk => (h4 k).2 (hk.elim (fun e => .inr ((k4 k).2 (.inl e))) fun e => e.imp id fun e => (k4 k).2 (.inr e))⟩
theorem Th.Le.left (A B C : Th) : (A.and (B.and C)).Le ((A.and B).and C) := fun _ _ ⟨X, _, h1, ⟨Y, V, k1, k2, k3, k4⟩, h3, h4⟩ =>
  ⟨fun k => (X k ∨ Y k) ∨ V k, ⟨fun k => X k ∨ Y k, V, ⟨X, Y, h1, k1, fun k hx hy => h3 k hx ((k4 k).2 (.inl hy)), fun _ => Iff.rfl⟩, k2, fun k hz hv => hz.elim (fun hx => h3 k hx ((k4 k).2 (.inr hv))) fun hy => k3 k hy hv, fun _ => Iff.rfl⟩, fun k hk => (h4 k).2 (hk.elim (fun e => e.imp id fun e => (k4 k).2 (.inl e)) fun e => .inr ((k4 k).2 (.inr e)))⟩
theorem Th.Le.right (A B C : Th) : ((A.and B).and C).Le (A.and (B.and C)) := fun _ _ ⟨_, V, ⟨X, Y, h1, k1, k3, k4⟩, k2, h3, h4⟩ =>
  ⟨fun k => X k ∨ Y k ∨ V k, ⟨X, fun k => Y k ∨ V k, h1, ⟨Y, V, k1, k2, fun k hy hv => h3 k ((k4 k).2 (.inr hy)) hv, fun _ => Iff.rfl⟩, fun k hx hz => hz.elim (k3 k hx) (h3 k ((k4 k).2 (.inl hx))), fun _ => Iff.rfl⟩, fun k hk => (h4 k).2 (hk.elim (fun e => .inl ((k4 k).2 (.inl e))) fun e => e.elim (fun e => .inl ((k4 k).2 (.inr e))) .inr)⟩
theorem Mine.le {W w : World} {A B : Th} (hl : A.Le B) (h : Mine W w A) : Mine W w B := by
  obtain ⟨X, h1, h2, h3⟩ := h
  obtain ⟨Y, g1, g2⟩ := hl w X h1
  exact ⟨Y, g1, fun k hk => h2 k (g2 k hk), h3⟩
/-- An answer, with where its list lies. -/
structure Gt where
  S : ByteArray
  N : Int
  L : List ByteArray
  E : Int
  a : Option Addr
  n : Nat
  c : Nat
def Gt.cells (g : Gt) : List Value := [.string g.S, .int .i64 g.N, .slice g.a g.n g.c, .int .i64 g.E]
def encGt (l : List Gt) : List Value := l.flatMap Gt.cells
theorem encGt_snoc (l : List Gt) (g : Gt) : encGt (l ++ [g]) = encGt l ++ g.cells := by simp [encGt]
theorem encGt_get : ∀ {l : List Gt} {i : Nat} {g : Gt} {j : Nat} {u : Value}, l[i]? = some g → g.cells[j]? = some u → (encGt l)[i * 4 + j]? = some u
  | [], _, _, _, _, h, _ => by simp at h
  | x :: r, 0, g, j, u, h, hj => by
    simp only [List.getElem?_cons_zero, Option.some.injEq] at h
    subst h
    have hl : j < x.cells.length := (List.getElem?_eq_some_iff.1 hj).1
    show (x.cells ++ encGt r)[0 * 4 + j]? = _
    rw [Nat.zero_mul, Nat.zero_add, List.getElem?_append_left hl, hj]
  | x :: r, i + 1, g, j, u, h, hj => by
    simp only [List.getElem?_cons_succ] at h
    have ih := encGt_get h hj
    show (x.cells ++ encGt r)[(i + 1) * 4 + j]? = _
    rw [show (i + 1) * 4 + j = x.cells.length + (i * 4 + j) by show _ = 4 + _; omega, List.getElem?_append_right (by omega), Nat.add_sub_cancel_left]
    exact ih
/-- A list of answers. -/
def gotsT (v : Value) (G : List Gt) : Th := fun w X => Rw w 38 4 v G.length (encGt G) ∧ (∀ k, v.ownBlock = some k → X k) ∧ (∀ g ∈ G, g.n = g.L.length ∧ Rw w 9 1 (.slice g.a g.n g.c) g.L.length (encN g.L) ∧ ∀ k, (Value.slice g.a g.n g.c).ownBlock = some k → X k ∧ v.ownBlock ≠ some k) ∧ ∀ k, X k → k < w.heap.size
theorem gotsT_good (v : Value) (G : List Gt) : (gotsT v G).Good :=
  ⟨fun ⟨h1, h2, h3, h4⟩ k hx => ⟨h1.keep k fun i hi => hx i (h2 i hi), h2, fun g hg => ⟨(h3 g hg).1, (h3 g hg).2.1.keep k fun i hi => hx i ((h3 g hg).2.2 i hi).1, (h3 g hg).2.2⟩, fun i hi => Nat.lt_of_lt_of_le (h4 i hi) k.size⟩, fun ⟨_, _, _, h4⟩ => h4⟩
theorem gots_nil (w : World) : ∃ X, gotsT (.slice none 0 0) [] w X ∧ ∀ k, X k → w.heap.size ≤ k :=
  ⟨fun _ => False, ⟨Rw.nil _ _ _, by simp [Value.ownBlock], by simp, fun _ h => h.elim⟩, fun _ h => h.elim⟩
theorem gots_grow {w w3 : World} {v v2 : Value} {G : List Gt} {g : Gt} {X : Nat → Prop} (h : ((lsT (.slice g.a g.n g.c) g.L).and (gotsT v G)) w X) (hn : g.n = g.L.length) (g1 : Rw w3 38 4 v2 (G.length + 1) (encGt G ++ g.cells)) (g2 : w.grownBy w3 v.ownBlock) (g3 : Moved w v v2) : LeftT (gotsT v2 (G ++ [g])) w X w3 := by
  obtain ⟨Xl, Xg, ⟨l1, rfl⟩, ⟨h1, h2, h3, h4⟩, hd, hX⟩ := h
  have hk : Keep (fun k => v.ownBlock = some k) w w3 := Keep.grown g2 fun _ e => e
  have hlt : ∀ k, (Value.slice g.a g.n g.c).ownBlock = some k → k < w.heap.size := l1.lt
  have own : ∀ k, v2.ownBlock = some k → X k ∨ w.heap.size ≤ k := fun k e => by
    rcases g3 with m | m
    · exact .inl ((hX k).2 (.inr (h2 k (m ▸ e))))
    · exact .inr (m k e)
  have apart : ∀ k, (∀ j, v.ownBlock = some j → j ≠ k) → k < w.heap.size → v2.ownBlock ≠ some k := fun k hne hkl e => by
    rcases g3 with m | m
    · exact hne k (m ▸ e) rfl
    · exact Nat.lt_irrefl _ (Nat.lt_of_lt_of_le hkl (m k e))
  refine ⟨fun k => v2.ownBlock = some k ∨ X k, ⟨by rw [List.length_append, encGt_snoc]; exact g1, fun k e => .inl e, fun p hp => ?_, fun k e => ?_⟩, Keep.grown g2 fun k e => (hX k).2 (.inr (h2 k e)), fun k e => e.elim (own k) .inl⟩
  · rcases List.mem_append.1 hp with hp | hp
    · obtain ⟨q1, q2, q3⟩ := h3 p hp
      exact ⟨q1, q2.keep hk fun i hi e => (q3 i hi).2 e, fun k e => ⟨.inr ((hX k).2 (.inr (q3 k e).1)), apart k (fun j hj hjk => (q3 k e).2 (hjk ▸ hj)) (h4 k (q3 k e).1)⟩⟩
    · rw [List.mem_singleton] at hp
      subst hp
      exact ⟨hn, l1.keep hk fun i hi e => hd i hi (h2 i e), fun k e => ⟨.inr ((hX k).2 (.inl e)), apart k (fun j hj hjk => hd k e (h2 k (hjk ▸ hj))) (hlt k e)⟩⟩
  · rcases e with e | e
    · exact g1.lt k e
    · rcases (hX k).1 e with e | e
      · exact Nat.lt_of_lt_of_le (hlt k e) hk.size
      · exact Nat.lt_of_lt_of_le (h4 k e) hk.size
/-- One row of cells. -/
def boxT (p : Nat) (cs : Array Value) (t : TypeId) : Th := fun w X => w.heap[p]? = some (.cells cs t (0, 0)) ∧ X = fun k => k = p
theorem boxT_good (p : Nat) (cs : Array Value) (t : TypeId) : (boxT p cs t).Good :=
  ⟨fun ⟨h1, h2⟩ k hx => by subst h2; exact ⟨(k.block p (lt_of_block h1) (hx p rfl)).trans h1, rfl⟩, fun ⟨h1, h2⟩ k hk => by subst h2; rw [hk]; exact lt_of_block h1⟩
section
variable {W w : World} {b r : Nat} {d : Bk} {k : Nat} {o : OpV} {n : Nat} {R : Th}
theorem gen_does (hR : R.Good) (h : Mine W w ((bkT b d).and R)) (hF : Fine k d) (hk : k ≤ 1000) (ho : OpOk W (fun _ => False) o) (hg : ¬ badO o) (hn : (d.stepL o).length = n) :
    Calls Try.prog 15 #[.pointer (some ⟨b, 0, none⟩), .agg o.cells.toArray] w fun e w' => ∃ va vc, e = .returned (.agg #[.string (d.stepS o), .int .i64 (d.stepN o : Nat), .slice va n vc, .int .i64 (d.stepE o)]) ∧ Mine W w' (((lsT (.slice va n vc) (d.stepL o)).and (bkT b (d.step o))).and R) := by
  have s1 := hF.few
  have s2 := hF.fates
  obtain ⟨X, hT, hX, hgo⟩ := h.go hR
  refine (does_any hT (by omega) (by omega) hF.sizes o (ho.to h.below hX) (by unfold badO at hg; omega)).mono ?_
  rintro e w' ⟨v, rfl, hd⟩
  have hf : ∃ a c, v = .slice a n c := by
    obtain ⟨_, _, _, _, hr, _⟩ := hd
    have := hr.form
    rw [hn] at this
    exact this
  obtain ⟨va, vc, rfl⟩ := hf
  exact ⟨va, vc, rfl, hgo hd.t.ls⟩
theorem gen_asked (hR : R.Good) (h : Mine W w ((refT r d).and R)) (hF : Fine k d) (hD : Fd d) (hk : k ≤ 1000) (ho : OpOk W (fun _ => False) o) (hg : ¬ badO o) (hn : (d.stepL o).length = n) :
    Calls Try.prog 16 #[.pointer (some ⟨r, 0, none⟩), .agg o.cells.toArray] w fun e w' => ∃ ua uc, e = .returned (.agg #[.string (d.stepS o), .int .i64 (d.stepN o : Nat), .slice ua n uc, .int .i64 (d.stepE o)]) ∧ Mine W w' (((lsT (.slice ua n uc) (d.stepL o)).and (refT r (d.step o))).and R) := by
  have s1 := hF.few
  have s2 := hF.fates
  obtain ⟨X, hT, hX, hgo⟩ := h.go hR
  refine (asked_any hT (by omega) (by omega) hF.sizes hD o (ho.to h.below hX) (by unfold badO at hg; omega)).mono ?_
  rintro e w' ⟨v, rfl, hd⟩
  have hf : ∃ a c, v = .slice a n c := by
    obtain ⟨_, _, _, _, hr, _⟩ := hd
    have := hr.form
    rw [hn] at this
    exact this
  obtain ⟨va, vc, rfl⟩ := hf
  exact ⟨va, vc, rfl, hgo hd.ls⟩
end
/-- A bucket behind calls. -/
def runs (d : Bk) (l : List OpV) : Bk := l.foldl Bk.step d
theorem runs_take {d : Bk} {l : List OpV} {k : Nat} {o : OpV} (h : l[k]? = some o) : runs d (l.take (k + 1)) = (runs d (l.take k)).step o := by
  unfold runs
  rw [snoc_take _ _ _ h, List.foldl_append]
  rfl
theorem runs_fine {W : World} {d : Bk} {l : List OpV} {m : Nat} (hF : Fine m d) (hD : Fd d) (hl : ∀ o ∈ l, OpOk W (fun _ => False) o ∧ ¬ badO o) : ∀ k, k ≤ l.length → Fine (m + k) (runs d (l.take k)) ∧ Fd (runs d (l.take k))
  | 0, _ => ⟨hF, hD⟩
  | k + 1, h => by
    obtain ⟨h1, h2⟩ := runs_fine hF hD hl k (by omega)
    obtain ⟨o, ho⟩ : ∃ o, l[k]? = some o := ⟨_, List.getElem?_eq_getElem (by omega)⟩
    obtain ⟨g1, g2⟩ := hl o (List.mem_of_getElem? ho)
    rw [runs_take ho]
    exact ⟨h1.step g1 g2, h2.step h1.ok o⟩
/-- The answers are those of the calls. -/
def Told (d : Bk) (l : List OpV) (G : List Gt) : Prop := ∀ (i : Nat) (o : OpV) (g : Gt), l[i]? = some o → G[i]? = some g → g.S = (runs d (l.take i)).stepS o ∧ g.N = ((runs d (l.take i)).stepN o : Nat) ∧ g.L = (runs d (l.take i)).stepL o ∧ g.E = (runs d (l.take i)).stepE o
theorem Told.snoc {d : Bk} {l : List OpV} {G : List Gt} {o : OpV} {g : Gt} (h : Told d l G) (ho : l[G.length]? = some o) (h1 : g.S = (runs d (l.take G.length)).stepS o) (h2 : g.N = ((runs d (l.take G.length)).stepN o : Nat)) (h3 : g.L = (runs d (l.take G.length)).stepL o) (h4 : g.E = (runs d (l.take G.length)).stepE o) : Told d l (G ++ [g]) := fun i o' g' hi hg => by
  rcases Nat.lt_or_ge i G.length with hlt | hge
  · rw [List.getElem?_append_left hlt] at hg
    exact h i o' g' hi hg
  · have hlen := (List.getElem?_eq_some_iff.1 hg).1
    rw [List.length_append, List.length_singleton] at hlen
    obtain rfl : i = G.length := by omega
    rw [List.getElem?_append_right (Nat.le_refl _), Nat.sub_self] at hg
    simp only [List.getElem?_cons_zero, Option.some.injEq] at hg
    subst hg
    rw [ho] at hi
    injection hi with hi
    subst hi
    exact ⟨h1, h2, h3, h4⟩

end Wi
end Go.Proofs.Ythnhapjjgaicdaa
