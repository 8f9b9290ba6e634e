/- A bucket, its copy and the document's bucket, call by call. -/
import Derived.Test.YthnhapjjgaicdaaRm
namespace Go.Proofs.Ythnhapjjgaicdaa
open Go.RowKit
namespace Wi

theorem Th.Le.mix (P A Q R : Th) : ((P.and A).and (Q.and R)).Le ((P.and Q).and (A.and R)) :=
  (Th.Le.right P A (Q.and R)).trans ((Th.Le.mono (Th.Le.refl P) (Th.Le.rot A Q R)).trans (Th.Le.left P Q (A.and R)))
section
variable {W w : World} {v : Value} {G : List Gt} {c b r : Nat} {dc d d' : Bk} {L : List ByteArray} {n : Nat} {va ua : Option Addr} {vc uc : Nat} {k : Nat} {o : OpV} {p : Nat} {cs : Array Value}
/-- The answers so far, the copy, the bucket and the document's. -/
def Q2 (W : World) (v : Value) (G : List Gt) (c b r : Nat) (dc d : Bk) (w : World) : Prop := Mine W w ((gotsT v G).and ((bkT c dc).and ((bkT b d).and (refT r d))))
/-- Behind a call of the copy. -/
def Q3 (W : World) (v : Value) (G : List Gt) (c b r : Nat) (dc d : Bk) (L : List ByteArray) (n : Nat) (va : Option Addr) (vc : Nat) (w : World) : Prop := Mine W w (((lsT (.slice va n vc) L).and (bkT c dc)).and ((gotsT v G).and ((bkT b d).and (refT r d))))
/-- Behind a call of the bucket. -/
def Q4 (W : World) (v : Value) (G : List Gt) (c b r : Nat) (dc d d' : Bk) (L : List ByteArray) (n : Nat) (va : Option Addr) (vc : Nat) (w : World) : Prop := Mine W w (((lsT (.slice va n vc) L).and (bkT b d')).and ((refT r d).and ((gotsT v G).and (bkT c dc))))
/-- Its answer lies in a place of its own. -/
def Q5 (W : World) (v : Value) (G : List Gt) (c b r : Nat) (dc d d' : Bk) (L : List ByteArray) (n : Nat) (va : Option Addr) (vc : Nat) (p : Nat) (cs : Array Value) (w : World) : Prop := Mine W w ((refT r d).and ((boxT p cs 38).and (((lsT (.slice va n vc) L).and (bkT b d')).and ((gotsT v G).and (bkT c dc)))))
/-- Behind a call of the document's. -/
def Q6 (W : World) (v : Value) (G : List Gt) (c b r : Nat) (dc d' : Bk) (L : List ByteArray) (n : Nat) (va : Option Addr) (vc : Nat) (p : Nat) (cs : Array Value) (ua : Option Addr) (uc : Nat) (w : World) : Prop := Mine W w (((lsT (.slice ua n uc) L).and (refT r d')).and ((boxT p cs 38).and (((lsT (.slice va n vc) L).and (bkT b d')).and ((gotsT v G).and (bkT c dc)))))
theorem Q2.below (h : Q2 W v G c b r dc d w) : Below W.heap.size W w := Mine.below h
theorem Q2.later {w' : World} (h : Q2 W v G c b r dc d w) (hb : Below w.heap.size w w') : Q2 W v G c b r dc d w' := Mine.later ((gotsT_good _ _).and ((bkT_good _ _).and ((bkT_good _ _).and (refT_good _ _)))) h hb
theorem Q3.below (h : Q3 W v G c b r dc d L n va vc w) : Below W.heap.size W w := Mine.below h
theorem Q3.later {w' : World} (h : Q3 W v G c b r dc d L n va vc w) (hb : Below w.heap.size w w') : Q3 W v G c b r dc d L n va vc w' := Mine.later (((lsT_good _ _).and (bkT_good _ _)).and ((gotsT_good _ _).and ((bkT_good _ _).and (refT_good _ _)))) h hb
theorem Q4.below (h : Q4 W v G c b r dc d d' L n va vc w) : Below W.heap.size W w := Mine.below h
theorem Q5.below (h : Q5 W v G c b r dc d d' L n va vc p cs w) : Below W.heap.size W w := Mine.below h
theorem rest_good : ((boxT p cs 38).and (((lsT (.slice va n vc) L).and (bkT b d')).and ((gotsT v G).and (bkT c dc)))).Good := (boxT_good _ _ _).and (((lsT_good _ _).and (bkT_good _ _)).and ((gotsT_good _ _).and (bkT_good _ _)))
theorem Q5.later {w' : World} (h : Q5 W v G c b r dc d d' L n va vc p cs w) (hb : Below w.heap.size w w') : Q5 W v G c b r dc d d' L n va vc p cs w' := Mine.later ((refT_good _ _).and rest_good) h hb
theorem Q6.later {w' : World} (h : Q6 W v G c b r dc d' L n va vc p cs ua uc w) (hb : Below w.heap.size w w') : Q6 W v G c b r dc d' L n va vc p cs ua uc w' := Mine.later (((lsT_good _ _).and (refT_good _ _)).and rest_good) h hb
theorem Q2.row (h : Q2 W v G c b r dc d w) : Rw w 38 4 v G.length (encGt G) := let ⟨_, ⟨_, _, h1, _⟩, _⟩ := h; h1.1
theorem Q3.row (h : Q3 W v G c b r dc d L n va vc w) : Rw w 38 4 v G.length (encGt G) := let ⟨_, ⟨_, _, _, ⟨_, _, h1, _⟩, _⟩, _⟩ := h; h1.1
theorem Q6.box (h : Q6 W v G c b r dc d' L n va vc p cs ua uc w) : w.heap[p]? = some (.cells cs 38 (0, 0)) := let ⟨_, ⟨_, _, _, ⟨_, _, h1, _⟩, _⟩, _⟩ := h; h1.1
theorem Q5.box (h : Q5 W v G c b r dc d d' L n va vc p cs w) : w.heap[p]? = some (.cells cs 38 (0, 0)) := let ⟨_, ⟨_, _, _, ⟨_, _, h1, _⟩, _⟩, _⟩ := h; h1.1
theorem Q6.row (h : Q6 W v G c b r dc d' L n va vc p cs ua uc w) : Rw w 38 4 v G.length (encGt G) := let ⟨_, ⟨_, _, _, ⟨_, _, _, ⟨_, _, _, ⟨_, _, h1, _⟩, _⟩, _⟩, _⟩, _⟩ := h; h1.1
theorem q2_does (h : Q2 W v G c b r dc d w) (hF : Fine k dc) (hk : k ≤ 1000) (ho : OpOk W (fun _ => False) o) (hg : ¬ badO o) (hn : (dc.stepL o).length = n) :
    Calls Try.prog 15 #[.pointer (some ⟨c, 0, none⟩), .agg o.cells.toArray] w fun e w' => ∃ va vc, e = .returned (.agg #[.string (dc.stepS o), .int .i64 (dc.stepN o : Nat), .slice va n vc, .int .i64 (dc.stepE o)]) ∧ Q3 W v G c b r (dc.step o) d (dc.stepL o) n va vc w' :=
  gen_does ((gotsT_good _ _).and ((bkT_good _ _).and (refT_good _ _))) (Mine.rot h) hF hk ho hg hn
theorem q3_grow {S : ByteArray} {N E : Int} {w2 w3 : World} {v2 : Value} (h : Q3 W v G c b r dc d L n va vc w) (hb : Below w.heap.size w w2) (hn : L.length = n) (g1 : Rw w3 38 4 v2 (G.length + 1) (encGt G ++ [.string S, .int .i64 N, .slice va n vc, .int .i64 E])) (g2 : w2.grownBy w3 v.ownBlock) (g3 : Moved w2 v v2) : Q2 W v2 (G ++ [⟨S, N, L, E, va, n, vc⟩]) c b r dc d w3 := by
  obtain ⟨X, hT, _, hgo⟩ := (Mine.le (Th.Le.mix _ _ _ _) h).go ((bkT_good _ _).and ((bkT_good _ _).and (refT_good _ _)))
  exact hgo (LeftT.first hb (gots_grow (g := ⟨S, N, L, E, va, n, vc⟩) (((lsT_good _ _).and (gotsT_good _ _)).later hT hb) hn.symm g1 g2 g3))
theorem q2_does_b (h : Q2 W v G c b r dc d w) (hF : Fine k d) (hk : k ≤ 1000) (ho : OpOk W (fun _ => False) o) (hg : ¬ badO o) (hn : (d.stepL o).length = n) :
    Calls Try.prog 15 #[.pointer (some ⟨b, 0, none⟩), .agg o.cells.toArray] w fun e w' => ∃ va vc, e = .returned (.agg #[.string (d.stepS o), .int .i64 (d.stepN o : Nat), .slice va n vc, .int .i64 (d.stepE o)]) ∧ Q4 W v G c b r dc d (d.step o) (d.stepL o) n va vc w' :=
  gen_does ((refT_good _ _).and ((gotsT_good _ _).and (bkT_good _ _))) (Mine.le ((Th.Le.left _ _ _).trans ((Th.Le.swap _ _).trans (Th.Le.right _ _ _))) h) hF hk ho hg hn
theorem q4_box (h : Q4 W v G c b r dc d d' L n va vc w) (cs : Array Value) : Q5 W v G c b r dc d d' L n va vc w.heap.size cs (w.alloc (.cells cs 38)) := by
  have hN : Mine W (w.alloc (.cells cs 38)) ((boxT w.heap.size cs 38).and _) := Mine.new (((lsT_good _ _).and (bkT_good _ _)).and ((refT_good _ _).and ((gotsT_good _ _).and (bkT_good _ _)))) h (below_alloc _ _) ⟨_, ⟨heap_alloc_new w _, rfl⟩, fun k hk => Nat.le_of_eq (Eq.symm hk)⟩
  exact Mine.le ((Th.Le.mono (Th.Le.refl _) (Th.Le.rot _ _ _)).trans (Th.Le.rot _ _ _)) hN
theorem q5_asked (h : Q5 W v G c b r dc d (d.step o) (d.stepL o) n va vc p cs w) (hF : Fine k d) (hD : Fd d) (hk : k ≤ 1000) (ho : OpOk W (fun _ => False) o) (hg : ¬ badO o) (hn : (d.stepL o).length = n) :
    Calls Try.prog 16 #[.pointer (some ⟨r, 0, none⟩), .agg o.cells.toArray] w fun e w' => ∃ ua uc, e = .returned (.agg #[.string (d.stepS o), .int .i64 (d.stepN o : Nat), .slice ua n uc, .int .i64 (d.stepE o)]) ∧ Q6 W v G c b r dc (d.step o) (d.stepL o) n va vc p cs ua uc w' :=
  gen_asked rest_good h hF hD hk ho hg hn
theorem q6_same (h : Q6 W v G c b r dc d' L n va vc p cs ua uc w) (hn : L.length = n) (hl : n ≤ 1000000) (S : ByteArray) (N E : Int) :
    Calls Try.prog 14 #[.agg #[.string S, .int .i64 N, .slice va n vc, .int .i64 E], .agg #[.string S, .int .i64 N, .slice ua n uc, .int .i64 E]] w fun e w' => e = .returned (.bool true) ∧ Q6 W v G c b r dc d' L n va vc p cs ua uc w' := by
  obtain ⟨_, ⟨_, _, ⟨_, _, h1, _⟩, ⟨_, _, _, ⟨_, _, ⟨_, _, h2, _⟩, _⟩, _⟩, _⟩, _⟩ := id h
  refine (same_same h2.1 h1.1 hn.symm hl S N E).mono ?_
  rintro e w' ⟨rfl, hb⟩
  exact ⟨rfl, h.later hb⟩
theorem q6_first {i : Nat} {g : Gt} (h : Q6 W v G c b r dc d' L n va vc p cs ua uc w) (hn : L.length = n) (hl : n ≤ 1000000) (hg : G[i]? = some g) (S : ByteArray) (N E : Int) (hL : g.L = L) :
    Calls Try.prog 14 #[.agg #[.string S, .int .i64 N, .slice va n vc, .int .i64 E], .agg #[.string S, .int .i64 N, .slice g.a n g.c, .int .i64 E]] w fun e w' => e = .returned (.bool true) ∧ Q6 W v G c b r dc d' L n va vc p cs ua uc w' := by
  obtain ⟨_, ⟨_, _, _, ⟨_, _, _, ⟨_, _, ⟨_, _, h2, _⟩, ⟨_, _, ⟨_, _, h3, _⟩, _⟩, _⟩, _⟩, _⟩, _⟩ := id h
  obtain ⟨q1, q2, _⟩ := h3 g (List.mem_of_getElem? hg)
  rw [q1, hL, hn] at q2
  rw [← hn] at q2
  refine (same_same h2.1 (by rw [← hn]; exact q2) hn.symm hl S N E).mono ?_
  rintro e w' ⟨rfl, hb⟩
  exact ⟨rfl, h.later hb⟩
theorem q6_size {i : Nat} {g : Gt} (h : Q6 W v G c b r dc d' L n va vc p cs ua uc w) (hn : L.length = n) (hg : G[i]? = some g) (hL : g.L = L) : g.n = n := by
  obtain ⟨_, ⟨_, _, _, ⟨_, _, _, ⟨_, _, _, ⟨_, _, ⟨_, _, h3, _⟩, _⟩, _⟩, _⟩, _⟩, _⟩ := h
  rw [(h3 g (List.mem_of_getElem? hg)).1, hL, hn]
theorem Q6.rest (h : Q6 W v G c b r dc d' L n va vc p cs ua uc w) : Q2 W v G c b r dc d' w :=
  Mine.le ((Th.Le.mono (Th.Le.snd _ _) ((Th.Le.snd _ _).trans (Th.Le.mono (Th.Le.snd _ _) (Th.Le.refl _)))).trans ((Th.Le.left _ _ _).trans ((Th.Le.swap _ _).trans ((Th.Le.mono (Th.Le.refl _) (Th.Le.swap _ _)).trans (Th.Le.right _ _ _))))) h
theorem q2_Same_b (h : Q2 W v G c b r dc d w) (hF : Fine k d) (hD : Fd d) (hk : k ≤ 1001) : Calls Try.prog 17 #[.pointer (some ⟨b, 0, none⟩), .pointer (some ⟨r, 0, none⟩)] w fun e w' => e = .returned (.bool true) ∧ Q2 W v G c b r dc d w' := by
  obtain ⟨_, ⟨_, _, _, ⟨_, _, _, ⟨_, _, h1, h2, _⟩, _⟩, _⟩, _⟩ := id h
  have s1 := hF.few
  refine (same_any h1 h2 (by omega) hF.sizes (by omega) hD).mono ?_
  rintro e w' ⟨rfl, hb⟩
  exact ⟨rfl, h.later hb⟩
theorem q2_Same_c (h : Q2 W v G c b r d d w) (hF : Fine k d) (hD : Fd d) (hk : k ≤ 1001) : Calls Try.prog 17 #[.pointer (some ⟨c, 0, none⟩), .pointer (some ⟨r, 0, none⟩)] w fun e w' => e = .returned (.bool true) ∧ Q2 W v G c b r d d w' := by
  obtain ⟨_, ⟨_, _, _, ⟨_, _, h1, ⟨_, _, _, h2, _⟩, _⟩, _⟩, _⟩ := id h
  have s1 := hF.few
  refine (same_any h1 h2 (by omega) hF.sizes (by omega) hD).mono ?_
  rintro e w' ⟨rfl, hb⟩
  exact ⟨rfl, h.later hb⟩
theorem s3_copy (h : S3 W b r d w) (hF : Fine k d) (hk : k ≤ 1001) : Calls Try.prog 18 #[.pointer (some ⟨b, 0, none⟩)] w fun e w' => e = .returned (.pointer (some ⟨w.heap.size, 0, none⟩)) ∧ Q2 W (.slice none 0 0) [] w.heap.size b r d d w' := by
  obtain ⟨X, Y, h1, h2⟩ := Mine.both h
  have s1 := hF.few
  have s2 := hF.fates
  refine (copy_any h1 (by omega) (by omega) (by omega)).mono ?_
  rintro e w' ⟨rfl, hn, hb⟩
  have hm : Mine W w' ((bkT w.heap.size d).and ((bkT b d).and (refT r d))) := Mine.new ((bkT_good _ _).and (refT_good _ _)) h hb hn
  exact ⟨rfl, Mine.new ((bkT_good _ _).and ((bkT_good _ _).and (refT_good _ _))) hm (Below.refl _ _) (gots_nil w')⟩
end
theorem info38 : (Try.prog.info? 38).map (fun i => (i.zero, i.size, i.bytes)) = some (some (.agg #[.string { data := #[] }, .int .i64 0, .slice none 0 0, .int .i64 0]), 4, 56) := by kernel_rfl
theorem append46 {w : World} {ops : Array Oper} {rest : List Oper} {o : Oper} {a : Act} {Q : Exit → Act → World → Prop} (hgd : o.guard = none) (s x : Operand)
    (ho : o.op = .call { callee := .builtin .append, args := #[s, x], argTypes := #[46, 46] })
    (v : Value) (n : Nat) (xs : List Value) (hs : a.eval s = v) (hown : Rw w 38 4 v n xs)
    (ad : Option Addr) (m c : Nat) (news : List Value) (hx : a.eval x = .slice ad m c) (hsrc : Rw w 38 4 (.slice ad m c) m news) (h1 : ∀ u ∈ news, u.oneCell' = true)
    (h63 : n + m ≤ maxLen) (hbytes : (n + m) * 56 ≤ 140737488355328)
    (h : ∀ v' w', Rw w' 38 4 v' (n + m) (xs ++ news) → w.grownBy w' v.ownBlock → Moved w v v' → wpList Try.prog ops Q rest (a.put o.dst v') w') : wpList Try.prog ops Q (o :: rest) a w := by
  obtain ⟨i0, hi, hz0, hz1, hz2⟩ := info_parts info38
  exact wpList_append_rws hgd s x 46 ho 38 i0 _ 4 56 Try.underlying46 hi hz0 hz1 hz2 rfl (by decide) v n xs hs hown ad m c news hx hsrc h1 h63 hbytes h
theorem one_got (w : World) (l : List Value) (hl : l.length = 4) (cs : Array Value) (hc : cs = l.toArray) : Rw (w.alloc (.cells cs 38)) 38 4 (.slice (some ⟨w.heap.size, 0, none⟩) 1 1) 1 l := by
  subst hc
  exact ⟨by rw [hl], .inr ⟨w.heap.size, 0, 1, _, rfl, heap_alloc_new w _, Nat.le_refl _, by unfold maxLen; omega, by simp [hl], by simpa using List.take_of_length_le (Nat.le_of_eq hl)⟩⟩

end Wi
end Go.Proofs.Ythnhapjjgaicdaa
