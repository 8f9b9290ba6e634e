/- A bucket and the document's, call by call. -/
import Derived.Test.YthnhapjjgaicdaaRi
import Derived.Test.YthnhapjjgaicdaaLe
namespace Go.Proofs.Ythnhapjjgaicdaa
open Go.RowKit
namespace Wi

theorem Fd.step {d : Bk} (h : Fd d) (hok : d.Ok) (o : OpV) : Fd (d.step o) := by
  unfold Bk.step
  split
  · unfold Bk.put
    split
    · rename_i hp
      simp only [Bool.and_eq_true, decide_eq_true_eq] at hp
      exact Fd.call h hp.2
    · exact h
  · split
    · cases Bk.askOk o.name o.place o.n <;> exact h
    · split
      · cases nameB o.name <;> exact h
      · split
        · exact h
        · split
          · unfold Bk.del
            split
            · exact Fd.call h (by show 0 ≤ _; omega)
            · exact h
          · split
            · exact h
            · split
              · exact acts_fd h hok _
              · exact h
theorem stepL_few (d : Bk) (o : OpV) : (d.stepL o).length ≤ d.objs.length := by
  unfold Bk.stepL Bk.listL
  split
  · split
    · exact namesOf_length _ _
    · exact Nat.zero_le _
  · exact Nat.zero_le _
theorem DoesT.ls {A : Th} {L : List ByteArray} {w : World} {X : Nat → Prop} {w' : World} {v : Value} (h : DoesT A L w X w' v) : LeftT ((lsT v L).and A) w X w' := by
  obtain ⟨X', h1, h2, h3, h4, h5⟩ := h
  refine ⟨fun k => v.ownBlock = some k ∨ X' k, ⟨_, X', ⟨h4, rfl⟩, h1, fun k hk => (h5 k hk).2, fun _ => Iff.rfl⟩, h2, fun k hk => ?_⟩
  rcases hk with hk | hk
  · exact .inr (h5 k hk).1
  · exact h3 k hk
theorem Mine.both {W w : World} {A B : Th} (h : Mine W w (A.and B)) : ∃ X Y, A w X ∧ B w Y := by
  obtain ⟨Z, ⟨X, Y, h1, h2, _⟩, _⟩ := h
  exact ⟨X, Y, h1, h2⟩
/-- Two of four things. -/
theorem Mine.pick {W w : World} {A B C D : Th} (h : Mine W w ((A.and B).and (C.and D))) : Mine W w (D.and B) := by
  obtain ⟨Z, ⟨X, Y, ⟨XA, XB, a1, a2, a3, a4⟩, ⟨XC, XD, c1, c2, c3, c4⟩, h3, h4⟩, h5, h6⟩ := h
  exact ⟨fun k => XD k ∨ XB k, ⟨XD, XB, c2, a2, fun k hd hb => h3 k ((a4 k).2 (.inr hb)) ((c4 k).2 (.inr hd)), fun _ => Iff.rfl⟩, fun k hk => h5 k ((h4 k).2 (hk.elim (fun e => .inr ((c4 k).2 (.inr e))) fun e => .inl ((a4 k).2 (.inr e)))), h6⟩
/-- Behind does: the answer's list, the bucket, the document's bucket ahead of the call. -/
def S1 (W : World) (b r : Nat) (d d' : Bk) (L : List ByteArray) (n : Nat) (va : Option Addr) (vc : Nat) (w : World) : Prop := Mine W w (((lsT (.slice va n vc) L).and (bkT b d')).and (refT r d))
/-- Behind asked. -/
def S2 (W : World) (b r : Nat) (d' : Bk) (L : List ByteArray) (n : Nat) (va : Option Addr) (vc : Nat) (ua : Option Addr) (uc : Nat) (w : World) : Prop := Mine W w (((lsT (.slice ua n uc) L).and (refT r d')).and ((lsT (.slice va n vc) L).and (bkT b d')))
/-- A bucket and the document's. -/
def S3 (W : World) (b r : Nat) (d : Bk) (w : World) : Prop := Mine W w ((bkT b d).and (refT r d))
theorem S1.below {W : World} {b r : Nat} {d d' : Bk} {L : List ByteArray} {n : Nat} {va : Option Addr} {vc : Nat} {w : World} (h : S1 W b r d d' L n va vc w) : Below W.heap.size W w := Mine.below h
theorem S3.below {W : World} {b r : Nat} {d : Bk} {w : World} (h : S3 W b r d w) : Below W.heap.size W w := Mine.below h
theorem S3.later {W : World} {b r : Nat} {d : Bk} {w w' : World} (h : S3 W b r d w) (hb : Below w.heap.size w w') : S3 W b r d w' := Mine.later ((bkT_good _ _).and (refT_good _ _)) h hb
section
variable {W w : World} {b r : Nat} {d : Bk} {k : Nat} {o : OpV} {n : Nat}
theorem go_does (h : S3 W b r d w) (hF : Fine k d) (hk : k ≤ 1000) (ho : OpOk W (fun _ => False) o) (hg : ¬ badO o) (hn : (d.stepL o).length = n) :
    Calls Try.prog 15 #[.pointer (some ⟨b, 0, none⟩), .agg o.cells.toArray] w fun e w' => ∃ va vc, e = .returned (.agg #[.string (d.stepS o), .int .i64 (d.stepN o : Nat), .slice va n vc, .int .i64 (d.stepE o)]) ∧ S1 W b r d (d.step o) (d.stepL o) n va vc w' := by
  have hM : Mine W w ((bkT b d).and (refT r d)) := h
  have s1 := hF.few
  have s2 := hF.fates
  obtain ⟨X, hT, hX, hgo⟩ := hM.go (refT_good _ _)
  refine (does_any hT (by omega) (by omega) hF.sizes o (ho.to hM.below hX) (by unfold badO at hg; omega)).mono ?_
  rintro e w' ⟨v, rfl, hd⟩
  have hf : ∃ a c, v = .slice a n c := by
    obtain ⟨_, _, _, _, hr, _⟩ := hd
    have := hr.form
    rw [hn] at this
    exact this
  obtain ⟨va, vc, rfl⟩ := hf
  exact ⟨va, vc, rfl, hgo hd.t.ls⟩
theorem go_asked {va : Option Addr} {vc : Nat} (h : S1 W b r d (d.step o) (d.stepL o) n va vc w) (hF : Fine k d) (hD : Fd d) (hk : k ≤ 1000) (ho : OpOk W (fun _ => False) o) (hg : ¬ badO o) (hn : (d.stepL o).length = n) :
    Calls Try.prog 16 #[.pointer (some ⟨r, 0, none⟩), .agg o.cells.toArray] w fun e w' => ∃ ua uc, e = .returned (.agg #[.string (d.stepS o), .int .i64 (d.stepN o : Nat), .slice ua n uc, .int .i64 (d.stepE o)]) ∧ S2 W b r (d.step o) (d.stepL o) n va vc ua uc w' := by
  have hM := Mine.swap h
  have s1 := hF.few
  have s2 := hF.fates
  obtain ⟨X, hT, hX, hgo⟩ := hM.go ((lsT_good _ _).and (bkT_good _ _))
  refine (asked_any hT (by omega) (by omega) hF.sizes hD o (ho.to hM.below hX) (by unfold badO at hg; omega)).mono ?_
  rintro e w' ⟨v, rfl, hd⟩
  have hf : ∃ a c, v = .slice a n c := by
    obtain ⟨_, _, _, _, hr, _⟩ := hd
    have := hr.form
    rw [hn] at this
    exact this
  obtain ⟨va, vc, rfl⟩ := hf
  exact ⟨va, vc, rfl, hgo hd.ls⟩
theorem go_same {d' : Bk} {L : List ByteArray} {va ua : Option Addr} {vc uc : Nat} (h : S2 W b r d' L n va vc ua uc w) (hn : L.length = n) (hl : n ≤ 1000000) (S : ByteArray) (N E : Int) :
    Calls Try.prog 14 #[.agg #[.string S, .int .i64 N, .slice va n vc, .int .i64 E], .agg #[.string S, .int .i64 N, .slice ua n uc, .int .i64 E]] w fun e w' => e = .returned (.bool true) ∧ S3 W b r d' w' := by
  have hp : S3 W b r d' w := Mine.pick h
  obtain ⟨X, Y, ⟨_, _, h1, _⟩, ⟨_, _, h2, _⟩⟩ := Mine.both h
  refine (same_same h2.1 h1.1 hn.symm hl S N E).mono ?_
  rintro e w' ⟨rfl, hb⟩
  exact ⟨rfl, hp.later hb⟩
theorem go_Same (h : S3 W b r d w) (hF : Fine k d) (hD : Fd d) (hk : k ≤ 1001) : Calls Try.prog 17 #[.pointer (some ⟨b, 0, none⟩), .pointer (some ⟨r, 0, none⟩)] w fun e w' => e = .returned (.bool true) ∧ S3 W b r d w' := by
  obtain ⟨X, Y, h1, h2⟩ := Mine.both h
  have s1 := hF.few
  refine (same_any h1 h2 (by omega) hF.sizes (by omega) hD).mono ?_
  rintro e w' ⟨rfl, hb⟩
  exact ⟨rfl, h.later hb⟩
end
theorem step_got {P : Program} {ops : Array Oper} {o : Oper} {a : Act} {w : World} {K : Act → World → Prop} {Q : Exit → Act → World → Prop} {E : Prop} {val : Option Addr → Nat → Value} {S : Option Addr → Nat → World → Prop} (hw : Region.wanted o (yielded ops a.tmps) = true) (f : FuncId) (args : Array Value)
    (hrun : (execOp a.eval o).run P w = .ok (.enter f args) w) (hc : Calls P f args w fun e w' => ∃ x y, e = .returned (val x y) ∧ S x y w') (hK : ∀ x y w', S x y w' → K (a.put o.dst (val x y)) w') : if Region.wanted o (yielded ops a.tmps) = true then Oper.wp P o a w K Q else E := by
  rw [if_pos hw]
  unfold Oper.wp
  rw [hrun]
  refine hc.mono ?_
  rintro e w' ⟨x, y, rfl, hs⟩
  exact hK x y w' hs
theorem step_val {P : Program} {ops : Array Oper} {o : Oper} {a : Act} {w : World} {K : Act → World → Prop} {Q : Exit → Act → World → Prop} {E : Prop} {v : Value} {S : World → Prop} (hw : Region.wanted o (yielded ops a.tmps) = true) (f : FuncId) (args : Array Value)
    (hrun : (execOp a.eval o).run P w = .ok (.enter f args) w) (hc : Calls P f args w fun e w' => e = .returned v ∧ S w') (hK : ∀ w', S w' → K (a.put o.dst v) w') : if Region.wanted o (yielded ops a.tmps) = true then Oper.wp P o a w K Q else E := by
  rw [if_pos hw]
  unfold Oper.wp
  rw [hrun]
  refine hc.mono ?_
  rintro e w' ⟨rfl, hs⟩
  exact hK w' hs

end Wi
end Go.Proofs.Ythnhapjjgaicdaa
