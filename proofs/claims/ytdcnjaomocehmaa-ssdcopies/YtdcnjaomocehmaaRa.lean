/- The document's answer of stage 4 in memory, and its smaller calls. -/
import Derived.Test.YtdcnjaomocehmaaWq
import Derived.Test.YtdcnjaomocehmaaLx
namespace Go.Proofs.Ytdcnjaomocehmaa
open Go.RowKit
namespace Wi

/-- A thing in memory, and its blocks. -/
def Th : Type := World → (Nat → Prop) → Prop
structure Th.Good (A : Th) : Prop where
  keep : ∀ {w w' : World} {X Y : Nat → Prop}, A w X → Keep Y w w' → (∀ i, X i → ¬ Y i) → A w' X
  lt : ∀ {w : World} {X : Nat → Prop}, A w X → ∀ k, X k → k < w.heap.size
theorem Th.Good.later {A : Th} (h : A.Good) {w w' : World} {X : Nat → Prop} (ha : A w X) (hb : Below w.heap.size w w') : A w' X := h.keep (Y := fun _ => False) ha (Keep.of_below hb) fun _ _ => id
/-- Two things that share no block. -/
def Th.and (A B : Th) : Th := fun w Z => ∃ X Y, A w X ∧ B w Y ∧ (∀ k, X k → ¬ Y k) ∧ ∀ k, Z k ↔ X k ∨ Y k
theorem Th.Good.and {A B : Th} (ha : A.Good) (hb : B.Good) : (A.and B).Good :=
  ⟨fun ⟨X, Y, h1, h2, h3, h4⟩ k hx => ⟨X, Y, ha.keep h1 k fun i hi => hx i ((h4 i).2 (.inl hi)), hb.keep h2 k fun i hi => hx i ((h4 i).2 (.inr hi)), h3, h4⟩,
   fun ⟨_, _, h1, h2, _, h4⟩ k hk => ((h4 k).1 hk).elim (ha.lt h1 k) (hb.lt h2 k)⟩
/-- What a call leaves of a thing. -/
def LeftT (A : Th) (w : World) (X : Nat → Prop) (w' : World) : Prop := ∃ X', A w' X' ∧ Keep X w w' ∧ ∀ k, X' k → X k ∨ w.heap.size ≤ k
theorem LeftT.first {A : Th} {w w1 w2 : World} {X : Nat → Prop} (hb : Below w.heap.size w w1) (h : LeftT A w1 X w2) : LeftT A w X w2 := by
  obtain ⟨X', h1, h2, h3⟩ := h
  exact ⟨X', h1, (Keep.of_below (X := X) hb).trans h2 fun _ _ e => e, fun k hk => (h3 k hk).imp id fun e => Nat.le_trans hb.size e⟩
theorem LeftT.later {A : Th} (hA : A.Good) {w w1 w2 : World} {X : Nat → Prop} (h : LeftT A w X w1) (hb : Below w1.heap.size w1 w2) : LeftT A w X w2 := by
  obtain ⟨X', h1, h2, h3⟩ := h
  exact ⟨X', hA.later h1 hb, h2.trans (Keep.of_below (X := X) hb) fun _ _ e => e, h3⟩
/-- A thing of the call's own. -/
def Mine (W w : World) (A : Th) : Prop := ∃ X, A w X ∧ (∀ k, X k → W.heap.size ≤ k) ∧ Below W.heap.size W w
theorem Mine.below {W w : World} {A : Th} (h : Mine W w A) : Below W.heap.size W w := let ⟨_, _, _, hb⟩ := h; hb
theorem Mine.later {W w w' : World} {A : Th} (hA : A.Good) (h : Mine W w A) (hb : Below w.heap.size w w') : Mine W w' A := by
  obtain ⟨X, h1, h2, h3⟩ := h
  exact ⟨X, hA.later h1 hb, h2, h3.trans (hb.mono h3.size)⟩
theorem Mine.swap {W w : World} {A B : Th} (h : Mine W w (A.and B)) : Mine W w (B.and A) := by
  obtain ⟨Z, ⟨X, Y, h1, h2, h3, h4⟩, h5, h6⟩ := h
  exact ⟨Z, ⟨Y, X, h2, h1, fun k hk hx => h3 k hx hk, fun k => (h4 k).trans or_comm⟩, h5, h6⟩
theorem Mine.rot {W w : World} {A B C : Th} (h : Mine W w (A.and (B.and C))) : Mine W w (B.and (A.and C)) := by
  obtain ⟨Z, ⟨X, U, h1, ⟨Y, V, k1, k2, k3, k4⟩, h3, h4⟩, h5, h6⟩ := h
  refine ⟨Z, ⟨Y, fun k => X k ∨ V k, k1, ⟨X, V, h1, k2, fun k hx hv => h3 k hx ((k4 k).2 (.inr hv)), fun k => Iff.rfl⟩, fun k hy hz => hz.elim (fun hx => h3 k hx ((k4 k).2 (.inl hy))) (k3 k hy), fun k => ?_⟩, h5, h6⟩
  rw [h4 k, k4 k]
  exact or_left_comm
theorem Mine.go {W w : World} {A B : Th} (hB : B.Good) (h : Mine W w (A.and B)) : ∃ X, A w X ∧ (∀ k, X k → W.heap.size ≤ k) ∧ ∀ {w' : World} {A' : Th}, LeftT A' w X w' → Mine W w' (A'.and B) := by
  obtain ⟨Z, ⟨X, Y, h1, h2, h3, h4⟩, h5, h6⟩ := h
  refine ⟨X, h1, fun k hk => h5 k ((h4 k).2 (.inl hk)), fun {w' A'} ⟨X', l1, l2, l3⟩ => ⟨fun k => X' k ∨ Y k, ⟨X', Y, l1, hB.keep h2 l2 fun i hi hx => h3 i hx hi, fun k hx hy => ?_, fun k => Iff.rfl⟩, fun k hk => ?_, h6.trans (l2.below h6.size fun k hk hx => ?_)⟩⟩
  · rcases l3 k hx with h | h
    · exact h3 k h hy
    · exact Nat.lt_irrefl _ (Nat.lt_of_lt_of_le (hB.lt h2 k hy) h)
  · rcases hk with hk | hk
    · rcases l3 k hk with h | h
      · exact h5 k ((h4 k).2 (.inl h))
      · exact Nat.le_trans h6.size h
    · exact h5 k ((h4 k).2 (.inr hk))
  · exact Nat.lt_irrefl _ (Nat.lt_of_lt_of_le hk (h5 k ((h4 k).2 (.inl hx))))
theorem Mine.new {W w w' : World} {A B : Th} (hA : A.Good) (h : Mine W w A) (hb : Below w.heap.size w w') (hn : ∃ X, B w' X ∧ ∀ k, X k → w.heap.size ≤ k) : Mine W w' (B.and A) := by
  obtain ⟨X, h1, h2, h3⟩ := h
  obtain ⟨Y, k1, k2⟩ := hn
  refine ⟨fun k => Y k ∨ X k, ⟨Y, X, k1, hA.later h1 hb, fun k hy hx => ?_, fun k => Iff.rfl⟩, fun k hk => hk.elim (fun e => Nat.le_trans h3.size (k2 k e)) (h2 k), h3.trans (hb.mono h3.size)⟩
  exact Nat.lt_irrefl _ (Nat.lt_of_lt_of_le (hA.lt h1 k hx) (k2 k hy))
/-- The device as a thing. -/
def devT (b : Nat) (d : Dv) : Th := fun w X => Dev w b X d
theorem devT_good (b : Nat) (d : Dv) : (devT b d).Good := ⟨fun h k hx => Dev.keep h k hx, fun h => Dev.lt h⟩
theorem Left.t {w w' : World} {b : Nat} {X : Nat → Prop} {d : Dv} (h : Left w b X d w') : LeftT (devT b d) w X w' := let ⟨X', hd⟩ := h; ⟨X', hd.dev, hd.keep, hd.more⟩
/-- The document's answer: texts, and a list of what is pending. -/
def encT (l : List (List Nat)) : List Value := l.map fun s => .string (str s)
def encP (p : Nat × List Nat) : List Value := [.int .i64 (p.1 : Nat), .string (str p.2)]
def encQ (l : List (Nat × List Nat)) : List Value := l.flatMap encP
theorem encT_length (l : List (List Nat)) : (encT l).length = l.length * 1 := by simp [encT]
theorem encQ_length (l : List (Nat × List Nat)) : (encQ l).length = l.length * 2 := flat_len (k := 2) l fun _ _ => rfl
theorem encQ_append (l m : List (Nat × List Nat)) : encQ (l ++ m) = encQ l ++ encQ m := List.flatMap_append
theorem encT_append (l m : List (List Nat)) : encT (l ++ m) = encT l ++ encT m := List.map_append
structure RawR (w : World) (b : Nat) (sv pv : Value) (g st : Bool) (z : Int) (last : List (List Nat)) (pend : List (Nat × List Nat)) : Prop where
  blk : w.heap[b]? = some (.cells #[sv, pv, .bool g, .bool st, .int .i64 z] 62 (0, 0))
  sec : w.ownsRow 0 9 1 sv last.length (encT last)
  chg : w.ownsRow 0 74 2 pv pend.length (encQ pend)
  ns : sv.ownBlock ≠ some b
  np : pv.ownBlock ≠ some b
  nn : ∀ k, sv.ownBlock = some k → pv.ownBlock ≠ some k
section
variable {w w' : World} {b : Nat} {sv pv : Value} {g st : Bool} {z : Int} {last : List (List Nat)} {pend : List (Nat × List Nat)}
theorem RawR.lt (h : RawR w b sv pv g st z last pend) : b < w.heap.size := lt_of_block h.blk
theorem RawR.c (h : RawR w b sv pv g st z last pend) : w.cell? ⟨b, 0, none⟩ = some sv ∧ w.cell? ⟨b, 1, none⟩ = some pv ∧ w.cell? ⟨b, 2, none⟩ = some (.bool g) ∧ w.cell? ⟨b, 3, none⟩ = some (.bool st) ∧ w.cell? ⟨b, 4, none⟩ = some (.int .i64 z) :=
  ⟨by rw [cell_of_row w b 0 _ _ _ h.blk]; rfl, by rw [cell_of_row w b 1 _ _ _ h.blk]; rfl, by rw [cell_of_row w b 2 _ _ _ h.blk]; rfl, by rw [cell_of_row w b 3 _ _ _ h.blk]; rfl, by rw [cell_of_row w b 4 _ _ _ h.blk]; rfl⟩
theorem RawR.fr (h : RawR w b sv pv g st z last pend) (i : Nat) : w.frozen? ⟨b, i, none⟩ = false := frozen_of_row w _ _ _ _ h.blk
theorem RawR.keep {X : Nat → Prop} (h : RawR w b sv pv g st z last pend) (k : Keep X w w') (hx : ∀ i, xDev b sv pv i → ¬ X i) : RawR w' b sv pv g st z last pend :=
  ⟨(k.block b h.lt (hx b (.inl rfl))).trans h.blk, row_keep h.sec k fun i hi => hx i (.inr (.inl hi)), row_keep h.chg k fun i hi => hx i (.inr (.inr hi)), h.ns, h.np, h.nn⟩
theorem RawR.later (h : RawR w b sv pv g st z last pend) (hb : Below w.heap.size w w') : RawR w' b sv pv g st z last pend :=
  h.keep (X := fun _ => False) (Keep.of_below hb) fun _ _ => id
theorem RawR.xlt (h : RawR w b sv pv g st z last pend) : ∀ k, xDev b sv pv k → k < w.heap.size := fun k hk => by
  rcases hk with rfl | hk | hk
  · exact h.lt
  · exact (h.sec.lt k hk).2
  · exact (h.chg.lt k hk).2
theorem RawR.sector {gs cap : Nat} (h : RawR w b sv pv g st z last pend) (hv : sv = .slice (some ⟨gs, 0, none⟩) last.length cap) {i : Nat} {s : List Nat} (hi : last[i]? = some s) : w.cell? ⟨gs, i, none⟩ = some (.string (str s)) ∧ w.frozen? ⟨gs, i, none⟩ = false := by
  have hs := h.sec
  rw [hv] at hs
  refine ⟨?_, row_free hs i⟩
  have h1 := row_range hs i 1
  have h2 := h1 0 (.string (str s)) (by
    rw [List.getElem?_take_of_lt (by omega), List.getElem?_drop, Nat.add_zero, encT, List.getElem?_map, hi]
    rfl)
  simpa using h2
theorem RawR.put {gp cap : Nat} (h : RawR w b sv pv g st z last pend) (hv : pv = .slice (some ⟨gp, 0, none⟩) pend.length cap) {i : Nat} {p : Nat × List Nat} (hi : pend[i]? = some p) : w.cell? ⟨gp, i * 2, none⟩ = some (.int .i64 (p.1 : Nat)) ∧ w.cell? ⟨gp, i * 2 + 1, none⟩ = some (.string (str p.2)) := by
  have hs := h.chg
  rw [hv] at hs
  have h1 := row_range hs (i * 2) 2
  rw [encQ, flat_part (f := encP) (k := 2) pend i p (fun _ _ => rfl) hi] at h1
  exact ⟨h1 0 _ rfl, h1 1 _ rfl⟩
/-- A cell of the block is written. -/
theorem RawR.rows (h : RawR w b sv pv g st z last pend) (i : Nat) (v : Value) : (w.setCell ⟨b, i, none⟩ v).ownsRow 0 9 1 sv last.length (encT last) ∧ (w.setCell ⟨b, i, none⟩ v).ownsRow 0 74 2 pv pend.length (encQ pend) :=
  ⟨ownsRow_setCell_other h.sec h.ns _, ownsRow_setCell_other h.chg h.np _⟩
theorem RawR.setGone (h : RawR w b sv pv g st z last pend) (g' : Bool) : RawR (w.setCell ⟨b, 2, none⟩ (.bool g')) b sv pv g' st z last pend :=
  ⟨setCell_blk h.blk _, (h.rows _ _).1, (h.rows _ _).2, h.ns, h.np, h.nn⟩
theorem RawR.setStops (h : RawR w b sv pv g st z last pend) (s' : Bool) : RawR (w.setCell ⟨b, 3, none⟩ (.bool s')) b sv pv g s' z last pend :=
  ⟨setCell_blk h.blk _, (h.rows _ _).1, (h.rows _ _).2, h.ns, h.np, h.nn⟩
theorem RawR.setLeft (h : RawR w b sv pv g st z last pend) (z' : Int) : RawR (w.setCell ⟨b, 4, none⟩ (.int .i64 z')) b sv pv g st z' last pend :=
  ⟨setCell_blk h.blk _, (h.rows _ _).1, (h.rows _ _).2, h.ns, h.np, h.nn⟩
theorem RawR.setNone (h : RawR w b sv pv g st z last pend) : RawR (w.setCell ⟨b, 1, none⟩ (.slice none 0 0)) b sv (.slice none 0 0) g st z last [] :=
  ⟨setCell_blk h.blk _, (h.rows _ _).1, ⟨rfl, .inl ⟨rfl, rfl⟩⟩, h.ns, by simp [Value.ownBlock], fun k hk => by simp [Value.ownBlock]⟩
/-- A sector is written. -/
theorem RawR.setSector {gs cap : Nat} (h : RawR w b sv pv g st z last pend) (hv : sv = .slice (some ⟨gs, 0, none⟩) last.length cap) {i : Nat} (hi : i < last.length) (s : List Nat) :
    RawR (w.setCell ⟨gs, i, none⟩ (.string (str s))) b sv pv g st z (last.set i s) pend := by
  have hb : sv.ownBlock = some gs := by rw [hv]; rfl
  have k := Keep.setCell (X := fun j => j = gs) w ⟨gs, i, none⟩ (.string (str s)) rfl
  have hse := h.sec
  rw [hv] at hse
  have h2 := row_store hse (o := i) (vs := [.string (str s)]) (by simp; omega) (by simp [Value.oneCell'])
  have e : splice (encT last) i [.string (str s)] = encT (last.set i s) := by
    have := flat_set (f := fun s => [Value.string (str s)]) (k := 1) last i s (fun _ _ => rfl) rfl hi
    simp only [Nat.mul_one] at this
    have e1 : ∀ l : List (List Nat), (l.flatMap fun s => [Value.string (str s)]) = encT l := fun l => by
      induction l with
      | nil => rfl
      | cons x r ih => rw [List.flatMap_cons, ih]; rfl
    rw [e1, e1] at this
    exact this.symm
  rw [e] at h2
  refine ⟨(k.block b h.lt fun e => h.ns (by rw [hb, e])).trans h.blk, by rw [hv, List.length_set]; exact h2, row_keep h.chg k fun j hj e => h.nn gs hb (by rw [← e]; exact hj), h.ns, h.np, h.nn⟩
end
/-- Stops, and how many calls are left. -/
def Halts (st : Bool) (z : Int) (s : Option Nat) : Prop := (st = false ∧ s = none) ∨ (st = true ∧ 0 ≤ z ∧ s = some z.toNat)
structure RefAt (w : World) (b : Nat) (sv pv : Value) (st : Bool) (z : Int) (d : Dv) : Prop where
  raw : RawR w b sv pv d.gone st z d.last d.pend
  ok : d.Ok
  halt : Halts st z d.stop
  num : Num z
def refT (b : Nat) (d : Dv) : Th := fun w X => ∃ sv pv st z, RefAt w b sv pv st z d ∧ X = xDev b sv pv
theorem refT_good (b : Nat) (d : Dv) : (refT b d).Good :=
  ⟨fun ⟨sv, pv, st, z, h, e⟩ k hx => ⟨sv, pv, st, z, ⟨h.raw.keep k (by rw [← e]; exact hx), h.ok, h.halt, h.num⟩, e⟩, fun ⟨_, _, _, _, h, e⟩ => by rw [e]; exact h.raw.xlt⟩
theorem ref_same {w w' : World} {b : Nat} {sv pv : Value} {st' : Bool} {z' : Int} {d' : Dv} (hk : Keep (xDev b sv pv) w w') (h : RefAt w' b sv pv st' z' d') : LeftT (refT b d') w (xDev b sv pv) w' :=
  ⟨_, ⟨sv, pv, st', z', h, rfl⟩, hk, fun _ e => .inl e⟩
theorem halts_dead {st : Bool} {z : Int} {s : Option Nat} (h : Halts st z s) : (st = true ∧ z = 0) ↔ s = some 0 := by
  rcases h with ⟨rfl, rfl⟩ | ⟨rfl, h0, rfl⟩
  · simp
  · simp; omega
theorem rdead_yes {w : World} {b : Nat} {sv pv : Value} {st : Bool} {z : Int} {d : Dv} (h : RefAt w b sv pv st z d) (hd : d.dead = true) :
    Calls Try.prog 41 #[.pointer (some ⟨b, 0, none⟩)] w fun e w' => e = .returned (.bool true) ∧ w' = w := by
  obtain ⟨c0, c1, c2, c3, c4⟩ := h.raw.c
  cases hg : d.gone with
  | true =>
    rw [hg] at c2
    go_enter Try.func41, Try.ntmps41
    go_wp2
    go_ret
    exact ⟨rfl, rfl⟩
  | false =>
    rw [hg] at c2
    obtain ⟨rfl, rfl⟩ := (halts_dead h.halt).2 (by simpa [Dv.dead, hg] using hd)
    go_enter Try.func41, Try.ntmps41
    go_wp2
    go_ret
    exact ⟨rfl, rfl⟩
def TickedR (w : World) (b : Nat) (sv pv : Value) (d : Dv) (w' : World) : Prop := (∃ st' z', RefAt w' b sv pv st' z' d.tick) ∧ Keep (xDev b sv pv) w w'
theorem rdead_no {w : World} {b : Nat} {sv pv : Value} {st : Bool} {z : Int} {d : Dv} (h : RefAt w b sv pv st z d) (hd : d.dead = false) :
    Calls Try.prog 41 #[.pointer (some ⟨b, 0, none⟩)] w fun e w' => e = .returned (.bool false) ∧ TickedR w b sv pv d w' := by
  obtain ⟨c0, c1, c2, c3, c4⟩ := h.raw.c
  have f4 := h.raw.fr 4
  obtain ⟨l0, l1⟩ := h.num
  have hg : d.gone = false := by
    simp [Dv.dead] at hd
    exact hd.1
  have hh := h.halt
  rw [hg] at c2
  cases st with
  | true =>
    have hz : ¬ z = 0 := fun e => by
      have := (halts_dead hh).1 ⟨rfl, e⟩
      simp [Dv.dead, this] at hd
    have hz0 : 0 ≤ z := by rcases hh with ⟨h1, _⟩ | ⟨_, h1, _⟩ <;> simp_all
    have hh' : d.stop = some z.toNat := by rcases hh with ⟨h1, _⟩ | ⟨_, _, h1⟩ <;> simp_all
    have HH := hide hh'
    have HG := hide hg
    clear hh hh' hg
    have hz1 : 0 < z := by omega
    go_enter Try.func41, Try.ntmps41
    go_wp2
    go_ret
    refine ⟨rfl, ⟨true, z - 1, h.raw.setLeft _, h.ok.tick, .inr ⟨rfl, by omega, ?_⟩, by constructor <;> omega⟩, Keep.setCell w _ _ (.inl rfl)⟩
    simp [Dv.tick, HH.out]
  | false =>
    have hh' : d.stop = none := by rcases hh with ⟨_, h1⟩ | ⟨h1, _⟩ <;> simp_all
    have HH := hide hh'
    clear hh hh' hg
    go_enter Try.func41, Try.ntmps41
    go_wp2
    go_ret
    exact ⟨rfl, ⟨false, z, h.raw, h.ok.tick, .inl ⟨rfl, by simp [Dv.tick, HH.out]⟩, h.num⟩, Keep.refl _ _⟩
theorem rstop_any {w : World} {b : Nat} {X : Nat → Prop} {d : Dv} (h : refT b d w X) (n : Int) (hn : Num n) : Calls Try.prog 32 #[.pointer (some ⟨b, 0, none⟩), .int .i64 n] w fun e w' => e = .returned (.tuple #[]) ∧ LeftT (refT b (d.halt n)) w X w' := by
  obtain ⟨sv, pv, st, z, h, rfl⟩ := h
  obtain ⟨c0, c1, c2, c3, c4⟩ := h.raw.c
  have f3 := h.raw.fr 3
  have f4 := h.raw.fr 4
  have hr := (h.raw.setStops (decide (0 ≤ n)))
  obtain ⟨e0, e1, e2, e3, e4⟩ := hr.c
  have g4 := hr.fr 4
  go_enter Try.func32, Try.ntmps32
  go_wp2
  go_end0
  refine ⟨rfl, ref_same ((Keep.setCell w _ _ (.inl rfl)).trans (Keep.setCell (X := xDev b sv pv) _ _ _ (.inl rfl)) fun _ _ e => e) ⟨hr.setLeft n, ⟨h.ok.most, h.ok.whole, h.ok.pend⟩, ?_, hn⟩⟩
  by_cases h0 : n < 0
  · exact .inl ⟨by simp; omega, by simp [Dv.halt, h0]⟩
  · exact .inr ⟨by simp; omega, by omega, by simp [Dv.halt, h0]⟩
theorem rbeyond_any {w : World} {b : Nat} {sv pv : Value} {g st : Bool} {z : Int} {last : List (List Nat)} {pend : List (Nat × List Nat)} (h : RawR w b sv pv g st z last pend) (hm : last.length ≤ 65536) (a n : Int) (ha : 0 ≤ a ∧ a ≤ 9223372036854775807) (hn : 0 ≤ n ∧ n ≤ 9223372036854775807) :
    Calls Try.prog 39 #[.pointer (some ⟨b, 0, none⟩), .int .i64 a, .int .i64 n] w fun e w' => e = .returned (.bool (decide ((last.length : Int) - a < n))) ∧ w' = w := by
  obtain ⟨c0, c1, c2, c3, c4⟩ := h.c
  obtain ⟨av, cap, rfl⟩ := row_slice h.sec
  by_cases h1 : (last.length : Int) < a
  · rw [show decide ((last.length : Int) - a < n) = true by simp; omega]
    go_enter Try.func39, Try.ntmps39
    go_wp2
    go_ret
    exact ⟨rfl, rfl⟩
  · have h1' : a ≤ (last.length : Int) := by omega
    go_enter Try.func39, Try.ntmps39
    go_wp2
    go_ret
    exact ⟨by congr 2, rfl⟩
theorem rsector_any {w : World} {b : Nat} {sv pv : Value} {g st : Bool} {z : Int} {last : List (List Nat)} {pend : List (Nat × List Nat)} (h : RawR w b sv pv g st z last pend) (hm : last.length ≤ 65536) (hp : pend.length ≤ 1000000000) {i : Nat} (hi : i < last.length) :
    Calls Try.prog 40 #[.pointer (some ⟨b, 0, none⟩), .int .i64 (i : Nat)] w fun e w' => e = .returned (.string (str (over (last.getD i []) i pend))) ∧ w' = w := by
  obtain ⟨c0, c1, c2, c3, c4⟩ := h.c
  obtain ⟨gs, cap, hsv, _⟩ := row_form h.sec (by omega)
  obtain ⟨s, hs⟩ : ∃ s, last[i]? = some s := ⟨_, List.getElem?_eq_getElem hi⟩
  obtain ⟨cs, _⟩ := h.sector hsv hs
  have hs0 : last.getD i [] = s := by simp [List.getD, hs]
  obtain ⟨av, pc, hpv⟩ := row_slice h.chg
  have HR := hide h
  have HPV := hide hpv
  have HS := hide hs0
  subst hsv hpv
  clear h hs hs0
  go_enter Try.func40, Try.ntmps40
  go_wp2
  go_loop [5, 6] (fun s' j => ∃ k : Nat, k ≤ pend.length ∧ j = .int .i64 k ∧ s' = .string (str (over s i (pend.take k)))) (fun _ j => pend.length - (intOf j).toNat)
  case atStart => exact ⟨0, Nat.zero_le _, rfl, rfl⟩
  case round =>
    obtain ⟨k, hk, rfl, rfl⟩ := hrel
    by_cases hlt : k < pend.length
    · obtain ⟨p, hp0⟩ : ∃ p, pend[k]? = some p := ⟨_, List.getElem?_eq_getElem hlt⟩
      obtain ⟨gp, pc', hpv, _⟩ := row_form HR.out.chg (by omega)
      obtain ⟨q0, q1⟩ := HR.out.put hpv hp0
      simp only [Value.slice.injEq, true_and] at hpv
      obtain ⟨rfl, rfl⟩ := hpv
      have HT : Hid (over s i (pend.take (k + 1)) = if p.1 = i then p.2 else over s i (pend.take k)) := by
        show _ = _
        rw [snoc_take _ _ _ hp0, over_append]
        rfl
      clear hp0
      by_cases he : p.1 = i
      · rw [he] at q0
        rw [if_pos he] at HT
        clear he
        go_wp2
        go_round
        case rel => exact ⟨k + 1, by omega, by go_num, by rw [HT.out]⟩
        case measure => simp [intOf]; omega
      · rw [if_neg he] at HT
        have he' : ((p.1 : Int) == (i : Int)) = false := by simp; omega
        have he2 : ¬ (p.1 : Int) = (i : Int) := by omega
        clear he
        generalize p.1 = P1 at *
        go_wp2
        go_round
        case rel => exact ⟨k + 1, by omega, by go_num, by rw [HT.out]⟩
        case measure => simp [intOf]; omega
    · obtain rfl : k = pend.length := by omega
      rw [List.take_length, ← HS.out]
      go_wp2
      go_ret
      exact ⟨rfl, rfl⟩

end Wi
end Go.Proofs.Ytdcnjaomocehmaa
