/- A list of texts that grows; which texts names have, and which of them Sift takes. -/
import Derived.Test.YtnfakgdgjkgekaaDoorWs
import Derived.Test.YtnfakgdgjkgekaaDoorLw
import Derived.Test.YtnfakgdgjkgekaaDoorWu
namespace Go.Proofs.YtnfakgdgjkgekaaDoor
open Go.RowKit
namespace Wi

def encT (l : List ByteArray) : List Value := l.map fun s => .string s
theorem encT_append (l m : List ByteArray) : encT (l ++ m) = encT l ++ encT m := List.map_append
theorem encT_one (l : List ByteArray) : ∀ u ∈ encT l, u.oneCell' = true := by
  intro u hu
  obtain ⟨o, _, rfl⟩ := List.mem_map.1 hu
  rfl
theorem encT_get {l : List ByteArray} {j : Nat} {x : ByteArray} (h : l[j]? = some x) : (encT l)[j]? = some (.string x) := by simp [encT, h]
theorem info9 : (Tryd.prog.info? 9).map (fun i => (i.zero, i.size, i.bytes)) = some (some (.string { data := #[] }), 1, 16) := by kernel_rfl
set_option maxRecDepth 20000 in
theorem append37 {w : World} {ops : Array Oper} {rest : List Oper} {o : Oper} {a : Act} {Q : Exit → Act → World → Prop} (hgd : o.guard = none) (s x : Operand)
    (ho : o.op = .call { callee := .builtin .append, args := #[s, x], argTypes := #[37, 37] })
    (v : Value) (n : Nat) (xs : List Value) (hs : a.eval s = v) (hown : Rw w 9 1 v n xs)
    (ad : Addr) (c : Nat) (t : ByteArray) (hx : a.eval x = .slice (some ad) 1 c) (hI : w.cell? ad = some (.string t))
    (h63 : n + 1 ≤ maxLen) (hbytes : (n + 1) * 16 ≤ 140737488355328)
    (h : ∀ v' w', Rw w' 9 1 v' (n + 1) (xs ++ encT [t]) → w.grownBy w' v.ownBlock → Moved w v v' → wpList Tryd.prog ops Q rest (a.put o.dst v') w') : wpList Tryd.prog ops Q (o :: rest) a w := by
  refine wpList_plain hgd fun _ hK => ?_
  obtain ⟨i0, hi, hz0, hz1, hz2⟩ := info_parts info9
  obtain ⟨v', w', hr, h2, h3, h4⟩ := run_append_rw (w := w) 37 o.type 9 i0 _ 1 16 Tryd.underlying37 hi hz0 hz1 hz2 rfl (by decide) v n xs hown ad 1 c (encT [t]) rfl (fun j u hj => by
    cases j with
    | zero => simp [encT] at hj; subst hj; simpa [Addr.add] using hI
    | succ j => simp [encT] at hj) (encT_one _) h63 hbytes
  unfold Oper.wp execOp
  simp only [ho, resolve, invoke, builtin, Sem.run_bind, Sem.run_pure, Result.andThen_ok, List.map_toArray, List.map_cons, List.map_nil, hs, hx, hr]
  exact hK _ _ (h v' w' h2 h3 h4)
/-- New memory that holds texts. -/
structure NewS (w : World) (l : List ByteArray) (n : Nat) (w' : World) (v : Value) : Prop where
  len : l.length = n
  row : Rw w' 9 1 v n (encT l)
  new : From w.heap.size v
  below : Below w.heap.size w w'
theorem NewS.later {w w1 w2 : World} {l : List ByteArray} {n : Nat} {v : Value} (h : NewS w l n w1 v) (hb : Below w1.heap.size w1 w2) : NewS w l n w2 v := ⟨h.len, h.row.later hb, h.new, h.below.trans (hb.mono h.below.size)⟩
theorem NewS.nil {w w' : World} (hb : Below w.heap.size w w') : NewS w [] 0 w' (.slice none 0 0) := ⟨rfl, Rw.nil _ _ _, From.nil _ _ _, hb⟩
theorem NewS.grow {w w1 w2 w3 : World} {l : List ByteArray} {t : ByteArray} {n : Nat} {v v2 : Value} (h : NewS w l n w1 v) (hb : Below w1.heap.size w1 w2) (g1 : Rw w3 9 1 v2 (n + 1) (encT l ++ encT [t])) (g2 : w2.grownBy w3 v.ownBlock) (g3 : Moved w2 v v2) : NewS w (l ++ [t]) (n + 1) w3 v2 := by
  have hb2 : Below w.heap.size w w2 := h.below.trans (hb.mono h.below.size)
  exact ⟨by rw [List.length_append, h.len]; rfl, by rw [encT_append]; exact g1, h.new.moved g3 hb2.size, below_grown hb2 g2 hb2.size h.new⟩
theorem NewS.ss {w w' : World} {l : List ByteArray} {n c : Nat} {a : Option Addr} (h : NewS w l n w' (.slice a n c)) (hn : n ≤ 9223372036854775807) (hl : ∀ s ∈ l, s.size ≤ 9223372036854775807) : Ss w' a n l :=
  ⟨h.len.symm, hn, hl, fun i x hi => by
    have hlt := (List.getElem?_eq_some_iff.1 hi).1
    have hle := h.len
    obtain ⟨g, off, c', hv, hg, _⟩ := h.row.pos (by omega)
    injection hv with e1 e2 e3
    subst e1 e3
    exact ⟨g, off, rfl, hg, (h.row.cell (encT_get hi)).1⟩⟩
/-- Has a name a text? -/
def okN (o : NmV) : Bool := decide (prnE o.v o.k o.q = 0)
/-- The texts of names. -/
def txt (l : List NmV) : List ByteArray := (l.filter okN).map fun o => prnS o.v o.k o.q
theorem txt_snoc {l : List NmV} {k : Nat} {o : NmV} (h : l[k]? = some o) : txt (l.take (k + 1)) = txt (l.take k) ++ (if okN o then [prnS o.v o.k o.q] else []) := by
  unfold txt
  rw [snoc_take _ _ _ h, List.filter_append, List.map_append]
  congr 1
  cases ho : okN o <;> simp [ho]
theorem prn_fit {v : ByteArray} {z q : Int} (h : prnE v z q = 0) : (prnS v z q).size ≤ 45 := by
  have hvs := vol_size (prn_ok h).1
  rw [show prnS v z q = str (prnL v z q) by simp [prnS, h], str_size, prnL, preL, List.length_append, List.length_append, dgs_length, bs_length]
  show v.size + 3 + 10 ≤ _
  omega
theorem txt_fit (l : List NmV) : ∀ s ∈ txt l, s.size ≤ 9223372036854775807 := fun s hs => by
  obtain ⟨o, ho, rfl⟩ := List.mem_map.1 hs
  have := prn_fit (of_decide_eq_true (List.mem_filter.1 ho).2)
  omega
/-- Is it a name of that volume, kind and number? -/
def hit (v : ByteArray) (z q : Int) (o : NmV) : Bool := okN o && (decide (o.v = v) && (decide (o.k = z) && (o.q == q)))
theorem sift_txt (l : List NmV) (v : ByteArray) (z x : Int) : x ∈ siftL (txt l) v z ↔ l.any (hit v z x) = true := by
  rw [List.any_eq_true]
  constructor
  · intro h
    obtain ⟨s, hs, rfl⟩ := List.mem_map.1 h
    obtain ⟨hs, hi⟩ := List.mem_filter.1 hs
    obtain ⟨o, ho, rfl⟩ := List.mem_map.1 hs
    obtain ⟨ho, hk⟩ := List.mem_filter.1 ho
    obtain ⟨_, b2, b3, b4⟩ := back1 (of_decide_eq_true hk)
    refine ⟨o, ho, ?_⟩
    unfold isOf at hi
    simp only [Bool.and_eq_true, decide_eq_true_eq] at hi
    unfold hit
    rw [hk]
    simp only [Bool.true_and, Bool.and_eq_true, decide_eq_true_eq, beq_iff_eq]
    exact ⟨by rw [← b2]; exact hi.2.1, by rw [← b3]; exact hi.2.2, b4.symm⟩
  · rintro ⟨o, ho, hh⟩
    unfold hit at hh
    simp only [Bool.and_eq_true, decide_eq_true_eq, beq_iff_eq] at hh
    obtain ⟨hk, rfl, rfl, rfl⟩ := hh
    obtain ⟨b1, b2, b3, b4⟩ := back1 (of_decide_eq_true hk)
    refine List.mem_map.2 ⟨prnS o.v o.k o.q, List.mem_filter.2 ⟨List.mem_map.2 ⟨o, List.mem_filter.2 ⟨ho, hk⟩, rfl⟩, ?_⟩, b4⟩
    have hok : okP (prnS o.v o.k o.q) = true := by
      cases h : okP (prnS o.v o.k o.q) with
      | true => rfl
      | false => unfold parE at b1; rw [h] at b1; simp at b1
    unfold isOf
    rw [hok, b2, b3]
    simp
theorem Ns.later {w : World} {a : Option Addr} {n : Nat} {xs : List NmV} (h : Ns w a n xs) {wr : World} (hb : Below w.heap.size w wr) : Ns wr a n xs :=
  ⟨h.len, h.most, h.ok, fun i s hi => by
    obtain ⟨b, off, ha, hbl, c0⟩ := h.cells i s hi
    exact ⟨b, off, ha, Nat.lt_of_lt_of_le hbl hb.size, fun j v hv => (hb.cell (p := ⟨b, off + i * 3 + j, none⟩) hbl).trans (c0 j v hv)⟩⟩
theorem nm_cells {w : World} {b off : Nat} {o : NmV} (h : w.rangeAt b off o.cells) : w.cell? ⟨b, off, none⟩ = some (.string o.v) ∧ w.cell? ⟨b, off + 1, none⟩ = some (.int .i64 o.k) ∧ w.cell? ⟨b, off + 2, none⟩ = some (.int .i64 o.q) :=
  ⟨h 0 _ rfl, h 1 _ rfl, h 2 _ rfl⟩
theorem spot_of (t : Int) (n : Nat) (h : 0 < n) : ∃ (r : Int) (j : Nat), t.tmod n = r ∧ -(n : Int) < r ∧ r < n ∧ j < n ∧ (r + n).tmod n = (j : Int) := by
  have h1 := Int.tmod_lt_of_pos t (show (0 : Int) < n by omega)
  have h2 := Int.lt_tmod_of_pos t (show (0 : Int) < n by omega)
  have h3 := Int.tmod_lt_of_pos (t.tmod n + n) (show (0 : Int) < n by omega)
  have h4 := Int.tmod_nonneg (n : Int) (show 0 ≤ t.tmod n + n by omega)
  exact ⟨t.tmod n, ((t.tmod n + n).tmod n).toNat, rfl, h2, h1, by omega, by omega⟩
theorem any_take {l : List NmV} {k : Nat} {o : NmV} (h : l[k]? = some o) (f : NmV → Bool) : (l.take (k + 1)).any f = ((l.take k).any f || f o) := by
  rw [snoc_take _ _ _ h, List.any_append]
  simp
theorem has_take {zs : List Int} {k : Nat} {x y : Int} (h : zs[k]? = some x) : (zs.take (k + 1)).contains y = ((zs.take k).contains y || x == y) := by
  rw [snoc_take _ _ _ h, List.contains_eq_any_beq, List.contains_eq_any_beq, List.any_append]
  simp [Bool.beq_comm]

end Wi
end Go.Proofs.YtnfakgdgjkgekaaDoor
