/- A part of the proofs about package span: what its functions answer, call by call. -/
import Derived.Test.YthbgniclplfpgaaWe
namespace Go.Proofs.Ythbgniclplfpgaa
open Go.RowKit
namespace Sp

/-- The slice's own block is not among the first B. -/
def From (B : Nat) (v : Value) : Prop := ∀ k, v.ownBlock = some k → B ≤ k
/-- v' lies where v lay, or in memory that is new. -/
def Moved (w : World) (v v' : Value) : Prop := v'.ownBlock = v.ownBlock ∨ From w.heap.size v'
theorem From.moved {B : Nat} {w : World} {v v' : Value} (h : From B v) (hm : Moved w v v') (hB : B ≤ w.heap.size) : From B v' := fun k hk => by
  rcases hm with hm | hm
  · exact h k (hm ▸ hk)
  · exact Nat.le_trans hB (hm k hk)
theorem apart_moved {w : World} {v v' : Value} {g : Nat} (h : v.ownBlock ≠ some g) (hm : Moved w v v') (hg : g < w.heap.size) : v'.ownBlock ≠ some g := by
  rcases hm with hm | hm
  · rw [hm]; exact h
  · intro e; have := hm g e; omega
theorem Moved.refl (w : World) (v : Value) : Moved w v v := .inl rfl
theorem Moved.trans {w w1 : World} {v v1 v2 : Value} (h : Moved w v v1) (h1 : Moved w1 v1 v2) (hs : w.heap.size ≤ w1.heap.size) : Moved w v v2 := by
  rcases h1 with h1 | h1
  · rcases h with h | h
    · exact .inl (h1.trans h)
    · exact .inr fun k hk => h k (h1 ▸ hk)
  · exact .inr fun k hk => Nat.le_trans hs (h1 k hk)
theorem From.nil (B : Nat) (n c : Nat) : From B (.slice none n c) := fun k hk => by simp [Value.ownBlock] at hk
/-- A growth of one row of the call's own keeps all that lay below. -/
theorem below_grown {B : Nat} {a w w' : World} {v : Value} (h : Below B a w) (hg : w.grownBy w' v.ownBlock) (hB : B ≤ w.heap.size) (hv : From B v) : Below B a w' := h.grown hg hB hv

theorem run_append_moved {P : Program} {w : World} (t ty e : TypeId) (i : TypeInfo) (z : Value) (size bytes : Nat) (ht : P.underlying t = some (.slice e)) (hi : P.info? e = some i) (hz : i.zero = some z)
    (hsize : i.size = size) (hby : i.bytes = bytes) (hzs : z.cells.size = size) (hsz : 0 < size)
    (v : Value) (n : Nat) (xs : List Value) (hown : w.ownsRow 0 e size v n xs)
    (a : Addr) (m c : Nat) (news : List Value) (hl : news.length = m * size) (hnews : ∀ j u, news[j]? = some u → w.cell? (a.add j) = some u) (h1 : ∀ u ∈ news, u.oneCell' = true)
    (h63 : n + m ≤ maxLen) (hbytes : (n + m) * bytes ≤ 140737488355328) :
    ∃ v' w', (Builtin.append_ #[t, t] ty #[v, .slice (some a) m c]).run P w = .ok v' w' ∧ w'.ownsRow 0 e size v' (n + m) (xs ++ news) ∧ w.grownBy w' v.ownBlock ∧ Moved w v v' := by
  obtain ⟨v', w', hr, ho, hg, hn⟩ := run_append_own (P := P) w 0 t ty e i z size bytes ht hi hz hsize hby hzs hsz v n xs hown a m c news hl hnews h1 h63 hbytes (Nat.zero_le _)
  refine ⟨v', w', hr, ho, hg, ?_⟩
  subst hsize
  rcases hown.2 with ⟨hv, hn0⟩ | ⟨g, cap, cur, hv, hbg, hgg, hnc, hcm, hcs, htake⟩
  · obtain ⟨v2, w2, hr2, ho2, _⟩ := run_append_own (P := P) w w.heap.size t ty e i z i.size bytes ht hi hz rfl hby hzs hsz v n xs ⟨hown.1, .inl ⟨hv, hn0⟩⟩ a m c news hl hnews h1 h63 hbytes (Nat.le_refl _)
    rw [hr] at hr2
    cases hr2
    exact .inr fun k hk => (ho2.lt k hk).1
  · by_cases hroom : n + m ≤ cap
    · have hfit : n * i.size + news.length ≤ cur.size := by rw [hl, hcs, ← Nat.add_mul]; exact Nat.mul_le_mul_right _ hroom
      have hr2 := run_append_room (P := P) w t ty e i ht hi g n cap cur hgg a m c news hl hnews h1 hroom hfit
      rw [hv] at hr ⊢
      rw [hr2] at hr
      cases hr
      exact .inl rfl
    · subst hv
      have holds : ∀ j u, xs[j]? = some u → w.cell? ((⟨g, 0, none⟩ : Addr).add j) = some u := hown.cells (g := g) rfl
      subst hby
      have hr2 := run_append_grow (P := P) w t ty e i z ht hi hz ⟨g, 0, none⟩ n cap xs hown.1 holds a m c news hl hnews (by omega) (by simp only [maxLen] at h63; omega) (growslice_fits (by omega) hbytes)
      rw [hr2] at hr
      cases hr
      exact .inr fun k hk => by simp [Value.ownBlock] at hk; omega

theorem wpList_append_moved {P : Program} {w : World} {ops : Array Oper} {rest : List Oper} {o : Oper} {a : Act} {Q : Exit → Act → World → Prop} (hgd : o.guard = none) (s x : Operand) (t : TypeId)
    (ho : o.op = .call { callee := .builtin .append, args := #[s, x], argTypes := #[t, t] })
    (e : TypeId) (i : TypeInfo) (z : Value) (size bytes : Nat) (ht : P.underlying t = some (.slice e)) (hi : P.info? e = some i) (hz : i.zero = some z)
    (hsize : i.size = size) (hby : i.bytes = bytes) (hzs : z.cells.size = size) (hsz : 0 < size)
    (v : Value) (n : Nat) (xs : List Value) (hs : a.eval s = v) (hown : w.ownsRow 0 e size v n xs)
    (ad : Addr) (m c : Nat) (news : List Value) (hx : a.eval x = .slice (some ad) m c) (hl : news.length = m * size) (hnews : ∀ j u, news[j]? = some u → w.cell? (ad.add j) = some u) (h1 : ∀ u ∈ news, u.oneCell' = true)
    (h63 : n + m ≤ maxLen) (hbytes : (n + m) * bytes ≤ 140737488355328)
    (h : ∀ v' w', w'.ownsRow 0 e size v' (n + m) (xs ++ news) → w.grownBy w' v.ownBlock → Moved w v v' → wpList P ops Q rest (a.put o.dst v') w') : wpList P ops Q (o :: rest) a w := by
  refine wpList_plain hgd fun _ hK => ?_
  obtain ⟨v', w', hr, h2, h3, h4⟩ := run_append_moved (P := P) (w := w) t o.type e i z size bytes ht hi hz hsize hby hzs hsz v n xs hown ad m c news hl hnews h1 h63 hbytes
  unfold Oper.wp execOp
  simp only [ho, resolve, invoke, builtin, Sem.run_bind, Sem.run_pure, Result.andThen_ok, List.map_toArray, List.map_cons, List.map_nil, hs, hx, hr]
  exact hK _ _ (h v' w' h2 h3 h4)

/-- The cells of spans, one behind the other. -/
def enc2 : List (Int × Int) → List Value
  | [] => []
  | x :: r => .int .i64 x.1 :: .int .i64 x.2 :: enc2 r
theorem enc2_length : ∀ xs, (enc2 xs).length = xs.length * 2
  | [] => rfl
  | _ :: r => by simp [enc2, enc2_length r]; omega
theorem enc2_append : ∀ xs ys, enc2 (xs ++ ys) = enc2 xs ++ enc2 ys
  | [], _ => rfl
  | _ :: r, ys => by simp [enc2, enc2_append r ys]
theorem enc2_get0 : ∀ (xs : List (Int × Int)) (i : Nat), i < xs.length → (enc2 xs)[i * 2]? = some (.int .i64 (nth xs i).1)
  | [], i, h => by simp at h
  | x :: r, 0, _ => rfl
  | x :: r, i + 1, h => by
    have := enc2_get0 r i (by simpa using h)
    rw [show (i + 1) * 2 = i * 2 + 2 by omega]
    simpa [enc2, nth] using this
theorem enc2_get1 : ∀ (xs : List (Int × Int)) (i : Nat), i < xs.length → (enc2 xs)[i * 2 + 1]? = some (.int .i64 (nth xs i).2)
  | [], i, h => by simp at h
  | x :: r, 0, _ => rfl
  | x :: r, i + 1, h => by
    have := enc2_get1 r i (by simpa using h)
    rw [show (i + 1) * 2 + 1 = i * 2 + 1 + 2 by omega]
    simpa [enc2, nth] using this
theorem enc2_oneCell : ∀ xs, ∀ u ∈ enc2 xs, u.oneCell' = true
  | [], u, h => by simp [enc2] at h
  | x :: r, u, h => by
    simp only [enc2, List.mem_cons] at h
    rcases h with rfl | rfl | h
    · rfl
    · rfl
    · exact enc2_oneCell r u h

/-- The value v owns the spans xs. -/
def Own (w : World) (v : Value) (xs : List (Int × Int)) : Prop := w.ownsRow 0 27 2 v xs.length (enc2 xs)
theorem Own.nil (w : World) : Own w (.slice none 0 0) [] := World.ownsRow_nil w 0 27 2
theorem Own.kept {w w' : World} {v : Value} {xs : List (Int × Int)} {row : Option Nat} (h : Own w v xs) (hg : w.grownBy w' row) (hne : v.ownBlock = none ∨ v.ownBlock ≠ row) : Own w' v xs := World.ownsRow.kept h hg hne
/-- .. it is kept where all lies as it lay. -/
theorem Own.later {w w' : World} {v : Value} {xs : List (Int × Int)} (h : Own w v xs) (hb : Below w.heap.size w w') : Own w' v xs :=
  h.kept (row := none) ⟨hb.os, hb.tape, hb.output, hb.size, fun k hk _ => hb.block k hk⟩ (by rcases hv : v.ownBlock with _ | k <;> simp)
theorem Own.lt {w : World} {v : Value} {xs : List (Int × Int)} (h : Own w v xs) (g : Nat) (hg : w.heap.size ≤ g) : v.ownBlock ≠ some g := fun e => by
  have := (World.ownsRow.lt h g e).2; omega
/-- .. and what is owned can be read. -/
theorem Own.sl {w : World} {v : Value} {xs : List (Int × Int)} (h : Own w v xs) (hf : ∀ x ∈ xs, Fit x) : ∃ a cap, v = .slice a xs.length cap ∧ Sl w a xs.length xs := by
  obtain ⟨hl, h2⟩ := id h
  rcases h2 with ⟨hv, hn⟩ | ⟨g, cap, cur, hv, hbg, hgg, hnc, hcm, hcs, htake⟩
  · have : xs = [] := List.eq_nil_of_length_eq_zero hn
    subst this
    exact ⟨none, 0, hv, rfl, by simp, hf, fun i hi => by simp at hi⟩
  · refine ⟨some ⟨g, 0, none⟩, cap, hv, rfl, Nat.le_trans hnc (by simpa [maxLen] using hcm), hf, fun i hi => ⟨g, 0, rfl, (Array.getElem?_eq_some_iff.1 hgg).1, ?_, ?_⟩⟩
    · have := World.ownsRow.cellAt (w := w) (base := 0) (e := 27) (size := 2) (g := g) (n := xs.length) (cap := cap) (xs := enc2 xs) (hv ▸ h) (i * 2) (by omega)
      rw [Nat.zero_add, this, enc2_get0 xs i hi]
    · have := World.ownsRow.cellAt (w := w) (base := 0) (e := 27) (size := 2) (g := g) (n := xs.length) (cap := cap) (xs := enc2 xs) (hv ▸ h) (i * 2 + 1) (by omega)
      rw [Nat.zero_add, this, enc2_get1 xs i hi]
/-- What one call's own memory grew by leaves the rest as it lay. -/
theorem grown_none {w w' : World} {v : Value} (hg : w.grownBy w' v.ownBlock) (hv : v.ownBlock = none) : Below w.heap.size w w' :=
  ⟨hg.os, hg.tape, hg.output, hg.size, fun k hk => hg.block k hk (by rw [hv]; simp)⟩
theorem gcell {w w' : World} {v : Value} (hg : w.grownBy w' v.ownBlock) {a : Addr} {u : Value} (h : w.cell? a = some u) (hne : v.ownBlock ≠ some a.block) : w'.cell? a = some u := hg.cell h (fun e => hne e.symm)
theorem below_grownBy {w w' : World} (hb : Below w.heap.size w w') (row : Option Nat) : w.grownBy w' row := ⟨hb.os, hb.tape, hb.output, hb.size, fun k hk _ => hb.block k hk⟩
theorem grownBy_trans {a b c : World} {v v' : Value} (h : a.grownBy b v.ownBlock) (h' : b.grownBy c v'.ownBlock) (hm : Moved a v v') : a.grownBy c v.ownBlock :=
  ⟨h'.os.trans h.os, h'.tape.trans h.tape, h'.output.trans h.output, Nat.le_trans h.size h'.size, fun k hk hne => by
    rw [h'.block k (Nat.lt_of_lt_of_le hk h.size) (fun e => ?_), h.block k hk hne]
    rcases hm with hm | hm
    · exact hne (e.trans hm)
    · have := hm k e.symm; omega⟩

end Sp
end Go.Proofs.Ythbgniclplfpgaa
