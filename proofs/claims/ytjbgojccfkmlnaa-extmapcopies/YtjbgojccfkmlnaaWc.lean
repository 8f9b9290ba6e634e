/- Slices that an object owns, from some place of their block on. -/
import Derived.Test.YtjbgojccfkmlnaaWb
import Derived.ArgAppend
namespace Go.Proofs.Ytjbgojccfkmlnaa
open Go.RowKit
namespace Wi

/-- The value v is a slice of n elements that hold xs, from some place of a block on. -/
def Rw (w : World) (e : TypeId) (size : Nat) (v : Value) (n : Nat) (xs : List Value) : Prop :=
  xs.length = n * size ∧ ((v = .slice none 0 0 ∧ n = 0) ∨
    ∃ g off cap cur, v = .slice (some ⟨g, off, none⟩) n cap ∧ w.heap[g]? = some (.cells cur e (0, 0)) ∧ n ≤ cap ∧ cap ≤ maxLen ∧ off + cap * size ≤ cur.size ∧ (cur.toList.drop off).take (n * size) = xs)
section
variable {w w' : World} {e : TypeId} {size n : Nat} {v : Value} {xs : List Value}
theorem Rw.nil (w : World) (e : TypeId) (size : Nat) : Rw w e size (.slice none 0 0) 0 [] := ⟨by simp, .inl ⟨rfl, rfl⟩⟩
theorem Rw.of_own (h : w.ownsRow 0 e size v n xs) : Rw w e size v n xs := by
  refine ⟨h.1, ?_⟩
  rcases h.2 with hn | ⟨g, cap, cur, hv, _, hg, hnc, hcm, hcs, ht⟩
  · exact .inl hn
  · exact .inr ⟨g, 0, cap, cur, hv, hg, hnc, hcm, by omega, by simpa using ht⟩
theorem Rw.keep {X : Nat → Prop} (h : Rw w e size v n xs) (k : Keep X w w') (hx : ∀ i, v.ownBlock = some i → ¬ X i) : Rw w' e size v n xs := by
  refine ⟨h.1, ?_⟩
  rcases h.2 with hn | ⟨g, off, cap, cur, hv, hg, rest⟩
  · exact .inl hn
  · exact .inr ⟨g, off, cap, cur, hv, (k.block g (lt_of_block hg) (hx g (by rw [hv]; rfl))).trans hg, rest⟩
theorem Rw.later (h : Rw w e size v n xs) (hb : Below w.heap.size w w') : Rw w' e size v n xs := h.keep (X := fun _ => False) (Keep.of_below hb) fun _ _ => id
theorem Rw.lt (h : Rw w e size v n xs) : ∀ k, v.ownBlock = some k → k < w.heap.size := fun k hk => by
  rcases h.2 with ⟨rfl, _⟩ | ⟨g, off, cap, cur, rfl, hg, _⟩
  · simp [Value.ownBlock] at hk
  · simp [Value.ownBlock] at hk
    subst hk
    exact lt_of_block hg
theorem Rw.form (h : Rw w e size v n xs) : ∃ a cap, v = .slice a n cap := by
  rcases h.2 with ⟨rfl, rfl⟩ | ⟨g, off, cap, cur, rfl, _⟩
  · exact ⟨_, _, rfl⟩
  · exact ⟨_, _, rfl⟩
theorem Rw.pos (h : Rw w e size v n xs) (hn : 0 < n) : ∃ g off cap, v = .slice (some ⟨g, off, none⟩) n cap ∧ g < w.heap.size ∧ n ≤ cap ∧ cap ≤ maxLen := by
  rcases h.2 with ⟨rfl, rfl⟩ | ⟨g, off, cap, cur, rfl, hg, h1, h2, _⟩
  · omega
  · exact ⟨g, off, cap, rfl, lt_of_block hg, h1, h2⟩
theorem Rw.cell {g off cap : Nat} (h : Rw w e size (.slice (some ⟨g, off, none⟩) n cap) n xs) {j : Nat} {u : Value} (hj : xs[j]? = some u) : w.cell? ⟨g, off + j, none⟩ = some u ∧ w.frozen? ⟨g, off + j, none⟩ = false := by
  rcases h.2 with ⟨hv, _⟩ | ⟨g', off', cap', cur, hv, hg, h1, h2, h3, h4⟩
  · cases hv
  · cases hv
    refine ⟨?_, frozen_of_row w _ _ _ _ hg⟩
    rw [cell_of_row _ _ _ _ _ _ hg]
    have hl := (List.getElem?_eq_some_iff.1 hj).1
    rw [← h4, List.getElem?_take_of_lt (by rw [h.1] at hl; exact hl), List.getElem?_drop] at hj
    simpa using hj
theorem Rw.cells {g off cap : Nat} (h : Rw w e size (.slice (some ⟨g, off, none⟩) n cap) n xs) : ∀ j u, xs[j]? = some u → w.cell? ((⟨g, off, none⟩ : Addr).add j) = some u := fun j u hj => by
  rw [Addr.add_mid]
  exact (h.cell hj).1
/-- The part of a slice from the element k on. -/
theorem Rw.drop {a : Option Addr} {cap k : Nat} (h : Rw w e size (.slice a n cap) n xs) (hk : k ≤ n) : Rw w e size (.slice (if cap = k then a else a.map (·.add (k * size))) (n - k) (cap - k)) (n - k) (xs.drop (k * size)) := by
  refine ⟨by rw [List.length_drop, h.1, Nat.sub_mul], ?_⟩
  rcases h.2 with ⟨hv, rfl⟩ | ⟨g, off, cap', cur, hv, hg, h1, h2, h3, h4⟩
  · cases hv
    obtain rfl : k = 0 := by omega
    exact .inl ⟨by simp, by simp⟩
  · cases hv
    by_cases hc : cap = k
    · subst hc
      obtain rfl : cap = n := by omega
      refine .inr ⟨g, off, 0, cur, by simp, hg, by omega, by omega, by omega, ?_⟩
      rw [Nat.sub_self, Nat.zero_mul, List.take_zero, ← h.1, List.drop_length]
    · refine .inr ⟨g, off + k * size, cap - k, cur, by rw [if_neg hc]; simp [Addr.add_mid], hg, by omega, by omega, ?_, ?_⟩
      · rw [Nat.sub_mul]
        have : k * size ≤ cap * size := Nat.mul_le_mul_right _ (by omega)
        omega
      · rw [← h4, List.drop_take, Nat.sub_mul, List.drop_drop]
theorem drop_own {a : Option Addr} {n cap k size : Nat} : (Value.slice (if cap = k then a else a.map (·.add (k * size))) (n - k) (cap - k)).ownBlock = (Value.slice a n cap).ownBlock := by
  split
  · cases a <;> rfl
  · cases a with
    | none => rfl
    | some a => simp [Value.ownBlock, Addr.add]; split <;> rfl
/-- Cells of it are written. -/
theorem Rw.set {g off cap : Nat} (h : Rw w e size (.slice (some ⟨g, off, none⟩) n cap) n xs) {o : Nat} {vs : List Value} (hl : o + vs.length ≤ n * size) (h1 : ∀ u ∈ vs, u.oneCell' = true) : Rw (w.setCells g (off + o) vs) e size (.slice (some ⟨g, off, none⟩) n cap) n (splice xs o vs) := by
  rcases h.2 with ⟨hv, _⟩ | ⟨g', off', cap', cur, hv, hg, k1, k2, k3, k4⟩
  · cases hv
  · cases hv
    have hle : n * size ≤ cap * size := Nat.mul_le_mul_right _ k1
    refine ⟨by rw [length_splice _ _ _ (by rw [h.1]; exact hl), h.1], .inr ⟨g, off, cap, _, rfl, by rw [setCells_eq_setRow hg (by omega) h1]; exact setRow_heap w g cur _ e _ hg, k1, k2, ?_, ?_⟩⟩
    · simp only [List.size_toArray]
      rw [length_splice _ _ _ (by simp; omega)]
      simpa using k3
    · have e1 : cur.toList = cur.toList.take off ++ cur.toList.drop off := (List.take_append_drop _ _).symm
      have hA : (cur.toList.take off).length = off := by rw [List.length_take]; simp; omega
      have e2 : splice cur.toList (off + o) vs = cur.toList.take off ++ splice (cur.toList.drop off) o vs := by
        have := splice_behind (cur.toList.take off) (cur.toList.drop off) vs o
        rw [← e1, hA] at this
        exact this
      simp only [e2]
      rw [List.drop_left' hA, splice_take _ _ _ _ hl (by simp; omega), k4]
end
/-- append, onto such a slice. -/
theorem run_append_rw {P : Program} {w : World} (t ty e : TypeId) (i : TypeInfo) (z : Value) (size bytes : Nat) (ht : P.underlying t = some (.slice e)) (hi : P.info? e = some i) (hz : i.zero = some z)
    (hsize : i.size = size) (hby : i.bytes = bytes) (hzs : z.cells.size = size) (hsz : 0 < size)
    (v : Value) (n : Nat) (xs : List Value) (hown : Rw w e size v n xs)
    (a : Addr) (m c : Nat) (news : List Value) (hl : news.length = m * size) (hnews : ∀ j u, news[j]? = some u → w.cell? (a.add j) = some u) (h1 : ∀ u ∈ news, u.oneCell' = true)
    (h63 : n + m ≤ maxLen) (hbytes : (n + m) * bytes ≤ 140737488355328) :
    ∃ v' w', (Builtin.append_ #[t, t] ty #[v, .slice (some a) m c]).run P w = .ok v' w' ∧ Rw w' e size v' (n + m) (xs ++ news) ∧ w.grownBy w' v.ownBlock ∧ Moved w v v' := by
  subst hsize
  subst hby
  rcases hown.2 with ⟨rfl, rfl⟩ | ⟨g, off, cap, cur, rfl, hg, hnc, hcm, hcs, htake⟩
  · have hx : xs = [] := List.eq_nil_of_length_eq_zero (by simpa using hown.1)
    subst hx
    obtain ⟨v', w', hr, ho, hgr, hm⟩ := run_append_moved (P := P) (w := w) t ty e i z i.size i.bytes ht hi hz rfl rfl hzs hsz (.slice none 0 0) 0 [] (World.ownsRow_nil w 0 e i.size) a m c news hl hnews h1 h63 hbytes
    exact ⟨v', w', hr, Rw.of_own ho, hgr, hm⟩
  · have hlen : (xs ++ news).length = (n + m) * i.size := by rw [List.length_append, hown.1, hl, Nat.add_mul]
    by_cases hroom : n + m ≤ cap
    · have hle : (n + m) * i.size ≤ cap * i.size := Nat.mul_le_mul_right _ hroom
      have hfit : off + n * i.size + news.length ≤ cur.size := by rw [hl]; rw [Nat.add_mul] at hle; omega
      have hr := run_append_room_cells (P := P) w t ty e i ht hi g off n cap a m c news hl hnews h1 hroom
        (fun j hj => by rw [cell_of_row _ _ _ _ _ _ hg, Array.getElem?_eq_getElem (by omega)]; rfl) (fun j _ => frozen_of_row w _ _ _ _ hg)
      refine ⟨_, _, hr, ⟨hlen, .inr ⟨g, off, cap, _, rfl, by rw [setCells_eq_setRow hg hfit h1]; exact setRow_heap w g cur _ e _ hg, hroom, hcm, ?_, ?_⟩⟩, ?_, .inl rfl⟩
      · simp only [List.size_toArray]
        rw [length_splice _ _ _ (by simpa using hfit)]
        simpa using hcs
      · have e1 : cur.toList = cur.toList.take off ++ cur.toList.drop off := (List.take_append_drop _ _).symm
        have hA : (cur.toList.take off).length = off := by rw [List.length_take]; simp; omega
        have e2 : splice cur.toList (off + n * i.size) news = cur.toList.take off ++ splice (cur.toList.drop off) (n * i.size) news := by
          have := splice_behind (cur.toList.take off) (cur.toList.drop off) news (n * i.size)
          rw [← e1, hA] at this
          exact this
        simp only [e2]
        rw [List.drop_left' hA, splice, htake, ← List.append_assoc, ← hlen, List.take_left]
      · have k := Keep.setCells (X := fun j => j = g) g rfl news (off + n * i.size) w
        exact ⟨k.os, k.tape, k.output, k.size, fun j hj hn => k.block j hj fun e => hn (by rw [e]; rfl)⟩
    · have hr := run_append_grow (P := P) w t ty e i z ht hi hz ⟨g, off, none⟩ n cap xs hown.1 hown.cells a m c news hl hnews (by omega) (by simp only [maxLen] at h63; omega) (growslice_fits (by omega) hbytes)
      have hge := grownCap_ge w (n + m) cap e
      have hcm : grownCap w (n + m) cap e ≤ maxLen := grownCap_le_maxLen w (n + m) cap e h63
      refine ⟨_, _, hr, Rw.of_own ⟨hlen, .inr ⟨w.heap.size, _, _, rfl, Nat.zero_le _, heap_alloc_new w.drew _, hge, hcm, ?_, ?_⟩⟩, ⟨rfl, rfl, rfl, by simp, fun k hk _ => heap_alloc_old w.drew _ hk⟩, .inr fun k hk => by simp [Value.ownBlock] at hk; omega⟩
      · simp only [Array.size_append, List.size_toArray, size_zeroCells, hzs, hown.1, hl, ← Nat.add_mul]
        congr 1
        omega
      · simp only [Array.toList_append, List.append_assoc]
        rw [← List.append_assoc, ← hlen]
        exact List.take_left
theorem step_append_rw {P : Program} {ops : Array Oper} {o : Oper} {a : Act} {w : World} {K : Act → World → Prop} {Q : Exit → Act → World → Prop} {E : Prop}
    (hg : o.guard = none) (s x : Operand) (t : TypeId) (hop : o.op = Op.call { callee := Callee.builtin Builtin.append, args := #[s, x], argTypes := #[t, t] })
    (e : TypeId) (i : TypeInfo) (z : Value) (size bytes : Nat) (ht : P.underlying t = some (.slice e)) (hi : P.info? e = some i) (hz : i.zero = some z)
    (hsize : i.size = size) (hby : i.bytes = bytes) (hzs : z.cells.size = size) (hsz : 0 < size)
    (v : Value) (n : Nat) (xs : List Value) (hs : a.eval s = v) (hown : Rw w e size v n xs)
    (ad : Addr) (m c : Nat) (news : List Value) (hx : a.eval x = .slice (some ad) m c) (hl : news.length = m * size) (hnews : ∀ j u, news[j]? = some u → w.cell? (ad.add j) = some u) (h1 : ∀ u ∈ news, u.oneCell' = true)
    (h63 : n + m ≤ maxLen) (hbytes : (n + m) * bytes ≤ 140737488355328)
    (hK : ∀ v' w', Rw w' e size v' (n + m) (xs ++ news) → w.grownBy w' v.ownBlock → Moved w v v' → K (a.put o.dst v') w') :
    if Region.wanted o (yielded ops a.tmps) = true then Oper.wp P o a w K Q else E := by
  have hw : Region.wanted o (yielded ops a.tmps) = true := by simp [Region.wanted, hg]
  rw [if_pos hw]
  obtain ⟨v', w', hrun, r1, r2, r3⟩ := run_append_rw (P := P) (w := w) t o.type e i z size bytes ht hi hz hsize hby hzs hsz v n xs hown ad m c news hl hnews h1 h63 hbytes
  unfold Oper.wp
  simp [execOp, hop, resolve, invoke, builtin, hs, hx, hrun, Result.andThen]
  exact hK v' w' r1 r2 r3
theorem wpList_append_rw {P : Program} {w : World} {ops : Array Oper} {rest : List Oper} {o : Oper} {a : Act} {Q : Exit → Act → World → Prop} (hgd : o.guard = none) (s x : Operand) (t : TypeId)
    (ho : o.op = .call { callee := .builtin .append, args := #[s, x], argTypes := #[t, t] })
    (e : TypeId) (i : TypeInfo) (z : Value) (size bytes : Nat) (ht : P.underlying t = some (.slice e)) (hi : P.info? e = some i) (hz : i.zero = some z)
    (hsize : i.size = size) (hby : i.bytes = bytes) (hzs : z.cells.size = size) (hsz : 0 < size)
    (v : Value) (n : Nat) (xs : List Value) (hs : a.eval s = v) (hown : Rw w e size v n xs)
    (ad : Addr) (m c : Nat) (news : List Value) (hx : a.eval x = .slice (some ad) m c) (hl : news.length = m * size) (hnews : ∀ j u, news[j]? = some u → w.cell? (ad.add j) = some u) (h1 : ∀ u ∈ news, u.oneCell' = true)
    (h63 : n + m ≤ maxLen) (hbytes : (n + m) * bytes ≤ 140737488355328)
    (h : ∀ v' w', Rw w' e size v' (n + m) (xs ++ news) → w.grownBy w' v.ownBlock → Moved w v v' → wpList P ops Q rest (a.put o.dst v') w') : wpList P ops Q (o :: rest) a w := by
  refine wpList_plain hgd fun _ hK => ?_
  obtain ⟨v', w', hr, h2, h3, h4⟩ := run_append_rw (P := P) (w := w) t o.type e i z size bytes ht hi hz hsize hby hzs hsz v n xs hown ad m c news hl hnews h1 h63 hbytes
  unfold Oper.wp execOp
  simp only [ho, resolve, invoke, builtin, Sem.run_bind, Sem.run_pure, Result.andThen_ok, List.map_toArray, List.map_cons, List.map_nil, hs, hx, hr]
  exact hK _ _ (h v' w' h2 h3 h4)
theorem Rw.own_form {w : World} {v : Value} {e : TypeId} {size n : Nat} {xs : List Value} (h : Rw w e size v n xs) : ∃ a m c, v = .slice a m c := let ⟨a, c, h⟩ := h.form; ⟨a, n, c, h⟩

end Wi
end Go.Proofs.Ytjbgojccfkmlnaa
