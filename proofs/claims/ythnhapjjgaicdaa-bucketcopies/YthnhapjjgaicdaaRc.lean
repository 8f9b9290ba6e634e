/- The document's bucket: an object is made, or taken away. -/
import Derived.Test.YthnhapjjgaicdaaRb
namespace Go.Proofs.Ythnhapjjgaicdaa
open Go.RowKit
namespace Wi

theorem info73 : (Try.prog.info? 73).map (fun i => (i.zero, i.size, i.bytes)) = some (some (.agg #[.string { data := #[] }, .string { data := #[] }]), 2, 32) := by kernel_rfl
/-- append of a slice that may be nil. -/
theorem run_append_rws {P : Program} {w : World} (t ty e : TypeId) (i : TypeInfo) (z : Value) (size bytes : Nat) (ht : P.underlying t = some (.slice e)) (hi : P.info? e = some i) (hz : i.zero = some z)
    (hsize : i.size = size) (hby : i.bytes = bytes) (hzs : z.cells.size = size) (hsz : 0 < size)
    (v : Value) (n : Nat) (xs : List Value) (hown : Rw w e size v n xs)
    (a : Option Addr) (m c : Nat) (news : List Value) (hsrc : Rw w e size (.slice a m c) m news) (h1 : ∀ u ∈ news, u.oneCell' = true)
    (h63 : n + m ≤ maxLen) (hbytes : (n + m) * bytes ≤ 140737488355328) :
    ∃ v' w', (Builtin.append_ #[t, t] ty #[v, .slice a m c]).run P w = .ok v' w' ∧ Rw w' e size v' (n + m) (xs ++ news) ∧ w.grownBy w' v.ownBlock ∧ Moved w v v' := by
  rcases hsrc.2 with ⟨hv, rfl⟩ | ⟨g, off, cap, cur, hv, _⟩
  · injection hv with e1 _ e3
    subst e1 e3
    have hx : news = [] := List.eq_nil_of_length_eq_zero (by simpa using hsrc.1)
    subst hx
    refine ⟨v, w, ?_, by simpa using hown, ⟨rfl, rfl, rfl, Nat.le_refl _, fun _ _ _ => rfl⟩, Moved.refl _ _⟩
    rcases hown.2 with ⟨rfl, rfl⟩ | ⟨g, off, cap, cur, rfl, _, hnc, _⟩
    · simp [Builtin.append_, run_underlying ht, sizeOf, typeInfo, hi, Builtin.lenOf, Builtin.firstCells]
    · simp [Builtin.append_, run_underlying ht, sizeOf, typeInfo, hi, Builtin.lenOf, Builtin.firstCells, hnc, storeCells]
  · injection hv with e1 _ e3
    subst e1
    exact run_append_rw t ty e i z size bytes ht hi hz hsize hby hzs hsz v n xs hown ⟨g, off, none⟩ m c news hsrc.1 hsrc.cells h1 h63 hbytes
theorem wpList_append_rws {P : Program} {w : World} {ops : Array Oper} {rest : List Oper} {o : Oper} {a : Act} {Q : Exit → Act → World → Prop} (hgd : o.guard = none) (s x : Operand) (t : TypeId)
    (ho : o.op = .call { callee := .builtin .append, args := #[s, x], argTypes := #[t, t] })
    (e : TypeId) (i : TypeInfo) (z : Value) (size bytes : Nat) (ht : P.underlying t = some (.slice e)) (hi : P.info? e = some i) (hz : i.zero = some z)
    (hsize : i.size = size) (hby : i.bytes = bytes) (hzs : z.cells.size = size) (hsz : 0 < size)
    (v : Value) (n : Nat) (xs : List Value) (hs : a.eval s = v) (hown : Rw w e size v n xs)
    (ad : Option Addr) (m c : Nat) (news : List Value) (hx : a.eval x = .slice ad m c) (hsrc : Rw w e size (.slice ad m c) m news) (h1 : ∀ u ∈ news, u.oneCell' = true)
    (h63 : n + m ≤ maxLen) (hbytes : (n + m) * bytes ≤ 140737488355328)
    (h : ∀ v' w', Rw w' e size v' (n + m) (xs ++ news) → w.grownBy w' v.ownBlock → Moved w v v' → wpList P ops Q rest (a.put o.dst v') w') : wpList P ops Q (o :: rest) a w := by
  refine wpList_plain hgd fun _ hK => ?_
  obtain ⟨v', w', hr, h2, h3, h4⟩ := run_append_rws (P := P) (w := w) t o.type e i z size bytes ht hi hz hsize hby hzs hsz v n xs hown ad m c news hsrc h1 h63 hbytes
  unfold Oper.wp execOp
  simp only [ho, resolve, invoke, builtin, Sem.run_bind, Sem.run_pure, Result.andThen_ok, List.map_toArray, List.map_cons, List.map_nil, hs, hx, hr]
  exact hK _ _ (h v' w' h2 h3 h4)
theorem append73 {w : World} {ops : Array Oper} {rest : List Oper} {o : Oper} {a : Act} {Q : Exit → Act → World → Prop} (hgd : o.guard = none) (s x : Operand)
    (ho : o.op = .call { callee := .builtin .append, args := #[s, x], argTypes := #[30, 30] })
    (v : Value) (n : Nat) (xs : List Value) (hs : a.eval s = v) (hown : Rw w 73 2 v n xs)
    (ad : Option Addr) (m c : Nat) (news : List Value) (hx : a.eval x = .slice ad m c) (hsrc : Rw w 73 2 (.slice ad m c) m news) (h1 : ∀ u ∈ news, u.oneCell' = true)
    (h63 : n + m ≤ maxLen) (hbytes : (n + m) * 32 ≤ 140737488355328)
    (h : ∀ v' w', Rw w' 73 2 v' (n + m) (xs ++ news) → w.grownBy w' v.ownBlock → Moved w v v' → wpList Try.prog ops Q rest (a.put o.dst v') w') : wpList Try.prog ops Q (o :: rest) a w := by
  obtain ⟨i0, hi, hz0, hz1, hz2⟩ := info_parts info73
  exact wpList_append_rws hgd s x 30 ho 73 i0 _ 2 32 Try.underlying30 hi hz0 hz1 hz2 rfl (by decide) v n xs hs hown ad m c news hx hsrc h1 h63 hbytes h
theorem run_from30 (a : Option Addr) (n cap k : Nat) (hk : k ≤ n) (w : World) : (Instr.slice 30 (.slice a n cap) (some (.int .i64 (k : Nat))) none none).run Try.prog w = .ok (.slice (if cap = k then a else a.map (·.add (k * 2))) (n - k) (cap - k)) w := by
  have b2 : ¬ n < k := by omega
  simp [Instr.slice, Instr.sliceBounds, Instr.sliceBound, run_underlying Try.underlying30, asIntOf, b2]
theorem run_upto30 (g off n cap k : Nat) (hk : k ≤ cap) (w : World) : (Instr.slice 30 (.slice (some ⟨g, off, none⟩) n cap) none (some (.int .i64 (k : Nat))) none).run Try.prog w = .ok (.slice (some ⟨g, off, none⟩) k cap) w := by
  simp [Instr.slice, Instr.sliceBounds, Instr.sliceBound, run_underlying Try.underlying30, asIntOf, hk, Addr.add_mid]
/-- New memory that holds these objects. -/
structure NewO (w : World) (l : List Ob) (n : Nat) (w' : World) (v : Value) : Prop where
  len : l.length = n
  row : Rw w' 73 2 v n (encOs l)
  new : From w.heap.size v
  below : Below w.heap.size w w'
theorem NewO.nil {w w' : World} (hb : Below w.heap.size w w') : NewO w [] 0 w' (.slice none 0 0) := ⟨rfl, Rw.nil _ _ _, From.nil _ _ _, hb⟩
theorem NewO.later {w w1 w2 : World} {l : List Ob} {n : Nat} {v : Value} (h : NewO w l n w1 v) (hb : Below w1.heap.size w1 w2) : NewO w l n w2 v := ⟨h.len, h.row.later hb, h.new, h.below.trans (hb.mono h.below.size)⟩
theorem NewO.grow {w w1 w2 w3 : World} {l m : List Ob} {n k : Nat} {v v2 : Value} (h : NewO w l n w1 v) (hb : Below w1.heap.size w1 w2) (hk : m.length = k) (g1 : Rw w3 73 2 v2 (n + k) (encOs l ++ encOs m)) (g2 : w2.grownBy w3 v.ownBlock) (g3 : Moved w2 v v2) : NewO w (l ++ m) (n + k) w3 v2 := by
  have hb2 : Below w.heap.size w w2 := h.below.trans (hb.mono h.below.size)
  exact ⟨by rw [List.length_append, h.len, hk], by rw [encOs_append]; exact g1, h.new.moved g3 hb2.size, below_grown hb2 g2 hb2.size h.new⟩
section
variable {w : World} {b : Nat} {X : Nat → Prop} {d : Bk}
theorem rdo_left {ov fv lv : Value} {fs : List Int} (h : RawD w b ov fv lv (d.quota : Nat) d.objs fs d.late) (hm : fs.map fateOf = d.fates) (hnum : ∀ x ∈ fs, Num x) {d' : Bk} (hok : d'.Ok) (e1 : d'.quota = d.quota) (e2 : d'.late = d.late) (e3 : d'.fates = d.fates) {w0 w3 : World} (hb0 : Below w.heap.size w w0) {v : Value} {n : Nat} (hN : NewO w0 d'.objs n w3 v) : LeftT (refT b d') w (xB b ov fv lv) (w3.setCell ⟨b, 0, none⟩ v) := by
  have h0 := h.later hb0
  have hl := hN.len
  subst hl
  obtain ⟨q1, q2, q3⟩ := h0.newObjs hN.below hN.row hN.new
  rw [← e1, ← e2] at q1
  exact LeftT.first hb0 ⟨_, ⟨_, _, _, fs, q1, by rw [e3]; exact hm, hnum, hok, rfl⟩, q2, q3⟩
set_option maxHeartbeats 4000000 in
theorem rdo_cut (h : refT b d w X) (hn : d.objs.length ≤ 900000) (s x : ByteArray) : Calls Try.prog 54 #[.pointer (some ⟨b, 0, none⟩), .agg #[.bool false, .string s, .string x]] w fun e w' => e = .returned (.int .i64 (d.removeE s)) ∧ LeftT (refT b (d.remove s)) w X w' := by
  have HREF := hide h
  obtain ⟨ov, fv, lv, fs, h, hm, hnum, hok, rfl⟩ := h
  have hb0 := below_alloc w (.cells #[.bool false, .string s, .string x] 88)
  have hN0 := heap_alloc_new w (.cells #[.bool false, .string s, .string x] 88)
  have h0 := h.later hb0
  have hfi := rfind_any h0 hok.rise (by omega) s
  obtain ⟨w0, hw0⟩ : ∃ w0, w0 = w.alloc (.cells #[.bool false, .string s, .string x] 88) := ⟨_, rfl⟩
  rw [← hw0] at hb0 hN0 h0 hfi
  have r0 := cell_of_row w0 w.heap.size 0 _ _ _ hN0
  simp only [List.getElem?_toArray, List.getElem?_cons_zero] at r0
  have HW0 := hide hw0
  cases hfd : foundB d.objs s with
  | false =>
    rw [show idxOf d.objs s = -1 by simp [idxOf, hfd]] at hfi
    rw [show d.removeE s = 15 by simp [Bk.removeE, hfd], show d.remove s = d by simp [Bk.remove, hfd]]
    have HL := hide ((LeftT.refl HREF.out).later (refT_good _ _) hb0)
    clear hw0 h h0 hN0 hb0 HREF hfd
    go_enter Try.func54, Try.ntmps54
    go_wp2_with fail
    rw [← HW0.out]
    refine hfi.mono ?_
    rintro e w' ⟨rfl, hww⟩
    subst hww
    clear hfi
    go_wp2
    go_ret
    exact ⟨rfl, HL.out⟩
  | true =>
    obtain ⟨o, ho, hos⟩ := foundB_some hfd
    have hlt : place d.objs s < d.objs.length := (List.getElem?_eq_some_iff.1 ho).1
    rw [show idxOf d.objs s = (place d.objs s : Nat) by simp [idxOf, hfd]] at hfi
    rw [show d.removeE s = 0 by simp [Bk.removeE, hfd], show d.remove s = { d with objs := cut d.objs s } by simp [Bk.remove, hfd]]
    have hok2 := hok.remove s
    rw [show d.remove s = { d with objs := cut d.objs s } by simp [Bk.remove, hfd]] at hok2
    have HDONE : Hid (∀ {w3 : World} {v : Value} {n : Nat}, NewO w0 (cut d.objs s) n w3 v → LeftT (refT b { d with objs := cut d.objs s }) w (xB b ov fv lv) (w3.setCell ⟨b, 0, none⟩ v)) := fun hN => rdo_left h hm hnum hok2 rfl rfl rfl hb0 hN
    obtain ⟨g, off, cap, rfl, hgl, hnc, hcm⟩ := h.os.pos (by omega)
    have c0 := h0.c.1
    have f0 := h0.fr 0
    have lB := h0.lt
    have HCUT : Hid (cut d.objs s = d.objs.take (place d.objs s) ++ d.objs.drop (place d.objs s + 1)) := rfl
    have hos0 := h0.os
    generalize cut d.objs s = CUT at *
    generalize hP : place d.objs s = P at *
    generalize hNN : d.objs.length = N at *
    have hcap : cap ≤ 9223372036854775807 := by unfold maxLen at hcm; omega
    have hs1 := run_upto30 g off N cap P (by omega)
    obtain ⟨a2, ha2⟩ : ∃ a2, a2 = (if cap = P + 1 then some (⟨g, off, none⟩ : Addr) else (some (⟨g, off, none⟩ : Addr)).map (·.add ((P + 1) * 2))) := ⟨_, rfl⟩
    have hs2 := run_from30 (some ⟨g, off, none⟩) N cap (P + 1) (by omega)
    rw [← ha2, show ((P + 1 : Nat) : Int) = (P : Int) + 1 by omega] at hs2
    have hsrc1 := hos0.narrow (m := P) (by omega)
    have hsrc2 := hos0.drop (k := P + 1) (by omega)
    rw [← ha2] at hsrc2
    have ht1 := encOs_take d.objs P (by omega)
    have ht2 := encOs_take d.objs (P + 1) (by omega)
    rw [ht1.1] at hsrc1
    rw [ht2.2] at hsrc2
    have HS1 := hide hsrc1
    have HS2 := hide hsrc2
    have HON1 := hide (encOs_one (d.objs.take P))
    have HON2 := hide (encOs_one (d.objs.drop (P + 1)))
    have hx1 : 0 + P ≤ maxLen := by unfold maxLen; omega
    have hx2 : (0 + P) * 32 ≤ 140737488355328 := by omega
    have hx3 : 0 + P + (N - (P + 1)) ≤ maxLen := by unfold maxLen; omega
    have hx4 : (0 + P + (N - (P + 1))) * 32 ≤ 140737488355328 := by omega
    have HL1 : Hid ((d.objs.take P).length = P) := by show _ = _; rw [List.length_take]; omega
    have HL2 : Hid ((d.objs.drop (P + 1)).length = N - (P + 1)) := by show _ = _; rw [List.length_drop, hNN]
    have HNIL := hide (Rw.nil w0 73 2)
    clear hw0 h h0 hN0 hb0 HREF hos0 hsrc1 hsrc2 ht1 ht2 ha2 hfd ho hos hP hNN hok hok2 hm hnum hcm
    go_enter Try.func54, Try.ntmps54
    go_wp2_with fail
    rw [← HW0.out]
    refine hfi.mono ?_
    rintro e w' ⟨rfl, hww⟩
    subst hww
    clear hfi
    have C0 := hide c0
    have F0 := hide f0
    go_wp2_with (at_builtin; first | (refine append73 rfl (.tmp 19) (.tmp 25) rfl _ 0 [] rfl HNIL.out _ P cap _ rfl HS1.out HON1.out hx1 hx2 ?_; intro v1 w1 g1 g2 g3; obtain ⟨a1, m1, c1, rfl⟩ := g1.own_form; have HN1 : Hid (NewO w' (d.objs.take P) (0 + P) w1 (.slice a1 m1 c1)) := (NewO.nil (Below.refl _ _)).grow (Below.refl _ _) HL1.out g1 g2 g3; have cB1 := (HN1.out.below.cell (p := ⟨b, 0, none⟩) lB).trans C0.out; have HS3 := hide (HS2.out.later HN1.out.below); clear g1 g2 g3) | (refine append73 rfl (.tmp 28) (.tmp 35) rfl _ (0 + P) _ rfl HN1.out.row _ _ _ _ rfl HS3.out HON2.out hx3 hx4 ?_; intro v2 w2 g1 g2 g3; obtain ⟨a2', m2', c2', rfl⟩ := g1.own_form; have HN2 : Hid (NewO w' (d.objs.take P ++ d.objs.drop (P + 1)) (0 + P + (N - (P + 1))) w2 (.slice a2' m2' c2')) := HN1.out.grow (Below.refl _ _) HL2.out g1 g2 g3; have cB2 := (HN2.out.below.cell (p := ⟨b, 0, none⟩) lB).trans C0.out; have fB2 := (HN2.out.below.frozen (p := ⟨b, 0, none⟩) lB).trans F0.out; clear g1 g2 g3))
    rw [← HCUT.out] at HN2
    have HF := hide (HDONE.out HN2.out)
    go_ret
    exact ⟨rfl, HF.out⟩
end

end Wi
end Go.Proofs.Ythnhapjjgaicdaa
