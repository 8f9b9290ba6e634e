/- Things that are parts of others; a map says all that the map of the document says; the law's own call: its beginning. -/
import Derived.Test.YtjbgojccfkmlnaaRh
import Derived.Test.YtjbgojccfkmlnaaMh
import Derived.Test.YtjbgojccfkmlnaaMj
import Derived.Test.YtjbgojccfkmlnaaLd
import Derived.Test.YtjbgojccfkmlnaaWx
namespace Go.Proofs.Ytjbgojccfkmlnaa
open Go.RowKit
namespace Wi

/-- One thing is a part of another. -/
def Th.Le (A B : Th) : Prop := ∀ w X, A w X → ∃ Y, B w Y ∧ ∀ k, Y k → X k
theorem Th.Le.refl (A : Th) : A.Le A := fun _ X h => ⟨X, h, fun _ => id⟩
theorem Th.Le.trans {A B C : Th} (h : A.Le B) (g : B.Le C) : A.Le C := fun w X hx => by
  obtain ⟨Y, h1, h2⟩ := h w X hx
  obtain ⟨Z, g1, g2⟩ := g w Y h1
  exact ⟨Z, g1, fun k hk => h2 k (g2 k hk)⟩
theorem Th.Le.fst (A B : Th) : (A.and B).Le A := fun _ _ ⟨X, _, h1, _, _, h4⟩ => ⟨X, h1, fun k hk => (h4 k).2 (.inl hk)⟩
theorem Th.Le.snd (A B : Th) : (A.and B).Le B := fun _ _ ⟨_, Y, _, h2, _, h4⟩ => ⟨Y, h2, fun k hk => (h4 k).2 (.inr hk)⟩
theorem Th.Le.swap (A B : Th) : (A.and B).Le (B.and A) := fun _ _ ⟨X, Y, h1, h2, h3, h4⟩ => ⟨fun k => Y k ∨ X k, ⟨Y, X, h2, h1, fun k hy hx => h3 k hx hy, fun _ => Iff.rfl⟩, fun k hk => (h4 k).2 hk.symm⟩
theorem Th.Le.mono {A B C D : Th} (h : A.Le C) (g : B.Le D) : (A.and B).Le (C.and D) := fun w _ ⟨X, Y, h1, h2, h3, h4⟩ => by
  obtain ⟨X', a1, a2⟩ := h w X h1
  obtain ⟨Y', b1, b2⟩ := g w Y h2
  exact ⟨fun k => X' k ∨ Y' k, ⟨X', Y', a1, b1, fun k hx hy => h3 k (a2 k hx) (b2 k hy), fun _ => Iff.rfl⟩, fun k hk => (h4 k).2 (hk.imp (a2 k) (b2 k))⟩
theorem Th.Le.rot (A B C : Th) : (A.and (B.and C)).Le (B.and (A.and C)) := fun _ _ ⟨X, _, h1, ⟨Y, V, k1, k2, k3, k4⟩, h3, h4⟩ =>
  ⟨fun k => Y k ∨ X k ∨ V k, ⟨Y, fun k => X k ∨ V k, k1, ⟨X, V, h1, k2, fun k hx hv => h3 k hx ((k4 k).2 (.inr hv)), fun _ => Iff.rfl⟩, fun k hy hz => hz.elim (fun hx => h3 k hx ((k4 k).2 (.inl hy))) (k3 k hy), fun _ => Iff.rfl⟩, fun k hk => (h4 k).2 (hk.elim (fun e => .inr ((k4 k).2 (.inl e))) fun e => e.imp id fun e => (k4 k).2 (.inr e))⟩
theorem Th.Le.left (A B C : Th) : (A.and (B.and C)).Le ((A.and B).and C) := fun _ _ ⟨X, _, h1, ⟨Y, V, k1, k2, k3, k4⟩, h3, h4⟩ =>
  ⟨fun k => (X k ∨ Y k) ∨ V k, ⟨fun k => X k ∨ Y k, V, ⟨X, Y, h1, k1, fun k hx hy => h3 k hx ((k4 k).2 (.inl hy)), fun _ => Iff.rfl⟩, k2, fun k hz hv => hz.elim (fun hx => h3 k hx ((k4 k).2 (.inr hv))) fun hy => k3 k hy hv, fun _ => Iff.rfl⟩, fun k hk => (h4 k).2 (hk.elim (fun e => e.imp id fun e => (k4 k).2 (.inl e)) fun e => .inr ((k4 k).2 (.inr e)))⟩
theorem Th.Le.right (A B C : Th) : ((A.and B).and C).Le (A.and (B.and C)) := fun _ _ ⟨_, V, ⟨X, Y, h1, k1, k3, k4⟩, k2, h3, h4⟩ =>
  ⟨fun k => X k ∨ Y k ∨ V k, ⟨X, fun k => Y k ∨ V k, h1, ⟨Y, V, k1, k2, fun k hy hv => h3 k ((k4 k).2 (.inr hy)) hv, fun _ => Iff.rfl⟩, fun k hx hz => hz.elim (k3 k hx) (h3 k ((k4 k).2 (.inl hx))), fun _ => Iff.rfl⟩, fun k hk => (h4 k).2 (hk.elim (fun e => .inl ((k4 k).2 (.inl e))) fun e => e.elim (fun e => .inl ((k4 k).2 (.inr e))) .inr)⟩
theorem Mine.le {W w : World} {A B : Th} (hl : A.Le B) (h : Mine W w A) : Mine W w B := by
  obtain ⟨X, h1, h2, h3⟩ := h
  obtain ⟨Y, g1, g2⟩ := hl w X h1
  exact ⟨Y, g1, fun k hk => h2 k (g2 k hk), h3⟩
/-- A block that nobody writes. -/
def objT (k : Nat) (o : Obj) : Th := fun w X => w.heap[k]? = some o ∧ ∀ j, X j ↔ j = k
theorem objT_good (k : Nat) (o : Obj) : (objT k o).Good :=
  ⟨fun ⟨h1, h2⟩ hk hx => ⟨(hk.block k (lt_of_block h1) (hx k ((h2 k).2 rfl))).trans h1, h2⟩, fun ⟨h1, h2⟩ j hj => by rw [(h2 j).1 hj]; exact lt_of_block h1⟩
theorem objT_new (w : World) (o : Obj) : objT w.heap.size o (w.alloc o) (fun j => j = w.heap.size) := ⟨heap_alloc_new w o, fun _ => Iff.rfl⟩
theorem Mine.obj {W w : World} {A : Th} (hA : A.Good) (h : Mine W w A) (o : Obj) : Mine W (w.alloc o) ((objT w.heap.size o).and A) :=
  Mine.new hA h (below_alloc w o) ⟨_, objT_new w o, fun k hk => by rw [hk]; exact Nat.le_refl _⟩
/-- A list of spans. -/
def ownT (v : Value) (ys : List (Int × Int)) : Th := fun w X => Sp.Own w v ys ∧ ∀ k, X k ↔ v.ownBlock = some k
theorem ownT_good (v : Value) (ys : List (Int × Int)) : (ownT v ys).Good :=
  ⟨fun ⟨h1, h2⟩ k hx => ⟨row_keep h1 k fun i hi => hx i ((h2 i).2 hi), h2⟩, fun ⟨h1, h2⟩ k hk => Rw.lt (Rw.of_own h1) k ((h2 k).1 hk)⟩
/-- All extents of a map that says what the document's map says lie in its sectors. -/
theorem rel_fin {l : List Xt} {d : Rf} {n : Nat} (hl : Can l) (h : Rel l d n) : ∀ x ∈ l, x.fin ≤ n := fun x hx => by
  obtain ⟨A, B, rfl⟩ := List.append_of_mem hx
  have hp := hl.ris.get_pos x hx
  have hs : spot (A ++ x :: B) (x.fin - 1) = some (x.seq, x.to + (x.fin - 1 - x.at_)) := by
    rw [spot_append, spot_out, spot_in (by unfold Xt.fin; omega) (by unfold Xt.fin; omega), Option.none_or]
    intro y hy
    have := Ris.parts hl.ris y hy x (by simp)
    unfold Xt.fin at *
    omega
  rw [h] at hs
  by_cases hc : x.fin - 1 < n ∧ d.is (x.fin - 1) = true
  · unfold Xt.fin at *
    omega
  · rw [if_neg hc] at hs
    cases hs
theorem findN_all {l : List Xt} {d : Rf} {n : Nat} (hl : Can l) (h : Rel l d n) : findN d 0 n = l :=
  can_eq (findN_can d 0 n) hl fun i => by
    rw [findN_spot, h i]
    by_cases hi : i < n
    · rw [if_pos (by omega)]
      by_cases hd : d.is i = true
      · rw [if_pos hd, if_pos ⟨hi, hd⟩]
      · rw [if_neg hd, if_neg (fun e => hd e.2)]
    · rw [if_neg (by omega), if_neg (fun e => hi e.1)]
/-- What holds of a map and the document's map between calls. -/
structure Inv (l : List Xt) (d : Rf) : Prop where
  fit : Fit l
  rel : Rel l d 300
  ok : d.Ok
theorem Inv.start : Inv [] rf0 := ⟨Fit.nil, rel_nil 300, rf0_ok⟩
theorem goes_callg {P : Program} {Gi : Value → World → Prop} {w : World} {r : Result Next} {f : FuncId} {args : Array Value} (h : r = .ok (.enter f args) w) (hc : Calls P f args w fun e w' => ∃ v, e = .returned v ∧ Gi v w' ∧ Below w.heap.size w w') : GoesTo P Gi w r := by
  rw [h]
  exact hc

set_option maxRecDepth 100000 in
set_option maxHeartbeats 4000000 in
theorem sameM_any {w : World} {b r gi gs : Nat} {v : Value} {l : List Xt} {d : Rf} (h : RawM w b v l) (hR : RefM w r gi gs 300 d) (hI : Inv l d) :
    Calls Try.prog 15 #[.pointer (some ⟨b, 0, none⟩), .pointer (some ⟨r, 0, none⟩)] w fun e w' => e = .returned (.bool true) ∧ Below w.heap.size w w' := by
  have HLN : Hid (l.length ≤ 1000000) := Nat.le_trans hI.fit.len (by omega)
  have C17 : Hid (∀ w1, Below w.heap.size w w1 → Calls Try.prog 17 #[.pointer (some ⟨b, 0, none⟩)] w1 fun e w' => ∃ v', e = .returned v' ∧ Xs w' v' l ∧ Below w1.heap.size w1 w') := fun w1 hb => (all_any (h.later hb) HLN.out).mono fun e w' ⟨v', e1, e2, _, e4⟩ => ⟨v', e1, e2, e4⟩
  have C26 : Hid (∀ w1, Below w.heap.size w w1 → Calls Try.prog 26 #[.pointer (some ⟨r, 0, none⟩), .agg #[.int .i64 0, .int .i64 300]] w1 fun e w' => ∃ v', e = .returned v' ∧ Xs w' v' l ∧ Below w1.heap.size w1 w') := fun w1 hb => by
    have := reffind_any (hR.later hb) hI.ok (by omega) 0 300 (by omega)
    rw [findN_all hI.fit.can hI.rel] at this
    exact this.mono fun e w' ⟨v', e1, e2, _, e4⟩ => ⟨v', e1, e2, e4⟩
  have C33 : Hid (∀ w1, Below w.heap.size w w1 → _) := fun w1 hb => sectors_any (h.later hb) hI.fit
  have C38 : Hid (∀ w1, Below w.heap.size w w1 → Calls Try.prog 38 #[.pointer (some ⟨r, 0, none⟩)] w1 fun e w' => e = .returned (.int .i64 (lens l : Nat)) ∧ Below w1.heap.size w1 w') := fun w1 hb => by
    rw [lens_rel hI.fit.can (rel_fin hI.fit.can hI.rel) hI.rel]
    exact refsectors_any (hR.later hb) (by omega)
  have c0 : Hid (∀ w1, Below w.heap.size w w1 → w1.cell? ⟨r, 0, none⟩ = some (.slice (some ⟨gi, 0, none⟩) 300 300)) := fun w1 hb => (hR.later hb).c0
  clear h hR hI
  go_enter Try.func15, Try.ntmps15
  go_wp2
  rename_i KK hKK
  refine wp_region_specs [.val (.pointer (some ⟨b, 0, none⟩)), Spec.xs l, .val (.pointer (some ⟨r, 0, none⟩)), .val (.pointer (some ⟨r, 0, none⟩)), .val (.pointer (some ⟨r, 0, none⟩)), .val (.pointer (some ⟨r, 0, none⟩)), .val (.slice (some ⟨gi, 0, none⟩) 300 300), .val (.int .i64 300), .val (.agg #[.int .i64 0, .int .i64 300]), Spec.xs l, .val (.bool true), .val (.bool true), .val (.pointer (some ⟨b, 0, none⟩)), .val (.int .i64 (lens l : Nat)), .val (.pointer (some ⟨r, 0, none⟩)), .val (.int .i64 (lens l : Nat)), .val (.bool true), .val (.bool true), .val (.bool true)] (by kernel_rfl) (by kernel_rfl) ?_ ?_
  · skip
    refine ⟨?_, ?_⟩
    · intro A w1 hb ho hd
      have e0 : A.tmps[0]?.getD undef = .pointer (some ⟨b, 0, none⟩) := olds_get ho 0 (by kernel_rfl)
      refine ⟨rfl, goes_value (v := .pointer (some ⟨b, 0, none⟩)) ?_ rfl⟩
      simp [go_sem, e0]
    refine ⟨?_, ?_⟩
    · intro A w1 hb ho hd
      have e5 : A.tmps[5]?.getD undef = .pointer (some ⟨b, 0, none⟩) := getq (hd _ (Array.mem_of_getElem? (i := 0) rfl) rfl _ _ rfl rfl)
      refine ⟨rfl, goes_callg (f := 17) (args := #[.pointer (some ⟨b, 0, none⟩)]) ?_ (C17.out w1 hb)⟩
      simp [go_sem, e5]
    refine ⟨?_, ?_⟩
    · intro A w1 hb ho hd
      have e1 : A.tmps[1]?.getD undef = .pointer (some ⟨r, 0, none⟩) := olds_get ho 1 (by kernel_rfl)
      refine ⟨rfl, goes_value (v := .pointer (some ⟨r, 0, none⟩)) ?_ rfl⟩
      simp [go_sem, e1]
    refine ⟨?_, ?_⟩
    · intro A w1 hb ho hd
      have e1 : A.tmps[1]?.getD undef = .pointer (some ⟨r, 0, none⟩) := olds_get ho 1 (by kernel_rfl)
      refine ⟨rfl, goes_value (v := .pointer (some ⟨r, 0, none⟩)) ?_ rfl⟩
      simp [go_sem, e1]
    refine ⟨?_, ?_⟩
    · intro A w1 hb ho hd
      have e8 : A.tmps[8]?.getD undef = .pointer (some ⟨r, 0, none⟩) := getq (hd _ (Array.mem_of_getElem? (i := 0) rfl) rfl _ _ rfl rfl)
      refine ⟨rfl, goes_value (v := .pointer (some ⟨r, 0, none⟩)) ?_ rfl⟩
      simp [go_sem, e8]
    refine ⟨?_, ?_⟩
    · intro A w1 hb ho hd
      have e9 : A.tmps[9]?.getD undef = .pointer (some ⟨r, 0, none⟩) := getq (hd _ (Array.mem_of_getElem? (i := 0) rfl) rfl _ _ rfl rfl)
      refine ⟨rfl, goes_value (v := .pointer (some ⟨r, 0, none⟩)) ?_ rfl⟩
      simp [go_sem, e9]
    refine ⟨?_, ?_⟩
    · intro A w1 hb ho hd
      have e10 : A.tmps[10]?.getD undef = .pointer (some ⟨r, 0, none⟩) := getq (hd _ (Array.mem_of_getElem? (i := 0) rfl) rfl _ _ rfl rfl)
      have z := c0.out w1 hb
      refine ⟨rfl, goes_value (v := .slice (some ⟨gi, 0, none⟩) 300 300) ?_ rfl⟩
      simp [go_sem, e10, z]
    refine ⟨?_, ?_⟩
    · intro A w1 hb ho hd
      have e11 : A.tmps[11]?.getD undef = .slice (some ⟨gi, 0, none⟩) 300 300 := getq (hd _ (Array.mem_of_getElem? (i := 0) rfl) rfl _ _ rfl rfl)
      refine ⟨rfl, goes_value (v := .int .i64 300) ?_ rfl⟩
      simp [go_sem, e11]
    refine ⟨?_, ?_⟩
    · intro A w1 hb ho hd
      have e12 : A.tmps[12]?.getD undef = .int .i64 300 := getq (hd _ (Array.mem_of_getElem? (i := 0) rfl) rfl _ _ rfl rfl)
      refine ⟨rfl, goes_value (v := .agg #[.int .i64 0, .int .i64 300]) ?_ rfl⟩
      simp [go_sem, e12]
    refine ⟨?_, ?_⟩
    · intro A w1 hb ho hd
      have e7 : A.tmps[7]?.getD undef = .pointer (some ⟨r, 0, none⟩) := getq (hd _ (Array.mem_of_getElem? (i := 0) rfl) rfl _ _ rfl rfl)
      have e13 : A.tmps[13]?.getD undef = .agg #[.int .i64 0, .int .i64 300] := getq (hd _ (Array.mem_of_getElem? (i := 1) rfl) rfl _ _ rfl rfl)
      refine ⟨rfl, goes_callg (f := 26) (args := #[.pointer (some ⟨r, 0, none⟩), .agg #[.int .i64 0, .int .i64 300]]) ?_ (C26.out w1 hb)⟩
      simp [go_sem, e7, e13]
    refine ⟨?_, ?_⟩
    · intro A w1 hb ho hd
      obtain S6 := hd _ (Array.mem_of_getElem? (i := 0) rfl) rfl _ _ rfl rfl
      have e6 := getq (A := A) (d := 6) rfl
      obtain S14 := hd _ (Array.mem_of_getElem? (i := 1) rfl) rfl _ _ rfl rfl
      have e14 := getq (A := A) (d := 14) rfl
      generalize A.tmps.getD 6 undef = v6 at S6 e6
      generalize A.tmps.getD 14 undef = v14 at S14 e14
      refine ⟨rfl, goes_call (f := 25) (args := #[v6, v14]) ?_ (same_yes S6 S14 HLN.out)⟩
      simp [go_sem, e6, e14]
    refine ⟨?_, ?_⟩
    · intro A w1 hb ho hd
      have e15 : A.tmps[15]?.getD undef = .bool true := getq (hd _ (Array.mem_of_getElem? (i := 0) rfl) rfl _ _ rfl rfl)
      refine ⟨rfl, goes_value (v := .bool true) ?_ rfl⟩
      simp [go_sem, e15]
    refine ⟨?_, ?_⟩
    · intro A w1 hb ho hd
      have e0 : A.tmps[0]?.getD undef = .pointer (some ⟨b, 0, none⟩) := olds_get ho 0 (by kernel_rfl)
      refine ⟨want_true rfl rfl rfl (hd _ (Array.mem_of_getElem? (i := 0) rfl) rfl _ _ rfl rfl), goes_value (v := .pointer (some ⟨b, 0, none⟩)) ?_ rfl⟩
      simp [go_sem, e0]
    refine ⟨?_, ?_⟩
    · intro A w1 hb ho hd
      have e17 : A.tmps[17]?.getD undef = .pointer (some ⟨b, 0, none⟩) := getq (hd _ (Array.mem_of_getElem? (i := 0) rfl) rfl _ _ rfl rfl)
      refine ⟨want_true rfl rfl rfl (hd _ (Array.mem_of_getElem? (i := 1) rfl) rfl _ _ rfl rfl), goes_call (f := 33) (args := #[.pointer (some ⟨b, 0, none⟩)]) ?_ (C33.out w1 hb)⟩
      simp [go_sem, e17]
    refine ⟨?_, ?_⟩
    · intro A w1 hb ho hd
      have e1 : A.tmps[1]?.getD undef = .pointer (some ⟨r, 0, none⟩) := olds_get ho 1 (by kernel_rfl)
      refine ⟨want_true rfl rfl rfl (hd _ (Array.mem_of_getElem? (i := 0) rfl) rfl _ _ rfl rfl), goes_value (v := .pointer (some ⟨r, 0, none⟩)) ?_ rfl⟩
      simp [go_sem, e1]
    refine ⟨?_, ?_⟩
    · intro A w1 hb ho hd
      have e19 : A.tmps[19]?.getD undef = .pointer (some ⟨r, 0, none⟩) := getq (hd _ (Array.mem_of_getElem? (i := 0) rfl) rfl _ _ rfl rfl)
      refine ⟨want_true rfl rfl rfl (hd _ (Array.mem_of_getElem? (i := 2) rfl) rfl _ _ rfl rfl), goes_call (f := 38) (args := #[.pointer (some ⟨r, 0, none⟩)]) ?_ (C38.out w1 hb)⟩
      simp [go_sem, e19]
    refine ⟨?_, ?_⟩
    · intro A w1 hb ho hd
      have e18 : A.tmps[18]?.getD undef = .int .i64 (lens l : Nat) := getq (hd _ (Array.mem_of_getElem? (i := 0) rfl) rfl _ _ rfl rfl)
      have e20 : A.tmps[20]?.getD undef = .int .i64 (lens l : Nat) := getq (hd _ (Array.mem_of_getElem? (i := 1) rfl) rfl _ _ rfl rfl)
      refine ⟨want_true rfl rfl rfl (hd _ (Array.mem_of_getElem? (i := 2) rfl) rfl _ _ rfl rfl), goes_value (v := .bool true) ?_ rfl⟩
      simp [go_sem, e18, e20]
    refine ⟨?_, ?_⟩
    · intro A w1 hb ho hd
      have e16 : A.tmps[16]?.getD undef = .bool true := getq (hd _ (Array.mem_of_getElem? (i := 0) rfl) rfl _ _ rfl rfl)
      have e21 : A.tmps[21]?.getD undef = .bool true := getq (hd _ (Array.mem_of_getElem? (i := 1) rfl) rfl _ _ rfl rfl)
      refine ⟨rfl, goes_value (v := .bool true) ?_ rfl⟩
      simp [go_sem, e16, e21]
    refine ⟨?_, ?_⟩
    · intro A w1 hb ho hd
      have e22 : A.tmps[22]?.getD undef = .bool true := getq (hd _ (Array.mem_of_getElem? (i := 0) rfl) rfl _ _ rfl rfl)
      refine ⟨rfl, goes_value (v := .bool true) ?_ rfl⟩
      simp [go_sem, e22]
    trivial
  · intro A w1 hb hdf hsz ho hf
    have h4 : A.tmps.getD 4 undef = .bool true := hf 18 _ 4 rfl rfl
    refine hKK A w1 (wp_ret ?_)
    refine bodyPost_ret (v := .bool true) (by rw [results_tmp (t := 4) rfl, h4]) hdf ⟨rfl, hb⟩

end Wi
end Go.Proofs.Ytjbgojccfkmlnaa

namespace Go.Proofs.Ytjbgojccfkmlnaa
open Go.RowKit
namespace Wi

/-- What the law's call with both maps leaves. -/
def DoesPost (W : World) (B : Th) (b r : Nat) (e : Ending) (w' : World) : Prop := e = .returned (.bool true) ∧ ∃ l' d', Inv l' d' ∧ Mine W w' ((mapT b l').and ((refT r 300 d').and B))
theorem may_mays {x : Ix} (h : x.may = true) : x.mays = true := by
  unfold Ix.may mayX at h
  rw [Bool.and_eq_true] at h
  exact h.1
theorem all_may_mays {xs : List Ix} (h : xs.all Ix.may = true) : xs.all Ix.mays = true := by
  rw [List.all_eq_true] at h ⊢
  exact fun x hx => may_mays (h x hx)
theorem take_all {xs : List Ix} {k : Nat} {x : Ix} (p : Ix → Bool) (h : xs[k]? = some x) : (xs.take (k + 1)).all p = ((xs.take k).all p && p x) := by
  have hk : k < xs.length := (List.getElem?_eq_some_iff.1 h).1
  have hx : xs[k] = x := (List.getElem?_eq_some_iff.1 h).2
  rw [List.take_succ_eq_append_getElem hk, List.all_append, hx]
  simp
theorem all_no {xs : List Ix} {p : Ix → Bool} (h : xs.all p = false) : ∃ x ∈ xs, p x = false := by
  rw [List.all_eq_false] at h
  obtain ⟨x, hx, hp⟩ := h
  exact ⟨x, hx, by simpa using hp⟩
theorem opB_ln {o : OpV} (h : opB o = true) : o.ln ≤ 10 := by
  unfold opB at h
  rw [Bool.and_eq_true] at h
  exact of_decide_eq_true h.1
theorem opB_far {o : OpV} (h : opB o = true) : ∀ x ∈ o.xs, x.mays = true → x.x.fin ≤ 300 := fun x hx hm => by
  unfold opB at h
  rw [Bool.and_eq_true, List.all_eq_true] at h
  have h2 := h.2 x hx
  unfold farB at h2
  have hm2 : mayS x.a x.n = true := hm
  rw [hm2, Bool.true_and] at h2
  obtain ⟨h3, h4, h5, h6⟩ := mayS_nat hm2
  have h7 : decide (300 < x.a + x.n) = false := by simpa using h2
  have := of_decide_eq_false h7
  show x.a.toNat + x.n.toNat ≤ 300
  omega
theorem Mine.nilT {W w : World} {M : Th} (h : Mine W w M) : Mine W w ((listT (.slice none 0 0) []).and M) := by
  obtain ⟨X, h1, _, h3⟩ := Mine.run h
  exact Mine.le (Th.Le.swap _ _) (h3 (start_list h1))
theorem putsN_ok : ∀ {xs : List Xt} {d : Rf} {ws : List Xt}, d.Ok → (∀ x ∈ xs, x.Sm ∧ 1 ≤ x.len ∧ x.fin ≤ 300) → (xs.foldl stepRP (d, ws)).1.Ok ∧ (xs.foldl stepRP (d, ws)).2.length ≤ ws.length + 300 * xs.length
  | [], _, _, hd, _ => ⟨hd, by simp⟩
  | x :: r, d, ws, hd, hx => by
    obtain ⟨⟨s1, s2, s3⟩, h2, h3⟩ := hx x (by simp)
    have ih := putsN_ok (xs := r) (d := d.putN x x.len) (ws := ws ++ findN d x.at_ x.len) (hd.putN s2 s3) fun y hy => hx y (by simp [hy])
    have hl := findN_len d x.at_ x.len
    have h4 : x.len ≤ 300 := by unfold Xt.fin at h3; omega
    refine ⟨ih.1, ?_⟩
    have h5 := ih.2
    rw [List.length_append] at h5
    show (r.foldl stepRP (stepRP (d, ws) x)).2.length ≤ _
    have e : stepRP (d, ws) x = (d.putN x x.len, ws ++ findN d x.at_ x.len) := rfl
    rw [e, List.length_cons]
    omega
theorem cutsN_ok : ∀ {xs : List Xt} {d : Rf} {ws : List Xt}, d.Ok → (∀ x ∈ xs, x.fin ≤ 300) → (xs.foldl stepRC (d, ws)).1.Ok ∧ (xs.foldl stepRC (d, ws)).2.length ≤ ws.length + 300 * xs.length
  | [], _, _, hd, _ => ⟨hd, by simp⟩
  | x :: r, d, ws, hd, hx => by
    have h3 := hx x (by simp)
    have ih := cutsN_ok (xs := r) (d := d.cutN x.at_ x.len) (ws := ws ++ findN d x.at_ x.len) (hd.cutN _ _) fun y hy => hx y (by simp [hy])
    have hl := findN_len d x.at_ x.len
    have h4 : x.len ≤ 300 := by unfold Xt.fin at h3; omega
    refine ⟨ih.1, ?_⟩
    have h5 := ih.2
    rw [List.length_append] at h5
    show (r.foldl stepRC (stepRC (d, ws) x)).2.length ≤ _
    have e : stepRC (d, ws) x = (d.cutN x.at_ x.len, ws ++ findN d x.at_ x.len) := rfl
    rw [e, List.length_cons]
    omega
theorem xof_take (xs : List Ix) (k : Nat) : (xof xs).take k = xof (xs.take k) := by
  unfold xof
  rw [List.map_take]
theorem xof_mem {xs : List Ix} {p : Ix → Prop} {q : Xt → Prop} (h : ∀ x ∈ xs, p x) (hq : ∀ x, p x → q x.x) : ∀ y ∈ xof xs, q y := fun y hy => by
  obtain ⟨x, hx, rfl⟩ := List.mem_map.1 hy
  exact hq x (h x hx)
theorem xof_len (xs : List Ix) : (xof xs).length = xs.length := by
  unfold xof
  rw [List.length_map]

end Wi
end Go.Proofs.Ytjbgojccfkmlnaa
