/- What is read of a head, call by call. -/
import Derived.Test.YtnpbgjafahhadaaDoorRl
namespace Go.Proofs.YtnpbgjafahhadaaDoor
open Go.RowKit
namespace Re
open Cr
theorem info39 : (Tryd.prog.info? 39).map (fun i => (i.zero, i.size, i.bytes)) = some (some (.agg #[.int .i64 0, .int .i64 0]), 2, 16) := by kernel_rfl
theorem cells_two {w : World} {b : Nat} {u v : Value} (h0 : w.cell? ⟨b, 0, none⟩ = some u) (h1 : w.cell? ⟨b, 1, none⟩ = some v) : ∀ j x, [u, v][j]? = some x → w.cell? ((⟨b, 0, none⟩ : Addr).add j) = some x
  | 0, x, h => by simp at h; subst h; exact h0
  | 1, x, h => by simp at h; subst h; exact h1
  | j + 2, x, h => by simp at h
theorem own_keep {X : Nat → Prop} {w w' : World} {v : Value} {l : List (Int × Int)} (h : Own w v l) (k : Keep X w w') (hx : ∀ i, v.ownBlock = some i → ¬ X i) : Own w' v l := by
  refine ⟨h.1, ?_⟩
  rcases h.2 with hn | ⟨g, cap, cur, rfl, hb, hgg, rest⟩
  · exact .inl hn
  · refine .inr ⟨g, cap, cur, rfl, hb, ?_, rest⟩
    rw [k.block g (lt_of_block hgg) (hx g rfl)]
    exact hgg
theorem cell_ne {w : World} {b i j : Nat} {v : Value} (h : i ≠ j) : (w.setCell ⟨b, i, none⟩ v).cell? ⟨b, j, none⟩ = w.cell? ⟨b, j, none⟩ := World.cell?_setCell_other _ _ _ _ (fun e => h (by cases e; rfl))
theorem cell_eq {w : World} {b i : Nat} {v u : Value} (h : w.cell? ⟨b, i, none⟩ = some u) : (w.setCell ⟨b, i, none⟩ v).cell? ⟨b, i, none⟩ = some v := World.cell?_setCell_same _ _ _ h
/-- A head in block c that may be written. -/
structure HdAt (w : World) (c : Nat) (ep nu ki : Int) (sl : Value) (da tx : ByteArray) (sum : Nat) : Prop where
  box : BoxH w c ep nu ki sl da tx sum
  fr : ∀ i, w.frozen? ⟨c, i, none⟩ = false
theorem HdAt.lt {w : World} {c : Nat} {ep nu ki : Int} {sl : Value} {da tx : ByteArray} {sum : Nat} (h : HdAt w c ep nu ki sl da tx sum) : c < w.heap.size := h.box.r.lt
theorem HdAt.keep {w w' : World} {c : Nat} {ep nu ki : Int} {sl : Value} {da tx : ByteArray} {sum : Nat} {X : Nat → Prop} (h : HdAt w c ep nu ki sl da tx sum) (k : Keep X w w') (hx : ¬ X c) : HdAt w' c ep nu ki sl da tx sum := ⟨h.box.keep k hx, fun i => keep_free k h.lt hx (h.fr i)⟩
theorem HdAt.later {w w' : World} {c : Nat} {ep nu ki : Int} {sl : Value} {da tx : ByteArray} {sum : Nat} (h : HdAt w c ep nu ki sl da tx sum) (hb : Below w.heap.size w w') : HdAt w' c ep nu ki sl da tx sum := h.keep (Keep.of_below (X := fun _ => False) hb) (fun x => x)
theorem setSize (w : World) (p : Addr) (v : Value) : (w.setCell p v).heap.size = w.heap.size := by simp
theorem HdAt.set0 {w : World} {c : Nat} {ep nu ki : Int} {sl : Value} {da tx : ByteArray} {sum : Nat} (h : HdAt w c ep nu ki sl da tx sum) (z : Int) : HdAt (w.setCell ⟨c, 0, none⟩ (.int .i64 z)) c z nu ki sl da tx sum :=
  ⟨⟨⟨by rw [setSize]; exact h.lt, cell_eq h.box.r.c0, (cell_ne (by omega)).trans h.box.r.c1, (cell_ne (by omega)).trans h.box.r.c2, (cell_ne (by omega)).trans h.box.r.c3, (cell_ne (by omega)).trans h.box.r.c4, (cell_ne (by omega)).trans h.box.r.c5⟩, (cell_ne (by omega)).trans h.box.c6⟩, fun i => by rw [World.frozen?_setCell]; exact h.fr i⟩
theorem HdAt.set1 {w : World} {c : Nat} {ep nu ki : Int} {sl : Value} {da tx : ByteArray} {sum : Nat} (h : HdAt w c ep nu ki sl da tx sum) (z : Int) : HdAt (w.setCell ⟨c, 1, none⟩ (.int .i64 z)) c ep z ki sl da tx sum :=
  ⟨⟨⟨by rw [setSize]; exact h.lt, (cell_ne (by omega)).trans h.box.r.c0, cell_eq h.box.r.c1, (cell_ne (by omega)).trans h.box.r.c2, (cell_ne (by omega)).trans h.box.r.c3, (cell_ne (by omega)).trans h.box.r.c4, (cell_ne (by omega)).trans h.box.r.c5⟩, (cell_ne (by omega)).trans h.box.c6⟩, fun i => by rw [World.frozen?_setCell]; exact h.fr i⟩
theorem HdAt.set2 {w : World} {c : Nat} {ep nu ki : Int} {sl : Value} {da tx : ByteArray} {sum : Nat} (h : HdAt w c ep nu ki sl da tx sum) (z : Int) : HdAt (w.setCell ⟨c, 2, none⟩ (.int .i64 z)) c ep nu z sl da tx sum :=
  ⟨⟨⟨by rw [setSize]; exact h.lt, (cell_ne (by omega)).trans h.box.r.c0, (cell_ne (by omega)).trans h.box.r.c1, cell_eq h.box.r.c2, (cell_ne (by omega)).trans h.box.r.c3, (cell_ne (by omega)).trans h.box.r.c4, (cell_ne (by omega)).trans h.box.r.c5⟩, (cell_ne (by omega)).trans h.box.c6⟩, fun i => by rw [World.frozen?_setCell]; exact h.fr i⟩
theorem HdAt.set3 {w : World} {c : Nat} {ep nu ki : Int} {sl : Value} {da tx : ByteArray} {sum : Nat} (h : HdAt w c ep nu ki sl da tx sum) (z : Value) : HdAt (w.setCell ⟨c, 3, none⟩ z) c ep nu ki z da tx sum :=
  ⟨⟨⟨by rw [setSize]; exact h.lt, (cell_ne (by omega)).trans h.box.r.c0, (cell_ne (by omega)).trans h.box.r.c1, (cell_ne (by omega)).trans h.box.r.c2, cell_eq h.box.r.c3, (cell_ne (by omega)).trans h.box.r.c4, (cell_ne (by omega)).trans h.box.r.c5⟩, (cell_ne (by omega)).trans h.box.c6⟩, fun i => by rw [World.frozen?_setCell]; exact h.fr i⟩
theorem HdAt.set4 {w : World} {c : Nat} {ep nu ki : Int} {sl : Value} {da tx : ByteArray} {sum : Nat} (h : HdAt w c ep nu ki sl da tx sum) (z : ByteArray) : HdAt (w.setCell ⟨c, 4, none⟩ (.string z)) c ep nu ki sl z tx sum :=
  ⟨⟨⟨by rw [setSize]; exact h.lt, (cell_ne (by omega)).trans h.box.r.c0, (cell_ne (by omega)).trans h.box.r.c1, (cell_ne (by omega)).trans h.box.r.c2, (cell_ne (by omega)).trans h.box.r.c3, cell_eq h.box.r.c4, (cell_ne (by omega)).trans h.box.r.c5⟩, (cell_ne (by omega)).trans h.box.c6⟩, fun i => by rw [World.frozen?_setCell]; exact h.fr i⟩
theorem HdAt.set5 {w : World} {c : Nat} {ep nu ki : Int} {sl : Value} {da tx : ByteArray} {sum : Nat} (h : HdAt w c ep nu ki sl da tx sum) (z : ByteArray) : HdAt (w.setCell ⟨c, 5, none⟩ (.string z)) c ep nu ki sl da z sum :=
  ⟨⟨⟨by rw [setSize]; exact h.lt, (cell_ne (by omega)).trans h.box.r.c0, (cell_ne (by omega)).trans h.box.r.c1, (cell_ne (by omega)).trans h.box.r.c2, (cell_ne (by omega)).trans h.box.r.c3, (cell_ne (by omega)).trans h.box.r.c4, cell_eq h.box.r.c5⟩, (cell_ne (by omega)).trans h.box.c6⟩, fun i => by rw [World.frozen?_setCell]; exact h.fr i⟩
theorem HdAt.set6 {w : World} {c : Nat} {ep nu ki : Int} {sl : Value} {da tx : ByteArray} {sum : Nat} (h : HdAt w c ep nu ki sl da tx sum) (z : Nat) : HdAt (w.setCell ⟨c, 6, none⟩ (.int .u32 (z : Nat))) c ep nu ki sl da tx z :=
  ⟨⟨⟨by rw [setSize]; exact h.lt, (cell_ne (by omega)).trans h.box.r.c0, (cell_ne (by omega)).trans h.box.r.c1, (cell_ne (by omega)).trans h.box.r.c2, (cell_ne (by omega)).trans h.box.r.c3, (cell_ne (by omega)).trans h.box.r.c4, (cell_ne (by omega)).trans h.box.r.c5⟩, cell_eq h.box.c6⟩, fun i => by rw [World.frozen?_setCell]; exact h.fr i⟩
theorem in_keep {w w' : World} {b p : Nat} {s : ByteArray} {e : Int} {X : Nat → Prop} (h : InAt w b s p e) (k : Keep X w w') (hx : ¬ X b) : InAt w' b s p e := ⟨(k.block b h.lt hx).trans h.blk⟩
theorem keep_grown {w w' : World} {row : Option Nat} (h : w.grownBy w' row) : Keep (fun k => row = some k) w w' := Keep.grown h fun _ e => e

theorem intP_le {l : List Nat} {p : Nat} {e m : Int} (h : p ≤ l.length) (hm : m ≤ 9223372036854775807) : (intP l p e m).2.1 ≤ l.length := by
  unfold intP
  split
  · have := (intR_facts (l.drop p) m hm).2.2
    rw [List.length_drop] at this
    simp only
    omega
  · exact h
theorem intP_val {l : List Nat} {p : Nat} {e m : Int} (hm : 0 ≤ m) (_hb : ∀ b ∈ l, b < 256) : (((intP l p e m).1 : Nat) : Int) ≤ m := by
  unfold intP
  split
  · simp only
    by_cases he : (few 12 (l.drop p)).2.2 = 0
    · by_cases h2 : m < 0 ∨ m < ((few 12 (l.drop p)).1 : Nat)
      · rw [intR_form he h2]
        simp only
        omega
      · rw [intR_ok h2]
        omega
    · rw [intR_bad he, (few_bad he).1]
      omega
  · simp only
    omega
theorem rint_both {b p : Nat} {e : Int} {s : ByteArray} {w : World} (m : Int) (h : InAt w b s p e) (hs : s.size ≤ 9223372036854775807) (hp : p ≤ s.size) (hm : 0 ≤ m ∧ m ≤ 1099511627776) :
    Calls Tryd.prog 80 #[.pointer (some ⟨b, 0, none⟩), .int .i64 m] w fun x w' => x = .returned (.int .i64 ((intP (bs s) p e m).1 : Nat)) ∧ Did w b s (intP (bs s) p e m).2.1 (intP (bs s) p e m).2.2 w' := by
  by_cases he : e = 0
  · subst he
    rw [intP, if_pos rfl]
    exact rint_ok m h hs hp (by omega)
  · rw [intP, if_neg he]
    exact (rint_no m h (by simpa using he)).mono fun x w' ⟨h1, h2⟩ => ⟨h1, by rw [h2]; exact Did.refl h⟩
theorem rfix_both {b p : Nat} {e : Int} {s : ByteArray} {w : World} (m : Int) (h : InAt w b s p e) (hs : s.size ≤ 9223372036854775807) (hp : p ≤ s.size) (hm : 0 ≤ m ∧ m ≤ 1099511627776) :
    Calls Tryd.prog 78 #[.pointer (some ⟨b, 0, none⟩), .int .i64 m] w fun x w' => x = .returned (.int .u64 ((fixP (bs s) p e m).1 : Nat)) ∧ Did w b s (fixP (bs s) p e m).2.1 (fixP (bs s) p e m).2.2 w' := by
  by_cases he : e = 0
  · subst he
    rw [fixP, if_pos rfl]
    exact rfix_ok m h hs hp (by omega)
  · rw [fixP, if_neg he]
    exact (rfix_no m h (by simpa using he)).mono fun x w' ⟨h1, h2⟩ => ⟨h1, by rw [h2]; exact Did.refl h⟩
theorem rtxt_both {b p : Nat} {e : Int} {s : ByteArray} {w : World} (m : Int) (h : InAt w b s p e) (hs : s.size ≤ 9223372036854775807) (hp : p ≤ s.size) (hm : 0 ≤ m ∧ m ≤ 1099511627776) :
    Calls Tryd.prog 82 #[.pointer (some ⟨b, 0, none⟩), .int .i64 m] w fun x w' => x = .returned (.string (str (txtP (bs s) p e m).1)) ∧ Did w b s (txtP (bs s) p e m).2.1 (txtP (bs s) p e m).2.2 w' := by
  by_cases he : e = 0
  · subst he
    rw [txtP, if_pos rfl]
    exact rtxt_ok m h hs hp (by omega)
  · rw [txtP, if_neg he]
    exact (rtxt_no m h (by simpa using he)).mono fun x w' ⟨h1, h2⟩ => ⟨h1, by rw [h2]; exact Did.refl h⟩
theorem rdK_step {l : List Nat} {p : Nat} {e : Int} {k A P1 B P2 P : Nat} {E E1 E2 : Int} {L : List (Int × Int)} (h0 : rdK l p e k = (L, P, E)) (h1 : intP l P E 65536 = (A, P1, E1)) (h2 : intP l P1 E1 65536 = (B, P2, E2)) : rdK l p e (k + 1) = (L ++ [((A : Int), (B : Int))], P2, E2) := by
  simp only [rdK, h0, h1, h2]
theorem rdK_le {l : List Nat} {p : Nat} {e : Int} (h : p ≤ l.length) : ∀ k, (rdK l p e k).2.1 ≤ l.length
  | 0 => h
  | k + 1 => intP_le (intP_le (rdK_le h k) (by omega)) (by omega)
theorem rdK_len (l : List Nat) (p : Nat) (e : Int) : ∀ k, (rdK l p e k).1.length = k
  | 0 => rfl
  | k + 1 => by simp only [rdK, List.length_append, rdK_len l p e k, List.length_cons, List.length_nil]
theorem rdK_fit {l : List Nat} (hb : ∀ b ∈ l, b < 256) (p : Nat) (e : Int) : ∀ k, ∀ x ∈ (rdK l p e k).1, Fit x
  | 0 => by simp [rdK]
  | k + 1 => by
    intro x hx
    simp only [rdK, List.mem_append, List.mem_cons, List.not_mem_nil, or_false] at hx
    rcases hx with hx | hx
    · exact rdK_fit hb p e k x hx
    · subst hx
      have h1 := intP_val (l := l) (p := (rdK l p e k).2.1) (e := (rdK l p e k).2.2) (m := 65536) (by omega) hb
      have h2 := intP_val (l := l) (p := (intP l (rdK l p e k).2.1 (rdK l p e k).2.2 65536).2.1) (e := (intP l (rdK l p e k).2.1 (rdK l p e k).2.2 65536).2.2) (m := 65536) (by omega) hb
      unfold Fit
      simp only
      omega
theorem rdS_le {l : List Nat} {p : Nat} {e : Int} (h : p ≤ l.length) : (rdS l p e).2.1 ≤ l.length := rdK_le (intP_le h (by omega)) _
theorem rdS_len {l : List Nat} {p : Nat} {e : Int} (hb : ∀ b ∈ l, b < 256) : (rdS l p e).1.length ≤ 64 := by
  unfold rdS
  rw [rdK_len]
  have := intP_val (l := l) (p := p) (e := e) (m := 64) (by omega) hb
  omega
/-- What reading spans leaves. -/
def bc (b c : Nat) (k : Nat) : Prop := k = b ∨ k = c
set_option maxHeartbeats 4000000 in
set_option maxRecDepth 20000 in
theorem readSpans_any {b c p : Nat} {e : Int} {s : ByteArray} {w : World} {ep nu ki : Int} {da tx : ByteArray} {sum : Nat} (hI : InAt w b s p e) (hs : s.size ≤ 1000000) (hp : p ≤ s.size) (hH : HdAt w c ep nu ki (.slice none 0 0) da tx sum) (hbc : b ≠ c) :
    Calls Tryd.prog 55 #[.pointer (some ⟨b, 0, none⟩), .pointer (some ⟨c, 0, none⟩)] w fun x w' => x = .returned (.tuple #[]) ∧ ∃ v', InAt w' b s (rdS (bs s) p e).2.1 (rdS (bs s) p e).2.2 ∧ HdAt w' c ep nu ki v' da tx sum ∧ Own w' v' (rdS (bs s) p e).1 ∧ Keep (bc b c) w w' ∧ From w.heap.size v' := by
  obtain ⟨i0, hi, hz0, hz1, hz2⟩ := info_parts info39
  have hr := rint_both 64 hI (by omega) hp (by omega)
  have hlen := bs_length s
  have hn := intP_val (l := bs s) (p := p) (e := e) (m := 64) (by omega) (bs_lt s)
  have hle := intP_le (l := bs s) (p := p) (e := e) (m := 64) (by omega) (by omega)
  unfold rdS
  generalize intP (bs s) p e 64 = q at *
  obtain ⟨n, p1, e1⟩ := q
  simp only at hr hn hle ⊢
  have hbl := hI.lt
  have hcl := hH.lt
  go_enter Tryd.func55, Tryd.ntmps55
  go_wp2_with fail
  refine hr.mono ?_
  rintro x w1 ⟨rfl, hd⟩
  have hI1 := hd.inn
  have hH1 := hH.keep hd.keep (fun x => hbc x.symm)
  have hK1 : Keep (bc b c) w w1 := (Keep.refl (bc b c) w).trans hd.keep fun i _ x => .inl x
  have hsz := hd.keep.size
  clear hd hr hI hH
  go_wp2
  go_loopw [4, 5, 8] (fun u t i wr => ∃ k : Nat, k ≤ n ∧ i = .int .i64 k ∧ ∃ v', InAt wr b s (rdK (bs s) p1 e1 k).2.1 (rdK (bs s) p1 e1 k).2.2 ∧ HdAt wr c ep nu ki v' da tx sum ∧ Own wr v' (rdK (bs s) p1 e1 k).1 ∧ Keep (bc b c) w1 wr ∧ From w1.heap.size v') (fun _ _ i _ => n - (intOf i).toNat)
  case atStart => exact ⟨0, Nat.zero_le _, rfl, _, hI1, hH1, Own.nil _, Keep.refl _ _, From.nil _ _ _⟩
  case round =>
    obtain ⟨k, hk, rfl, v', hIn, hHd, hOw, hKe, hFr⟩ := hrel
    by_cases hlt : k < n
    · have hpk := rdK_le (l := bs s) (p := p1) (e := e1) hle k
      have hlk := rdK_len (bs s) p1 e1 k
      have hbl' : b < w1.heap.size := by omega
      have hcl' : c < w1.heap.size := by omega
      have hvb : v'.ownBlock ≠ some b := fun h => by have := hFr _ h; omega
      have hvc : v'.ownBlock ≠ some c := fun h => by have := hFr _ h; omega
      clear hI1 hH1
      generalize hr0 : rdK (bs s) p1 e1 k = r at *
      obtain ⟨L, P, E⟩ := r
      simp only at hIn hOw hpk hlk
      replace hr0 := hide hr0
      have hr1 := rint_both 65536 hIn (by omega) (by omega) (by omega)
      have hle1 := intP_le (l := bs s) (p := P) (e := E) (m := 65536) hpk (by omega)
      generalize hq1 : intP (bs s) P E 65536 = q1 at *
      obtain ⟨A, P1, E1⟩ := q1
      simp only at hr1 hle1
      replace hq1 := hide hq1
      go_wp2_with fail
      refine hr1.mono ?_
      rintro x w2 ⟨rfl, hd1⟩
      have hr2 := rint_both 65536 hd1.inn (by omega) (by omega) (by omega)
      generalize hq2 : intP (bs s) P1 E1 65536 = q2 at *
      obtain ⟨B, P2, E2⟩ := q2
      simp only at hr2
      have HR := hide (rdK_step hr0.out hq1.out hq2)
      clear hq2
      clear hr1
      go_wp2_with fail
      refine hr2.mono ?_
      rintro x w3 ⟨rfl, hd2⟩
      have hK2 := (hd1.trans hd2).keep
      have hI3 := hd2.inn
      have hH3 := hHd.keep hK2 (fun x => hbc x.symm)
      have hO3 := own_keep hOw hK2 (fun i hi x => hvb (x ▸ hi))
      have hK3 : Keep (bc b c) w1 w3 := hKe.trans hK2 fun i _ x => .inl x
      have hs3 := hK3.size
      clear hr2 hd1 hd2 hIn hHd hOw hKe hK2
      have c3 := hH3.box.r.c3
      have hHa := hH3.later (below_alloc w3 (.cells #[.int .i64 (A : Int), .int .i64 (B : Int)] 39))
      have hOa := hO3.later (below_alloc w3 (.cells #[.int .i64 (A : Int), .int .i64 (B : Int)] 39))
      have hIa := hI3.later (below_alloc w3 (.cells #[.int .i64 (A : Int), .int .i64 (B : Int)] 39))
      have hKa := hK3.trans (Keep.of_below (X := bc b c) (below_alloc w3 (.cells #[.int .i64 (A : Int), .int .i64 (B : Int)] 39))) fun _ _ x => x
      go_wp2_with (at_builtin; refine wpList_append_moved rfl (.tmp 19) (.tmp 23) 22 rfl 39 i0 _ 2 16 Tryd.underlying22 hi hz0 hz1 hz2 rfl (by decide) v' _ _ rfl hOa ⟨w3.heap.size, 0, none⟩ 1 1 [.int .i64 (A : Int), .int .i64 (B : Int)] rfl rfl (cells_two (by simp) (by simp)) (enc2_oneCell [((A : Int), (B : Int))]) (by unfold maxLen; omega) (by omega) ?_; intro v2 w4 g1 g2 g3; obtain ⟨a2, n2, q2, rfl⟩ := own_form g1; have hH4 := hHa.keep (keep_grown g2) (fun x => hvc x); have c3' := hH4.box.r.c3; have f3' := hH4.fr 3)
      have hO4 : Own w4 (.slice a2 n2 q2) (L ++ [((A : Int), (B : Int))]) := by unfold Own; rw [enc2_append, List.length_append]; exact g1
      have hF4 : From w1.heap.size (.slice a2 n2 q2) := hFr.moved g3 (by simp; omega)
      have hv2c : (Value.slice a2 n2 q2).ownBlock ≠ some c := fun h => by have := hF4 _ h; omega
      have hI4 := in_keep hIa (keep_grown g2) (fun x => hvb x)
      have hK4 : Keep (bc b c) w1 w4 := hKa.trans (keep_grown g2) fun i hi x => absurd (hFr _ x) (by omega)
      have kS := Keep.setCell (X := fun k => k = c) w4 ⟨c, 3, none⟩ (.slice a2 n2 q2) rfl
      have hI5 := in_keep hI4 kS (fun x => hbc x)
      have hH5 := hH4.set3 (.slice a2 n2 q2)
      have hO5 := own_keep hO4 kS (fun i hi x => hv2c (x ▸ hi))
      have hK5 : Keep (bc b c) w1 _ := hK4.trans kS fun i _ x => .inr x
      clear g1 g2 g3 hH4 hO4 hI4 hK4 kS hHa hOa hIa hKa hH3 hI3 hO3 hK3 c3 c3' f3' hvc hvb hv2c
      go_wp2
      go_roundw
      case rel => exact ⟨k + 1, by omega, by go_num, _, by rw [HR.out]; exact hI5, hH5, by rw [HR.out]; exact hO5, hK5, hF4⟩
      case measure => simp [intOf]; omega
    · obtain rfl : k = n := by omega
      have HG := hide (show ∃ v', InAt wr b s (rdK (bs s) p1 e1 k).2.1 (rdK (bs s) p1 e1 k).2.2 ∧ HdAt wr c ep nu ki v' da tx sum ∧ Own wr v' (rdK (bs s) p1 e1 k).1 ∧ Keep (bc b c) w wr ∧ From w.heap.size v' from ⟨v', hIn, hHd, hOw, hK1.trans hKe fun _ _ x => x, fun k hk => Nat.le_trans hsz (hFr k hk)⟩)
      clear hIn hHd hOw hKe hFr hI1 hH1 hK1
      go_wp2
      go_end0
      exact ⟨rfl, HG.out⟩
end Re
end Go.Proofs.YtnpbgjafahhadaaDoor
