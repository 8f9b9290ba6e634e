/- What a head tells, the document's way. -/
import Derived.Test.YtnpbgjafahhadaaDoorTd
import Derived.Test.YtnpbgjafahhadaaDoorSx
import Derived.Test.YtnpbgjafahhadaaDoorSd
namespace Go.Proofs.YtnpbgjafahhadaaDoor
open Go.RowKit
namespace Re
open Cr
theorem cells_two_drew (w : World) (x y : Value) (t : TypeId) : ∀ j u, [x, y][j]? = some u → (w.alloc (.cells #[x, y] t)).drew.cell? ((⟨w.heap.size, 0, none⟩ : Addr).add j) = some u :=
  cells_two (by show (w.alloc _).cell? _ = _; simp) (by show (w.alloc _).cell? _ = _; simp)
theorem tdP_bad {l : List Nat} (h : (nmP l 4).2.2 = false) : tdP l = (no, [], false) := by unfold tdP; rw [if_neg (by rw [h]; decide)]
theorem tdP_note {l : List Nat} {E U K A P : Nat} (h : nmP l 4 = ([E, U, K, A], P, true)) (hk : K = 3) : tdP l = if (l.drop P).length < A then (no, [], false) else (⟨(E : Int), (U : Int), (K : Int), [], ⟨#[]⟩, str ((l.drop P).take A)⟩, [], true) := by
  subst hk
  unfold tdP
  rw [h, if_pos rfl, if_pos (by exact rfl)]
  rfl
theorem tdP_long {l : List Nat} {E U K A P : Nat} (h : nmP l 4 = ([E, U, K, A], P, true)) (hk : K ≠ 3) (ha : 64 < A) : tdP l = (no, [], false) := by
  unfold tdP
  rw [h, if_pos rfl, if_neg (by exact hk), if_pos (by exact ha)]
theorem tdP_few {l : List Nat} {E U K A P : Nat} (h : nmP l 4 = ([E, U, K, A], P, true)) (hk : K ≠ 3) (ha : ¬ 64 < A) (hm : (nmP (l.drop P) (2 * A)).2.2 = false) : tdP l = (no, [], false) := by
  unfold tdP
  rw [h, if_pos rfl, if_neg (by exact hk), if_neg (by exact ha), if_neg (by show ¬ (nmP (l.drop P) (2 * A)).2.2 = true; rw [hm]; decide)]
theorem tdP_write {l : List Nat} {E U K A P : Nat} {M : List Nat} {Q : Nat} (h : nmP l 4 = ([E, U, K, A], P, true)) (hk : K = 1) (ha : ¬ 64 < A) (hm : nmP (l.drop P) (2 * A) = (M, Q, true)) : tdP l = if (l.drop P).length < Q + 4 then (no, [], false) else (⟨(E : Int), (U : Int), (K : Int), prs M A, ⟨#[]⟩, ⟨#[]⟩⟩, ((l.drop P).drop Q).take 4, true) := by
  subst hk
  unfold tdP
  rw [h, if_pos rfl, if_neg (by show ¬ (1 : Nat) = 3; decide), if_neg (by exact ha), if_pos (by show (nmP (l.drop P) (2 * A)).2.2 = true; rw [hm]), if_pos (by exact rfl)]
  show (if (l.drop P).length < (nmP (l.drop P) (2 * A)).2.1 + 4 then (no, [], false) else ((⟨(E : Int), (U : Int), 1, prs (nmP (l.drop P) (2 * A)).1 A, ⟨#[]⟩, ⟨#[]⟩⟩, ((l.drop P).drop (nmP (l.drop P) (2 * A)).2.1).take 4, true) : Rc × List Nat × Bool)) = _
  rw [hm]
  rfl
theorem tdP_trim {l : List Nat} {E U K A P : Nat} {M : List Nat} {Q : Nat} (h : nmP l 4 = ([E, U, K, A], P, true)) (hk : K ≠ 3) (hk1 : K ≠ 1) (ha : ¬ 64 < A) (hm : nmP (l.drop P) (2 * A) = (M, Q, true)) : tdP l = (⟨(E : Int), (U : Int), (K : Int), prs M A, ⟨#[]⟩, ⟨#[]⟩⟩, [], true) := by
  unfold tdP
  rw [h, if_pos rfl, if_neg (by exact hk), if_neg (by exact ha), if_pos (by show (nmP (l.drop P) (2 * A)).2.2 = true; rw [hm]), if_neg (by exact hk1)]
  show ((⟨(E : Int), (U : Int), (K : Int), prs (nmP (l.drop P) (2 * A)).1 A, ⟨#[]⟩, ⟨#[]⟩⟩, [], true) : Rc × List Nat × Bool) = _
  rw [hm]
theorem drop_ext (s : ByteArray) (p q : Nat) : ((bs s).drop p).take q = bs (s.extract p (p + q)) := by
  rw [bs_extract, Nat.add_sub_cancel_left]

set_option maxRecDepth 20000 in
set_option maxHeartbeats 8000000 in
theorem told_any (s : ByteArray) (hs : s.size ≤ 1000000) (h8 : 8 ≤ s.size) (w : World) :
    Calls Tryd.prog 36 #[.string s] w fun e w' => ∃ ep nu ki v sp tx z, e = .returned (.tuple #[.agg #[.int .i64 ep, .int .i64 nu, .int .i64 ki, v, .string ⟨#[]⟩, .string tx], .string z, .bool (tdP (bs (s.extract 4 (s.size - 4)))).2.2]) ∧ Own w' v sp ∧ From w.heap.size v ∧ Below w.heap.size w w' ∧
      ((tdP (bs (s.extract 4 (s.size - 4)))).2.2 = true → tdP (bs (s.extract 4 (s.size - 4))) = (⟨ep, nu, ki, sp, ⟨#[]⟩, tx⟩, bs z, true)) := by
  have hSz : (s.extract 4 (s.size - 4)).size = s.size - 8 := by rw [ByteArray.size_extract]; omega
  have hi1 : (4 : Int) ≤ (s.size : Int) - 4 := by omega
  have hi2 : (s.size : Int) - 4 = ((s.size - 4 : Nat) : Int) := by omega
  generalize hSS : s.extract 4 (s.size - 4) = S at *
  have hS2 : S.size ≤ 1000000 := by omega
  replace hSz := hide hSz
  have hnum := fun w => numbers_any S hS2 4 (by omega) w
  have hlen := @nmP_len (bs S) 4
  rw [bs_length] at hlen
  have hZ0 := rNew w 29
  have hA1 := below_alloc w (.cells #[.int .i64 0, .int .i64 0, .int .i64 0, .slice none 0 0, .string { data := #[] }, .string { data := #[] }] 29)
  generalize hW1 : w.alloc (.cells #[.int .i64 0, .int .i64 0, .int .i64 0, .slice none 0 0, .string { data := #[] }, .string { data := #[] }] 29) = W1 at *
  generalize hq : nmP (bs S) 4 = q at *
  obtain ⟨L4, P, ok⟩ := q
  simp only at hnum hlen
  go_enter Tryd.func36, Tryd.ntmps36
  go_wp2_with fail
  refine (hnum _).mono ?_
  rintro x w2 ⟨v1, rfl, hO, hF, b2⟩
  have hZ2 := hZ0.later b2
  have BB2 := hA1.trans (b2.mono hA1.size)
  have hz1 : Hid (w.heap.size < W1.heap.size) := hZ0.lt
  clear hnum hZ0 hA1 hW1
  cases ok with
  | false =>
    have HG : Hid ((tdP (bs S)).2.2 = false) := by show _ = _; rw [tdP_bad (by rw [hq])]
    obtain ⟨a, m, cap, rfl⟩ := own_form hO
    clear hlen hO hF b2 hq
    have z0 := hZ2.box.c0
    have z1 := hZ2.box.c1
    have z2 := hZ2.box.c2
    have z3 := hZ2.box.c3
    have z4 := hZ2.box.c4
    have z5 := hZ2.box.c5
    have y0 := hZ2.fr 0
    have y1 := hZ2.fr 1
    have y2 := hZ2.fr 2
    have y3 := hZ2.fr 3
    have y4 := hZ2.fr 4
    have y5 := hZ2.fr 5
    have hE := ((((((hZ2.set0 (0)).set1 (0)).set2 (0)).set3 (.slice none 0 0)).set4 (⟨#[]⟩)).set5 (⟨#[]⟩))
    have kZ : ∀ (W : World) (i : Nat) (u : Value), Keep (fun k => k = w.heap.size) W (W.setCell ⟨w.heap.size, i, none⟩ u) := fun W i u => Keep.setCell W _ u rfl
    have kAll := (((((kZ w2 0 (.int .i64 0)).trans (kZ _ 1 (.int .i64 0)) fun _ _ x => x).trans (kZ _ 2 (.int .i64 0)) fun _ _ x => x).trans (kZ _ 3 (.slice none 0 0)) fun _ _ x => x).trans (kZ _ 4 (.string ⟨#[]⟩)) fun _ _ x => x).trans (kZ _ 5 (.string ⟨#[]⟩)) fun _ _ x => x
    replace hE := hide hE
    have BF := BB2.trans (kAll.below (B := w.heap.size) BB2.size (fun k hk x => by omega))
    clear kAll kZ hZ2 BB2 
    go_wp2
    have e0 := hE.out.box.c0
    have e1 := hE.out.box.c1
    have e2 := hE.out.box.c2
    have e3 := hE.out.box.c3
    have e4 := hE.out.box.c4
    have e5 := hE.out.box.c5
    refine bodyPost_ret (v := .tuple #[.agg #[.int .i64 0, .int .i64 0, .int .i64 0, .slice none 0 0, .string ⟨#[]⟩, .string ⟨#[]⟩], .string ⟨#[]⟩, .bool false]) (by simp [results, Tryd.results36, go_sem, e0, e1, e2, e3, e4, e5]) rfl ⟨_, _, _, _, _, _, _, by rw [HG.out], Own.nil _, From.nil _ _ _, BF, fun hh => absurd hh (by rw [HG.out]; decide)⟩
  | true =>
    obtain ⟨hl4, hP, hx4⟩ := hlen rfl
    obtain ⟨E, U, K, A, rfl⟩ : ∃ E U K A, L4 = [E, U, K, A] := by
      match L4, hl4 with
      | [a, b, c, d], _ => exact ⟨a, b, c, d, rfl⟩
    have hE := hx4 E (by simp)
    have hU := hx4 U (by simp)
    have hK := hx4 K (by simp)
    have hA := hx4 A (by simp)
    obtain ⟨a, cap, rfl, hI, -⟩ := hO.is
    simp only [List.length_cons, List.length_nil] at hI
    obtain ⟨g, rfl, hg, d0⟩ := hI.cells 0 E rfl
    obtain ⟨g', hg', -, d1⟩ := hI.cells 1 U rfl
    simp only [Option.some.injEq, Addr.mk.injEq, and_true] at hg'
    subst hg'
    obtain ⟨g', hg', -, d2⟩ := hI.cells 2 K rfl
    simp only [Option.some.injEq, Addr.mk.injEq, and_true] at hg'
    subst hg'
    obtain ⟨g', hg', -, d3⟩ := hI.cells 3 A rfl
    simp only [Option.some.injEq, Addr.mk.injEq, and_true] at hg'
    subst hg'
    have hgF : W1.heap.size ≤ g := hF g rfl
    have hTz : (S.extract P S.size).size = S.size - P := by rw [ByteArray.size_extract]; omega
    have hTd : bs (S.extract P S.size) = (bs S).drop P := bs_rest S P
    have hPI : (P : Int) ≤ (S.size : Int) := by omega
    obtain ⟨T, hT⟩ : ∃ T, S.extract P S.size = T := ⟨_, rfl⟩
    rw [hT] at hTz hTd
    have hTm : T.size ≤ 1000000 := by omega
    clear hl4 hx4 hI hO hF
    go_wp2
    go_region
    have bY : Below w2.heap.size w2 (w2.alloc (.cells #[.int .i64 ((E : Nat) : Int), .int .i64 ((U : Nat) : Int), .int .i64 ((K : Nat) : Int), .slice none 0 0, .string ⟨#[]⟩, .string ⟨#[]⟩] 29)).drew := (below_alloc w2 _).drew
    have hY4 : RAt (w2.alloc (.cells #[.int .i64 ((E : Nat) : Int), .int .i64 ((U : Nat) : Int), .int .i64 ((K : Nat) : Int), .slice none 0 0, .string ⟨#[]⟩, .string ⟨#[]⟩] 29)).drew w2.heap.size (E : Int) (U : Int) (K : Int) (.slice none 0 0) ⟨#[]⟩ ⟨#[]⟩ := RAt.later (⟨boxR w2 _ _ _ _ _ _ 29, fun i => by simp⟩ : RAt (w2.alloc (.cells #[.int .i64 ((E : Nat) : Int), .int .i64 ((U : Nat) : Int), .int .i64 ((K : Nat) : Int), .slice none 0 0, .string ⟨#[]⟩, .string ⟨#[]⟩] 29)) _ _ _ _ _ _ _) ((Below.refl _ _).drew)
    generalize hW4 : (w2.alloc (.cells #[.int .i64 ((E : Nat) : Int), .int .i64 ((U : Nat) : Int), .int .i64 ((K : Nat) : Int), .slice none 0 0, .string ⟨#[]⟩, .string ⟨#[]⟩] 29)).drew = w4 at *
    have hZ4 := hZ2.later bY
    have BB4 := BB2.trans (bY.mono BB2.size)
    have hzb : Hid (w.heap.size < w2.heap.size) := hZ2.lt
    have hzy : w.heap.size ≠ w2.heap.size := by have := hzb.out; omega
    have hgy : g ≠ w2.heap.size := by omega
    have hgz : g ≠ w.heap.size := by have := hz1.out; omega
    have t3 := (bY.cell hg).trans d3
    have hg4 : g < w4.heap.size := Nat.lt_of_lt_of_le hg bY.size
    have hz4 : Hid (w.heap.size < w4.heap.size) := hZ4.lt
    have hy4 : Hid (w2.heap.size < w4.heap.size) := hY4.lt
    clear bY hZ2 BB2 hW4 d0 d1 d2 d3 b2
    by_cases hk : K = 3
    · have hk3 : (((K : Nat) : Int) == 3) = true := by rw [beq_iff_eq]; omega
      have hk1 : (((K : Nat) : Int) == 1) = false := by rw [beq_eq_false_iff_ne]; omega
      have HN := tdP_note hq hk
      rw [← hTd] at HN
      clear hk hq hTd
      by_cases ha : T.size < A
      · have ha2 : (T.size : Int) < (A : Int) := by omega
        rw [if_pos (by rw [bs_length]; exact ha)] at HN
        have HG : Hid ((tdP (bs S)).2.2 = false) := by show _ = _; rw [HN]
        clear HN hTz ha
        have x0 := hY4.box.c0
        have x1 := hY4.box.c1
        have x2 := hY4.box.c2
        have x3 := hY4.box.c3
        have x4 := hY4.box.c4
        have x5 := hY4.box.c5
        have z0 := hZ4.box.c0
        have z1 := hZ4.box.c1
        have z2 := hZ4.box.c2
        have z3 := hZ4.box.c3
        have z4 := hZ4.box.c4
        have z5 := hZ4.box.c5
        have y0 := hZ4.fr 0
        have y1 := hZ4.fr 1
        have y2 := hZ4.fr 2
        have y3 := hZ4.fr 3
        have y4 := hZ4.fr 4
        have y5 := hZ4.fr 5
        have hE := ((((((hZ4.set0 (((E : Nat) : Int))).set1 (((U : Nat) : Int))).set2 (((K : Nat) : Int))).set3 (.slice none 0 0)).set4 (⟨#[]⟩)).set5 (⟨#[]⟩))
        have kZ : ∀ (W : World) (i : Nat) (u : Value), Keep (fun k => k = w.heap.size) W (W.setCell ⟨w.heap.size, i, none⟩ u) := fun W i u => Keep.setCell W _ u rfl
        have kAll := (((((kZ w4 0 (.int .i64 ((E : Nat) : Int))).trans (kZ _ 1 (.int .i64 ((U : Nat) : Int))) fun _ _ x => x).trans (kZ _ 2 (.int .i64 ((K : Nat) : Int))) fun _ _ x => x).trans (kZ _ 3 (.slice none 0 0)) fun _ _ x => x).trans (kZ _ 4 (.string ⟨#[]⟩)) fun _ _ x => x).trans (kZ _ 5 (.string ⟨#[]⟩)) fun _ _ x => x
        replace hE := hide hE
        have BF := BB4.trans (kAll.below (B := w.heap.size) BB4.size (fun k hk x => by omega))
        clear kAll kZ hZ4 BB4 
        go_wp2
        have e0 := hE.out.box.c0
        have e1 := hE.out.box.c1
        have e2 := hE.out.box.c2
        have e3 := hE.out.box.c3
        have e4 := hE.out.box.c4
        have e5 := hE.out.box.c5
        refine bodyPost_ret (v := .tuple #[.agg #[.int .i64 ((E : Nat) : Int), .int .i64 ((U : Nat) : Int), .int .i64 ((K : Nat) : Int), .slice none 0 0, .string ⟨#[]⟩, .string ⟨#[]⟩], .string ⟨#[]⟩, .bool false]) (by simp [results, Tryd.results36, go_sem, e0, e1, e2, e3, e4, e5]) rfl ⟨_, _, _, _, _, _, _, by rw [HG.out], Own.nil _, From.nil _ _ _, BF, fun hh => absurd hh (by rw [HG.out]; decide)⟩
      · have ha2 : ¬ (T.size : Int) < (A : Int) := by omega
        have ha3 : (A : Int) ≤ (T.size : Int) := by omega
        have ha4 : A ≤ T.size := by omega
        rw [if_neg (by rw [bs_length]; exact ha)] at HN
        have hXb : str ((bs T).take A) = T.extract 0 A := bs_inj (by rw [bs_str (fun b hb => bs_lt T b (List.mem_of_mem_take hb)), bs_extract, List.drop_zero, Nat.sub_zero])
        rw [hXb] at HN
        obtain ⟨X, hX⟩ : ∃ X, T.extract 0 A = X := ⟨_, rfl⟩
        rw [hX] at HN
        have HG : Hid ((tdP (bs S)).2.2 = true) := by show _ = _; rw [HN]
        replace HN := hide HN
        have c5 := hY4.box.c5
        have f5 := hY4.fr 5
        have c2 := hY4.box.c2
        have kS := Keep.setCell (X := fun k => k = w2.heap.size) w4 ⟨w2.heap.size, 5, none⟩ (.string X) rfl
        have hY5 := hY4.set5 X
        have hZ5 := hZ4.keep kS (fun x => hzy x)
        have BB5 := BB4.trans (kS.below (B := w.heap.size) BB4.size (fun k hk x => by have := hz1.out; have := hzb.out; omega))
        clear kS hY4 hZ4 BB4 hTz ha hXb
        generalize hW5 : w4.setCell ⟨w2.heap.size, 5, none⟩ (.string X) = w5 at *
        have x0 := hY5.box.c0
        have x1 := hY5.box.c1
        have x2 := hY5.box.c2
        have x3 := hY5.box.c3
        have x4 := hY5.box.c4
        have x5 := hY5.box.c5
        have z0 := hZ5.box.c0
        have z1 := hZ5.box.c1
        have z2 := hZ5.box.c2
        have z3 := hZ5.box.c3
        have z4 := hZ5.box.c4
        have z5 := hZ5.box.c5
        have y0 := hZ5.fr 0
        have y1 := hZ5.fr 1
        have y2 := hZ5.fr 2
        have y3 := hZ5.fr 3
        have y4 := hZ5.fr 4
        have y5 := hZ5.fr 5
        have hE := ((((((hZ5.set0 (((E : Nat) : Int))).set1 (((U : Nat) : Int))).set2 (((K : Nat) : Int))).set3 (.slice none 0 0)).set4 (⟨#[]⟩)).set5 (X))
        have kZ : ∀ (W : World) (i : Nat) (u : Value), Keep (fun k => k = w.heap.size) W (W.setCell ⟨w.heap.size, i, none⟩ u) := fun W i u => Keep.setCell W _ u rfl
        have kAll := (((((kZ w5 0 (.int .i64 ((E : Nat) : Int))).trans (kZ _ 1 (.int .i64 ((U : Nat) : Int))) fun _ _ x => x).trans (kZ _ 2 (.int .i64 ((K : Nat) : Int))) fun _ _ x => x).trans (kZ _ 3 (.slice none 0 0)) fun _ _ x => x).trans (kZ _ 4 (.string ⟨#[]⟩)) fun _ _ x => x).trans (kZ _ 5 (.string X)) fun _ _ x => x
        replace hE := hide hE
        have BF := BB5.trans (kAll.below (B := w.heap.size) BB5.size (fun k hk x => by omega))
        clear kAll kZ hZ5 BB5 
        go_wp2
        have e0 := hE.out.box.c0
        have e1 := hE.out.box.c1
        have e2 := hE.out.box.c2
        have e3 := hE.out.box.c3
        have e4 := hE.out.box.c4
        have e5 := hE.out.box.c5
        refine bodyPost_ret (v := .tuple #[.agg #[.int .i64 ((E : Nat) : Int), .int .i64 ((U : Nat) : Int), .int .i64 ((K : Nat) : Int), .slice none 0 0, .string ⟨#[]⟩, .string X], .string ⟨#[]⟩, .bool true]) (by simp [results, Tryd.results36, go_sem, e0, e1, e2, e3, e4, e5]) rfl ⟨_, _, _, _, _, _, _, by rw [HG.out], Own.nil _, From.nil _ _ _, BF, fun _ => HN.out⟩
    · have hk3 : (((K : Nat) : Int) == 3) = false := by rw [beq_eq_false_iff_ne]; omega
      by_cases ha : 64 < A
      · have ha2 : (64 : Int) < (A : Int) := by omega
        have HN := tdP_long hq hk ha
        have HG : Hid ((tdP (bs S)).2.2 = false) := by show _ = _; rw [HN]
        clear HN hTz hTd hq hk ha
        have x0 := hY4.box.c0
        have x1 := hY4.box.c1
        have x2 := hY4.box.c2
        have x3 := hY4.box.c3
        have x4 := hY4.box.c4
        have x5 := hY4.box.c5
        have z0 := hZ4.box.c0
        have z1 := hZ4.box.c1
        have z2 := hZ4.box.c2
        have z3 := hZ4.box.c3
        have z4 := hZ4.box.c4
        have z5 := hZ4.box.c5
        have y0 := hZ4.fr 0
        have y1 := hZ4.fr 1
        have y2 := hZ4.fr 2
        have y3 := hZ4.fr 3
        have y4 := hZ4.fr 4
        have y5 := hZ4.fr 5
        have hE := ((((((hZ4.set0 (((E : Nat) : Int))).set1 (((U : Nat) : Int))).set2 (((K : Nat) : Int))).set3 (.slice none 0 0)).set4 (⟨#[]⟩)).set5 (⟨#[]⟩))
        have kZ : ∀ (W : World) (i : Nat) (u : Value), Keep (fun k => k = w.heap.size) W (W.setCell ⟨w.heap.size, i, none⟩ u) := fun W i u => Keep.setCell W _ u rfl
        have kAll := (((((kZ w4 0 (.int .i64 ((E : Nat) : Int))).trans (kZ _ 1 (.int .i64 ((U : Nat) : Int))) fun _ _ x => x).trans (kZ _ 2 (.int .i64 ((K : Nat) : Int))) fun _ _ x => x).trans (kZ _ 3 (.slice none 0 0)) fun _ _ x => x).trans (kZ _ 4 (.string ⟨#[]⟩)) fun _ _ x => x).trans (kZ _ 5 (.string ⟨#[]⟩)) fun _ _ x => x
        replace hE := hide hE
        have BF := BB4.trans (kAll.below (B := w.heap.size) BB4.size (fun k hk x => by omega))
        clear kAll kZ hZ4 BB4 
        go_wp2
        have e0 := hE.out.box.c0
        have e1 := hE.out.box.c1
        have e2 := hE.out.box.c2
        have e3 := hE.out.box.c3
        have e4 := hE.out.box.c4
        have e5 := hE.out.box.c5
        refine bodyPost_ret (v := .tuple #[.agg #[.int .i64 ((E : Nat) : Int), .int .i64 ((U : Nat) : Int), .int .i64 ((K : Nat) : Int), .slice none 0 0, .string ⟨#[]⟩, .string ⟨#[]⟩], .string ⟨#[]⟩, .bool false]) (by simp [results, Tryd.results36, go_sem, e0, e1, e2, e3, e4, e5]) rfl ⟨_, _, _, _, _, _, _, by rw [HG.out], Own.nil _, From.nil _ _ _, BF, fun hh => absurd hh (by rw [HG.out]; decide)⟩
      · have ha2 : ¬ (64 : Int) < (A : Int) := by omega
        have h2A : ((2 * A : Nat) : Int) = 2 * (A : Int) := by omega
        have hn2 := fun w => numbers_any T (by omega) (2 * A) (by omega) w
        rw [h2A] at hn2
        have hlen2 := @nmP_len (bs T) (2 * A)
        rw [bs_length] at hlen2
        generalize hq2 : nmP (bs T) (2 * A) = q2 at hn2 hlen2
        obtain ⟨M, N, ok2⟩ := q2
        simp only at hn2 hlen2
        replace h2A := hide h2A
        have hAs : A ≤ 64 := by omega
        have c2 := hY4.box.c2
        go_wp2_with fail
        refine (hn2 _).mono ?_
        rintro x w5 ⟨v5, rfl, hO5, hF5, b5⟩
        have hZ5 := hZ4.later b5
        have hY5 := hY4.later b5
        have BB5 := BB4.trans (b5.mono BB4.size)
        have t5 := (b5.cell hg4).trans t3
        have hg5 : g < w5.heap.size := Nat.lt_of_lt_of_le hg4 b5.size
        have hz5 : Hid (w.heap.size < w5.heap.size) := hZ5.lt
        have hy5 : Hid (w2.heap.size < w5.heap.size) := hY5.lt
        have hs5 : Hid (w4.heap.size ≤ w5.heap.size) := b5.size
        clear hn2 hZ4 hY4 BB4 t3 hg4 b5 c2
        cases ok2 with
        | false =>
          have HN := tdP_few hq hk ha (by rw [← hTd, hq2])
          have HG : Hid ((tdP (bs S)).2.2 = false) := by show _ = _; rw [HN]
          obtain ⟨a5, m5, cap5, rfl⟩ := own_form hO5
          clear HN hTz hTd hq hk ha hq2 hlen2 hO5 hF5
          have x0 := hY5.box.c0
          have x1 := hY5.box.c1
          have x2 := hY5.box.c2
          have x3 := hY5.box.c3
          have x4 := hY5.box.c4
          have x5 := hY5.box.c5
          have z0 := hZ5.box.c0
          have z1 := hZ5.box.c1
          have z2 := hZ5.box.c2
          have z3 := hZ5.box.c3
          have z4 := hZ5.box.c4
          have z5 := hZ5.box.c5
          have y0 := hZ5.fr 0
          have y1 := hZ5.fr 1
          have y2 := hZ5.fr 2
          have y3 := hZ5.fr 3
          have y4 := hZ5.fr 4
          have y5 := hZ5.fr 5
          have hE := ((((((hZ5.set0 (((E : Nat) : Int))).set1 (((U : Nat) : Int))).set2 (((K : Nat) : Int))).set3 (.slice none 0 0)).set4 (⟨#[]⟩)).set5 (⟨#[]⟩))
          have kZ : ∀ (W : World) (i : Nat) (u : Value), Keep (fun k => k = w.heap.size) W (W.setCell ⟨w.heap.size, i, none⟩ u) := fun W i u => Keep.setCell W _ u rfl
          have kAll := (((((kZ w5 0 (.int .i64 ((E : Nat) : Int))).trans (kZ _ 1 (.int .i64 ((U : Nat) : Int))) fun _ _ x => x).trans (kZ _ 2 (.int .i64 ((K : Nat) : Int))) fun _ _ x => x).trans (kZ _ 3 (.slice none 0 0)) fun _ _ x => x).trans (kZ _ 4 (.string ⟨#[]⟩)) fun _ _ x => x).trans (kZ _ 5 (.string ⟨#[]⟩)) fun _ _ x => x
          replace hE := hide hE
          have BF := BB5.trans (kAll.below (B := w.heap.size) BB5.size (fun k hk x => by omega))
          clear kAll kZ hZ5 BB5 
          go_wp2
          have e0 := hE.out.box.c0
          have e1 := hE.out.box.c1
          have e2 := hE.out.box.c2
          have e3 := hE.out.box.c3
          have e4 := hE.out.box.c4
          have e5 := hE.out.box.c5
          refine bodyPost_ret (v := .tuple #[.agg #[.int .i64 ((E : Nat) : Int), .int .i64 ((U : Nat) : Int), .int .i64 ((K : Nat) : Int), .slice none 0 0, .string ⟨#[]⟩, .string ⟨#[]⟩], .string ⟨#[]⟩, .bool false]) (by simp [results, Tryd.results36, go_sem, e0, e1, e2, e3, e4, e5]) rfl ⟨_, _, _, _, _, _, _, by rw [HG.out], Own.nil _, From.nil _ _ _, BF, fun hh => absurd hh (by rw [HG.out]; decide)⟩
        | true =>
          obtain ⟨hlM, hNl, hxM⟩ := hlen2 rfl
          obtain ⟨a5, cap5, rfl, hI5, -⟩ := hO5.is
          clear hlen2 hO5
          have hgm : ∀ i, i < 2 * A → ∃ b, a5 = some ⟨b, 0, none⟩ ∧ b < w5.heap.size ∧ b ≠ w2.heap.size ∧ w5.cell? ⟨b, i, none⟩ = some (.int .i64 ((M.getD i 0 : Nat) : Int)) ∧ M.getD i 0 ≤ 1125899906842624 := by
            intro i hi
            have hiM : i < M.length := by omega
            obtain ⟨b, h1, h2, h3⟩ := hI5.cells i M[i] (List.getElem?_eq_getElem hiM)
            refine ⟨b, h1, h2, ?_, ?_, ?_⟩
            · intro x
              subst h1
              have := hF5 b rfl
              have := hy4.out
              omega
            · rw [List.getD_eq_getElem?_getD, List.getElem?_eq_getElem hiM]
              exact h3
            · rw [List.getD_eq_getElem?_getD, List.getElem?_eq_getElem hiM]
              exact hxM _ (List.getElem_mem hiM)
          replace hlM : Hid (M.length = 2 * A) := hlM
          obtain ⟨i0, hi, hz0, hz1', hz2⟩ := info_parts info39
          clear hI5 hF5
          go_wp2
          go_loopw [13] (fun i wr => ∃ (j : Nat) (v : Value), j ≤ A ∧ i = .int .i64 j ∧ RAt wr w2.heap.size (E : Int) (U : Int) (K : Int) v ⟨#[]⟩ ⟨#[]⟩ ∧ Own wr v (prs M j) ∧ From w5.heap.size v ∧ Keep (fun k => k = w2.heap.size) w5 wr) (fun i _ => A - (intOf i).toNat)
          case atStart => exact ⟨0, _, Nat.zero_le _, rfl, hY5, Own.nil _, From.nil _ _ _, Keep.of_below (Below.refl _ _)⟩
          case round =>
            obtain ⟨j, v, hj, rfl, hY, hown, hfrom, hKe⟩ := hrel
            obtain ⟨av, nv, cv, rfl⟩ := own_form hown
            have hsz := hKe.size
            have hZ := hZ5.keep hKe (fun x => hzy x)
            have tr := keep_cell hKe hg5 (fun x => hgy x) t5
            have hvy : (Value.slice av nv cv).ownBlock ≠ some w2.heap.size := fun x => by have := hfrom _ x; have := hy5.out; omega
            have hvz : Hid ((Value.slice av nv cv).ownBlock ≠ some w.heap.size) := fun x => by have := hfrom _ x; have := hz5.out; omega
            clear hY5 hZ5
            by_cases hlt : j < A
            · obtain ⟨b, hab, hb1, hb2, hb3, hb4⟩ := hgm (2 * j) (by omega)
              obtain ⟨b', hab', -, -, hb5, hb6⟩ := hgm (2 * j + 1) (by omega)
              subst hab
              simp only [Option.some.injEq, Addr.mk.injEq, and_true] at hab'
              subst hab'
              have HP := hide (prs_succ M j)
              have hpl := prs_length M j
              have m0 := keep_cell hKe hb1 (fun x => hb2 x) hb3
              have m1 := keep_cell hKe hb1 (fun x => hb2 x) hb5
              generalize M.getD (2 * j) 0 = X1 at *
              generalize M.getD (2 * j + 1) 0 = X2 at *
              have e2 : IntKind.i64.wrap (2 * (j : Int)) = 2 * (j : Int) := by simp [IntKind.wrap, IntKind.bits, IntKind.signed]; omega
              have e3 : (2 * (j : Int)).toNat = 2 * j := by omega
              have e4 : IntKind.i64.wrap (2 * (j : Int) + 1) = 2 * (j : Int) + 1 := by simp [IntKind.wrap, IntKind.bits, IntKind.signed]; omega
              have e5 : (2 * (j : Int) + 1).toNat = 2 * j + 1 := by omega
              have e6 : 2 * j + 1 < M.length := by have := hlM.out; omega
              have e7 : 2 * j < M.length := by omega
              have e10 : 0 ≤ 2 * (j : Int) := by omega
              have e11 : 0 ≤ 2 * (j : Int) + 1 := by omega
              have e8 : 2 * (j : Int) + 1 < (M.length : Int) := by omega
              have e9 : 2 * (j : Int) < (M.length : Int) := by omega
              have c3 := hY.box.c3
              have c3d := (hY.later (below_alloc wr (.cells #[.int .i64 ((X1 : Nat) : Int), .int .i64 ((X2 : Nat) : Int)] 39))).box.c3
              have hYd := hY.later (below_alloc wr (.cells #[.int .i64 ((X1 : Nat) : Int), .int .i64 ((X2 : Nat) : Int)] 39)).drew
              have hOd := hown.later (below_alloc wr (.cells #[.int .i64 ((X1 : Nat) : Int), .int .i64 ((X2 : Nat) : Int)] 39)).drew
              have hb7 : b < wr.heap.size := by omega
              have hKd := hKe.trans (Keep.of_below (X := fun k => k = w2.heap.size) (below_alloc wr (.cells #[.int .i64 ((X1 : Nat) : Int), .int .i64 ((X2 : Nat) : Int)] 39)).drew) fun _ _ x => x
              clear hZ
              go_wp2
              go_region_law (refine step_append_moved rfl (.tmp 83) (.tmp 96) 22 rfl 39 i0 _ 2 16 Tryd.underlying22 hi hz0 hz1' hz2 rfl (by decide) (.slice av nv cv) _ _ (by simp [Act.eval]) hOd ⟨wr.heap.size, 0, none⟩ 1 1 [.int .i64 ((X1 : Nat) : Int), .int .i64 ((X2 : Nat) : Int)] (by simp [Act.eval]) rfl (cells_two_drew _ _ _ _) (enc2_oneCell [((X1 : Int), (X2 : Int))]) (by unfold maxLen; omega) (by omega) ?_; intro v2 w6 g1 g2 g3; obtain ⟨a2, n2, q2, rfl⟩ := own_form g1; have hY6 := hYd.keep (keep_grown g2) (fun x => hvy x); have c3' := hY6.box.c3; have f3' := hY6.fr 3; replace g1 := hide g1; replace g2 := hide g2; replace g3 := hide g3)
              all_goals
                have hO6 : Own w6 (.slice a2 n2 q2) (prs M (j + 1)) := by
                  unfold Own
                  rw [HP.out, enc2_append, List.length_append]
                  exact g1.out
                have hF6 : From w5.heap.size (.slice a2 n2 q2) := hfrom.moved g3.out (by show w5.heap.size ≤ (wr.alloc _).heap.size; simp; omega)
                have hv2 : (Value.slice a2 n2 q2).ownBlock ≠ some w2.heap.size := fun h => by have := hF6 _ h; have := hy5.out; omega
                have kS := Keep.setCell (X := fun k => k = w2.heap.size) w6 ⟨w2.heap.size, 3, none⟩ (.slice a2 n2 q2) rfl
                have hY7 := hY6.set3 (.slice a2 n2 q2)
                have hO7 := own_keep hO6 kS (fun i hi x => hv2 (x ▸ hi))
                have hK7 := (hKd.trans (keep_grown g2.out) fun i hi x => absurd (hfrom _ x) (by omega)).trans kS fun i _ x => x
                clear hO6 hv2 kS hY6 hKd g1 g2 g3 c3' f3' hYd hOd c3 c3d hKe hown hY m0 m1
                go_wp2
                go_roundw
                case rel => exact ⟨j + 1, _, by omega, by go_num, hY7, hO7, hF6, hK7⟩
                case measure => simp [intOf]; omega
            · obtain rfl : j = A := by omega
              have BB6 := BB5.trans (hKe.below (B := w.heap.size) BB5.size (fun k hk x => by have := hzb.out; omega))
              have c2 := hY.box.c2
              have hFz : From w.heap.size (.slice av nv cv) := fun k hk => Nat.le_trans (Nat.le_of_lt hz5.out) (hfrom k hk)
              clear BB5 hKe hfrom hgm t5
              by_cases hk1 : K = 1
              · have hkb : (((K : Nat) : Int) == 1) = true := by rw [beq_iff_eq]; omega
                have HN := tdP_write hq hk1 ha (by rw [← hTd, hq2])
                rw [← hTd] at HN
                by_cases hl : T.size < N + 4
                · have hl2 : (T.size : Int) < (N : Int) + 4 := by omega
                  rw [if_pos (by rw [bs_length]; exact hl)] at HN
                  have HG : Hid ((tdP (bs S)).2.2 = false) := by show _ = _; rw [HN]
                  clear HN hTz hTd hq hk ha hq2 hl hk1
                  have x0 := hY.box.c0
                  have x1 := hY.box.c1
                  have x2 := hY.box.c2
                  have x3 := hY.box.c3
                  have x4 := hY.box.c4
                  have x5 := hY.box.c5
                  have z0 := hZ.box.c0
                  have z1 := hZ.box.c1
                  have z2 := hZ.box.c2
                  have z3 := hZ.box.c3
                  have z4 := hZ.box.c4
                  have z5 := hZ.box.c5
                  have y0 := hZ.fr 0
                  have y1 := hZ.fr 1
                  have y2 := hZ.fr 2
                  have y3 := hZ.fr 3
                  have y4 := hZ.fr 4
                  have y5 := hZ.fr 5
                  have hE := ((((((hZ.set0 (((E : Nat) : Int))).set1 (((U : Nat) : Int))).set2 (((K : Nat) : Int))).set3 (.slice av nv cv)).set4 (⟨#[]⟩)).set5 (⟨#[]⟩))
                  have kZ : ∀ (W : World) (i : Nat) (u : Value), Keep (fun k => k = w.heap.size) W (W.setCell ⟨w.heap.size, i, none⟩ u) := fun W i u => Keep.setCell W _ u rfl
                  have kAll := (((((kZ wr 0 (.int .i64 ((E : Nat) : Int))).trans (kZ _ 1 (.int .i64 ((U : Nat) : Int))) fun _ _ x => x).trans (kZ _ 2 (.int .i64 ((K : Nat) : Int))) fun _ _ x => x).trans (kZ _ 3 (.slice av nv cv)) fun _ _ x => x).trans (kZ _ 4 (.string ⟨#[]⟩)) fun _ _ x => x).trans (kZ _ 5 (.string ⟨#[]⟩)) fun _ _ x => x
                  replace hE := hide hE
                  have BF := BB6.trans (kAll.below (B := w.heap.size) BB6.size (fun k hk x => by omega))
                  have hOF := (own_keep (own_keep (own_keep (own_keep (own_keep (own_keep hown (kZ _ 0 (.int .i64 ((E : Nat) : Int))) (fun i hi x => hvz.out (x ▸ hi))) (kZ _ 1 (.int .i64 ((U : Nat) : Int))) (fun i hi x => hvz.out (x ▸ hi))) (kZ _ 2 (.int .i64 ((K : Nat) : Int))) (fun i hi x => hvz.out (x ▸ hi))) (kZ _ 3 (.slice av nv cv)) (fun i hi x => hvz.out (x ▸ hi))) (kZ _ 4 (.string ⟨#[]⟩)) (fun i hi x => hvz.out (x ▸ hi))) (kZ _ 5 (.string ⟨#[]⟩)) (fun i hi x => hvz.out (x ▸ hi)))
                  clear kAll kZ hZ BB6 
                  go_wp2
                  have e0 := hE.out.box.c0
                  have e1 := hE.out.box.c1
                  have e2 := hE.out.box.c2
                  have e3 := hE.out.box.c3
                  have e4 := hE.out.box.c4
                  have e5 := hE.out.box.c5
                  refine bodyPost_ret (v := .tuple #[.agg #[.int .i64 ((E : Nat) : Int), .int .i64 ((U : Nat) : Int), .int .i64 ((K : Nat) : Int), .slice av nv cv, .string ⟨#[]⟩, .string ⟨#[]⟩], .string ⟨#[]⟩, .bool false]) (by simp [results, Tryd.results36, go_sem, e0, e1, e2, e3, e4, e5]) rfl ⟨_, _, _, _, _, _, _, by rw [HG.out], hOF, hFz, BF, fun hh => absurd hh (by rw [HG.out]; decide)⟩
                · have hl2 : ¬ (T.size : Int) < (N : Int) + 4 := by omega
                  have hl3 : (N : Int) + 4 ≤ (T.size : Int) := by omega
                  have hl4 : N + 4 ≤ T.size := by omega
                  rw [if_neg (by rw [bs_length]; exact hl), drop_ext] at HN
                  obtain ⟨X, hX⟩ : ∃ X, T.extract N (N + 4) = X := ⟨_, rfl⟩
                  rw [hX] at HN
                  have HG : Hid ((tdP (bs S)).2.2 = true) := by show _ = _; rw [HN]
                  replace HN := hide HN
                  clear hTz hTd hq hk ha hq2 hl hk1
                  have x0 := hY.box.c0
                  have x1 := hY.box.c1
                  have x2 := hY.box.c2
                  have x3 := hY.box.c3
                  have x4 := hY.box.c4
                  have x5 := hY.box.c5
                  have z0 := hZ.box.c0
                  have z1 := hZ.box.c1
                  have z2 := hZ.box.c2
                  have z3 := hZ.box.c3
                  have z4 := hZ.box.c4
                  have z5 := hZ.box.c5
                  have y0 := hZ.fr 0
                  have y1 := hZ.fr 1
                  have y2 := hZ.fr 2
                  have y3 := hZ.fr 3
                  have y4 := hZ.fr 4
                  have y5 := hZ.fr 5
                  have hE := ((((((hZ.set0 (((E : Nat) : Int))).set1 (((U : Nat) : Int))).set2 (((K : Nat) : Int))).set3 (.slice av nv cv)).set4 (⟨#[]⟩)).set5 (⟨#[]⟩))
                  have kZ : ∀ (W : World) (i : Nat) (u : Value), Keep (fun k => k = w.heap.size) W (W.setCell ⟨w.heap.size, i, none⟩ u) := fun W i u => Keep.setCell W _ u rfl
                  have kAll := (((((kZ wr 0 (.int .i64 ((E : Nat) : Int))).trans (kZ _ 1 (.int .i64 ((U : Nat) : Int))) fun _ _ x => x).trans (kZ _ 2 (.int .i64 ((K : Nat) : Int))) fun _ _ x => x).trans (kZ _ 3 (.slice av nv cv)) fun _ _ x => x).trans (kZ _ 4 (.string ⟨#[]⟩)) fun _ _ x => x).trans (kZ _ 5 (.string ⟨#[]⟩)) fun _ _ x => x
                  replace hE := hide hE
                  have BF := BB6.trans (kAll.below (B := w.heap.size) BB6.size (fun k hk x => by omega))
                  have hOF := (own_keep (own_keep (own_keep (own_keep (own_keep (own_keep hown (kZ _ 0 (.int .i64 ((E : Nat) : Int))) (fun i hi x => hvz.out (x ▸ hi))) (kZ _ 1 (.int .i64 ((U : Nat) : Int))) (fun i hi x => hvz.out (x ▸ hi))) (kZ _ 2 (.int .i64 ((K : Nat) : Int))) (fun i hi x => hvz.out (x ▸ hi))) (kZ _ 3 (.slice av nv cv)) (fun i hi x => hvz.out (x ▸ hi))) (kZ _ 4 (.string ⟨#[]⟩)) (fun i hi x => hvz.out (x ▸ hi))) (kZ _ 5 (.string ⟨#[]⟩)) (fun i hi x => hvz.out (x ▸ hi)))
                  clear kAll kZ hZ BB6 
                  go_wp2
                  have e0 := hE.out.box.c0
                  have e1 := hE.out.box.c1
                  have e2 := hE.out.box.c2
                  have e3 := hE.out.box.c3
                  have e4 := hE.out.box.c4
                  have e5 := hE.out.box.c5
                  refine bodyPost_ret (v := .tuple #[.agg #[.int .i64 ((E : Nat) : Int), .int .i64 ((U : Nat) : Int), .int .i64 ((K : Nat) : Int), .slice av nv cv, .string ⟨#[]⟩, .string ⟨#[]⟩], .string X, .bool true]) (by simp [results, Tryd.results36, go_sem, e0, e1, e2, e3, e4, e5]) rfl ⟨_, _, _, _, _, _, _, by rw [HG.out], hOF, hFz, BF, fun _ => HN.out⟩
              · have hkb : (((K : Nat) : Int) == 1) = false := by rw [beq_eq_false_iff_ne]; omega
                have HN := tdP_trim hq hk hk1 ha (by rw [← hTd, hq2])
                have HG : Hid ((tdP (bs S)).2.2 = true) := by show _ = _; rw [HN]
                replace HN := hide HN
                clear hTz hTd hq hk ha hq2 hk1
                have x0 := hY.box.c0
                have x1 := hY.box.c1
                have x2 := hY.box.c2
                have x3 := hY.box.c3
                have x4 := hY.box.c4
                have x5 := hY.box.c5
                have z0 := hZ.box.c0
                have z1 := hZ.box.c1
                have z2 := hZ.box.c2
                have z3 := hZ.box.c3
                have z4 := hZ.box.c4
                have z5 := hZ.box.c5
                have y0 := hZ.fr 0
                have y1 := hZ.fr 1
                have y2 := hZ.fr 2
                have y3 := hZ.fr 3
                have y4 := hZ.fr 4
                have y5 := hZ.fr 5
                have hE := ((((((hZ.set0 (((E : Nat) : Int))).set1 (((U : Nat) : Int))).set2 (((K : Nat) : Int))).set3 (.slice av nv cv)).set4 (⟨#[]⟩)).set5 (⟨#[]⟩))
                have kZ : ∀ (W : World) (i : Nat) (u : Value), Keep (fun k => k = w.heap.size) W (W.setCell ⟨w.heap.size, i, none⟩ u) := fun W i u => Keep.setCell W _ u rfl
                have kAll := (((((kZ wr 0 (.int .i64 ((E : Nat) : Int))).trans (kZ _ 1 (.int .i64 ((U : Nat) : Int))) fun _ _ x => x).trans (kZ _ 2 (.int .i64 ((K : Nat) : Int))) fun _ _ x => x).trans (kZ _ 3 (.slice av nv cv)) fun _ _ x => x).trans (kZ _ 4 (.string ⟨#[]⟩)) fun _ _ x => x).trans (kZ _ 5 (.string ⟨#[]⟩)) fun _ _ x => x
                replace hE := hide hE
                have BF := BB6.trans (kAll.below (B := w.heap.size) BB6.size (fun k hk x => by omega))
                have hOF := (own_keep (own_keep (own_keep (own_keep (own_keep (own_keep hown (kZ _ 0 (.int .i64 ((E : Nat) : Int))) (fun i hi x => hvz.out (x ▸ hi))) (kZ _ 1 (.int .i64 ((U : Nat) : Int))) (fun i hi x => hvz.out (x ▸ hi))) (kZ _ 2 (.int .i64 ((K : Nat) : Int))) (fun i hi x => hvz.out (x ▸ hi))) (kZ _ 3 (.slice av nv cv)) (fun i hi x => hvz.out (x ▸ hi))) (kZ _ 4 (.string ⟨#[]⟩)) (fun i hi x => hvz.out (x ▸ hi))) (kZ _ 5 (.string ⟨#[]⟩)) (fun i hi x => hvz.out (x ▸ hi)))
                clear kAll kZ hZ BB6 
                go_wp2
                have e0 := hE.out.box.c0
                have e1 := hE.out.box.c1
                have e2 := hE.out.box.c2
                have e3 := hE.out.box.c3
                have e4 := hE.out.box.c4
                have e5 := hE.out.box.c5
                refine bodyPost_ret (v := .tuple #[.agg #[.int .i64 ((E : Nat) : Int), .int .i64 ((U : Nat) : Int), .int .i64 ((K : Nat) : Int), .slice av nv cv, .string ⟨#[]⟩, .string ⟨#[]⟩], .string ⟨#[]⟩, .bool true]) (by simp [results, Tryd.results36, go_sem, e0, e1, e2, e3, e4, e5]) rfl ⟨_, _, _, _, _, _, _, by rw [HG.out], hOF, hFz, BF, fun _ => HN.out⟩
end Re
end Go.Proofs.YtnpbgjafahhadaaDoor
