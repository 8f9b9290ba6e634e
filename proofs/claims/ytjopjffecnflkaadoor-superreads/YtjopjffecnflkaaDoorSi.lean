/- A part of the proofs about package super: what its functions answer, call by call. -/
import Derived.Test.YtjopjffecnflkaaDoorSh
namespace Go.Proofs.YtjopjffecnflkaaDoor
open Go.RowKit
namespace Su
open Cr
def Sb.no : Sb := ⟨0, 0, -1, 0, 0, 0⟩
/-- One sector more: what is the last one that stands where it belongs. -/
def stepK (k : Int) (D : Sb × Int) (L : Sb) : Sb := if D.2 = 0 ∧ D.1.ser % 2 = k ∧ L.ser < D.1.ser then D.1 else L
def pickL (a b : ByteArray) : Sb := stepK 1 (decS b) (stepK 0 (decS a) Sb.no)
def pickS (a b : ByteArray) : Sb × Int × Int := if (pickL a b).ser = -1 then (Sb.zero, 0, 15) else (pickL a b, (pickL a b).ser % 2, 0)
/-- A superblock in a box. -/
def Bs (w : World) (b : Nat) (s : Sb) : Prop := BoxC w b s.key s.ep s.ser s.siz s.tail s.num
structure Pk (w wr : World) (n : Nat) (a b : ByteArray) (L : Sb) : Prop where
  r : BoxC wr n 0 0 0 0 0 0
  o : BoxC wr (n + 1) 0 0 (-1) 0 0 0
  l : Bs wr (n + 1 + 1) L
  lt : n + 1 + 1 + 1 < wr.heap.size
  x : wr.cell? ⟨n + 1 + 1 + 1, 0, none⟩ = some (.string a)
  y : wr.cell? ⟨n + 1 + 1 + 1, 1, none⟩ = some (.string b)
  bb : Below n w wr
theorem Pk.later {w wr w2 : World} {n : Nat} {a b : ByteArray} {L : Sb} (h : Pk w wr n a b L) (hb : Below wr.heap.size wr w2) : Pk w w2 n a b L :=
  ⟨h.r.later (hb.mono h.r.lt), h.o.later (hb.mono h.o.lt), BoxC.later h.l (hb.mono h.l.lt), Nat.lt_of_lt_of_le h.lt hb.size, (hb.cell h.lt).trans h.x, (hb.cell h.lt).trans h.y, h.bb.trans (hb.mono (by have := h.lt; omega))⟩
theorem BoxC.putFar {w : World} {b b' key : Nat} {ep ser siz tail num : Int} (h : BoxC w b' key ep ser siz tail num) (hne : b ≠ b') (v0 v1 v2 v3 v4 v5 : Value) : BoxC ((((((w.setCell ⟨b, 0, none⟩ v0).setCell ⟨b, 1, none⟩ v1).setCell ⟨b, 2, none⟩ v2).setCell ⟨b, 3, none⟩ v3).setCell ⟨b, 4, none⟩ v4).setCell ⟨b, 5, none⟩ v5) b' key ep ser siz tail num :=
  (((((h.far1 hne _ _).far1 hne _ _).far1 hne _ _).far1 hne _ _).far1 hne _ _).far1 hne _ _
theorem Pk.put {w wr : World} {n : Nat} {a b : ByteArray} {L : Sb} (h : Pk w wr n a b L) (s : Sb) : Pk w ((((((wr.setCell ⟨n + 1 + 1, 0, none⟩ (.int .u64 (s.key : Nat))).setCell ⟨n + 1 + 1, 1, none⟩ (.int .i64 s.ep)).setCell ⟨n + 1 + 1, 2, none⟩ (.int .i64 s.ser)).setCell ⟨n + 1 + 1, 3, none⟩ (.int .i64 s.siz)).setCell ⟨n + 1 + 1, 4, none⟩ (.int .i64 s.tail)).setCell ⟨n + 1 + 1, 5, none⟩ (.int .i64 s.num)) n a b s :=
  ⟨h.r.putFar (by omega) _ _ _ _ _ _, h.o.putFar (by omega) _ _ _ _ _ _, BoxC.put h.l _ _ _ _ _ _, by simpa using h.lt,
    by rw [cell_far (by omega), cell_far (by omega), cell_far (by omega), cell_far (by omega), cell_far (by omega), cell_far (by omega)]; exact h.x,
    by rw [cell_far (by omega), cell_far (by omega), cell_far (by omega), cell_far (by omega), cell_far (by omega), cell_far (by omega)]; exact h.y, BoxC.below h.l h.bb (by omega) _ _ _ _ _ _⟩
theorem dec_ok {s : ByteArray} (h : (decS s).2 = 0) : (decS s).1 = readS s ∧ chk (readS s) = 0 ∧ s.size = 64 ∧ (opened s).2 = 0 ∧ (readS s).sec = s := by
  unfold decS at h ⊢
  by_cases h1 : s.size = 64
  · rw [if_neg (by omega)] at h ⊢
    by_cases h2 : (opened s).2 = 0
    · rw [if_neg (by omega)] at h ⊢
      by_cases h3 : chk (readS s) = 0 ∧ (readS s).sec = s
      · rw [if_pos h3]
        exact ⟨rfl, h3.1, h1, h2, h3.2⟩
      · rw [if_neg h3] at h
        simp at h
    · rw [if_pos h2] at h
      exact absurd h h2
  · rw [if_pos h1] at h
    simp at h
theorem dec_ser {s : ByteArray} (h : (decS s).2 = 0) : 0 ≤ (decS s).1.ser ∧ (decS s).1.ser < 1099511627776 := by
  obtain ⟨h1, h2, -⟩ := dec_ok h
  rw [h1]
  have := chk_ok h2
  omega
theorem stepK_ser {k : Int} {s : ByteArray} {L : Sb} (h : -1 ≤ L.ser ∧ L.ser < 1099511627776) : -1 ≤ (stepK k (decS s) L).ser ∧ (stepK k (decS s) L).ser < 1099511627776 := by
  unfold stepK
  split
  · next h1 => have := dec_ser h1.1; omega
  · exact h
theorem no_ser : -1 ≤ Sb.no.ser ∧ Sb.no.ser < 1099511627776 := by
  show (-1 : Int) ≤ -1 ∧ (-1 : Int) < 1099511627776
  omega
set_option maxHeartbeats 4000000 in
theorem pick_none (a b : ByteArray) (ha : a.size ≤ 1000) (hb : b.size ≤ 1000) (hm0 : (pickL a b).ser = -1) (w : World) (T : Tab w) : Calls Tryd.prog 18 #[.string a, .string b] w fun e w' => e = .returned (.tuple #[(pickS a b).1.val, .int .i64 (pickS a b).2.1, .int .i64 (pickS a b).2.2]) ∧ Below w.heap.size w w' := by
  have hA := fun w T => decode_any a ha w T
  have hB := fun w T => decode_any b hb w T
  have hq : pickS a b = (if (pickL a b).ser = -1 then (Sb.zero, 0, 15) else (pickL a b, (pickL a b).ser % 2, 0)) := rfl
  have hl : stepK 1 (decS b) (stepK 0 (decS a) Sb.no) = pickL a b := rfl
  generalize hpq : pickS a b = PQ at *
  replace hpq := hide hpq
  replace hq := hide hq
  have h1 : stepK 0 (decS a) Sb.no = stepK 0 (decS a) Sb.no := rfl
  generalize hS1 : stepK 0 (decS a) Sb.no = S1 at *
  generalize pickL a b = S2 at *
  replace hm0 := hide hm0
  replace hl := hide hl
  replace hS1 := hide hS1
  clear h1
  have hI : -1 ≤ S1.ser ∧ S1.ser < 1099511627776 := by rw [← hS1.out]; exact stepK_ser no_ser
  have hNo : S2.ser = -1 → S2 = Sb.no := by
    intro h
    rw [← hl.out] at h ⊢
    unfold stepK at h ⊢
    by_cases h1 : (decS b).2 = 0 ∧ (decS b).1.ser % 2 = 1 ∧ S1.ser < (decS b).1.ser
    · rw [if_pos h1] at h
      have := dec_ser h1.1
      omega
    · rw [if_neg h1] at h ⊢
      rw [← hS1.out] at h ⊢
      unfold stepK at h ⊢
      by_cases h2 : (decS a).2 = 0 ∧ (decS a).1.ser % 2 = 0 ∧ Sb.no.ser < (decS a).1.ser
      · rw [if_pos h2] at h
        have := dec_ser h2.1
        omega
      · rw [if_neg h2]
  replace hNo := hide hNo
  go_enter Tryd.func18, Tryd.ntmps18
  go_wp2
  go_loopw [19] (fun i wr => ∃ (k : Nat) (L : Sb), k ≤ 2 ∧ i = .int .i64 k ∧ L = (if k = 0 then Sb.no else if k = 1 then S1 else S2) ∧ Pk w wr w.heap.size a b L) (fun i _ => 2 - (intOf i).toNat)
  case atStart =>
    have A1 := boxC w 0 0 0 0 0 0 24
    have B1 := below_alloc w (.cells #[.int .u64 (0 : Nat), .int .i64 0, .int .i64 0, .int .i64 0, .int .i64 0, .int .i64 0] 24)
    generalize hw1 : w.alloc (.cells #[.int .u64 (0 : Nat), .int .i64 0, .int .i64 0, .int .i64 0, .int .i64 0, .int .i64 0] 24) = w1 at *
    have z1 : w1.heap.size = w.heap.size + 1 := by rw [← hw1]; simp
    have A2 := boxC w1 0 0 (-1) 0 0 0 24
    have B2 := below_alloc w1 (.cells #[.int .u64 (0 : Nat), .int .i64 0, .int .i64 (-1), .int .i64 0, .int .i64 0, .int .i64 0] 24)
    generalize hw2 : w1.alloc (.cells #[.int .u64 (0 : Nat), .int .i64 0, .int .i64 (-1), .int .i64 0, .int .i64 0, .int .i64 0] 24) = w2 at *
    have z2 : w2.heap.size = w.heap.size + 1 + 1 := by rw [← hw2, World.size_alloc, z1]
    have A3 := boxC w2 0 0 (-1) 0 0 0 24
    have B3 := below_alloc w2 (.cells #[.int .u64 (0 : Nat), .int .i64 0, .int .i64 (-1), .int .i64 0, .int .i64 0, .int .i64 0] 24)
    generalize hw3 : w2.alloc (.cells #[.int .u64 (0 : Nat), .int .i64 0, .int .i64 (-1), .int .i64 0, .int .i64 0, .int .i64 0] 24) = w3 at *
    have z3 : w3.heap.size = w.heap.size + 1 + 1 + 1 := by rw [← hw3, World.size_alloc, z2]
    have B4 := below_alloc w3 (.cells #[.string a, .string b] 9)
    have b14 := (B2.trans (B3.mono (by omega))).trans (B4.mono (by omega))
    refine ⟨0, Sb.no, by omega, rfl, rfl, ?_⟩
    exact ⟨A1.later (b14.mono (by omega)), z1 ▸ A2.later ((B3.trans (B4.mono (by omega))).mono (by omega)), z2 ▸ BoxC.later A3 (B4.mono (by omega)), by simp; omega, by rw [← z3]; simp, by rw [← z3]; simp, B1.trans (b14.mono (by omega))⟩
  case round =>
    obtain ⟨k, L, hk, rfl, hL, hP⟩ := hrel
    have T0 := T.later hP.bb
    rcases (by omega : k = 0 ∨ k = 1 ∨ k = 2) with rfl | rfl | rfl
    · have hLs : -1 ≤ L.ser ∧ L.ser < 1099511627776 := by rw [hL, if_pos rfl]; exact no_ser
      have hN : stepK 0 (decS a) L = S1 := by rw [hL, if_pos rfl]; exact hS1.out
      have hDs := fun h => dec_ser (s := a) h
      have hC := hA wr T0
      have hx := hP.x
      clear hL hA hB hl hS1 hI
      unfold stepK at hN
      generalize decS a = D at *
      obtain ⟨⟨key, ep, ser, siz, tail, num⟩, de⟩ := D
      simp only [Sb.val] at hC hDs hN
      by_cases hd0 : de = 0
      · subst hd0
        have hDs2 := hDs rfl
        clear hDs
        obtain ⟨hs1, hs2⟩ := hDs2
        obtain ⟨lk, le, lr, lz, lt, ln⟩ := L
        simp only at hLs hN
        obtain ⟨ls1, ls2⟩ := hLs
        by_cases hp : ser % 2 = 0
        · by_cases hlt : lr < ser
          · rw [if_pos ⟨trivial, hp, hlt⟩] at hN
            replace hN := hide hN
            as_aux_lemma =>
              go_wp2_with fail
              refine hC.mono ?_
              rintro e w2 ⟨rfl, b2⟩
              have hP2 := hP.later b2
              have hP3 := hP2.later (below_alloc w2 (.cells #[.int .u64 (key : Nat), .int .i64 ep, .int .i64 ser, .int .i64 siz, .int .i64 tail, .int .i64 num] 24))
              have Y := boxC w2 key ep ser siz tail num 24
              clear hx hC b2 hP
              have hS := slot_any ⟨key, ep, ser, siz, tail, num⟩ (w2.alloc (.cells #[.int .u64 (key : Nat), .int .i64 ep, .int .i64 ser, .int .i64 siz, .int .i64 tail, .int .i64 num] 24))
              simp only [Sb.val] at hS
              go_wp2_with fail
              refine hS.mono ?_
              rintro e w3 ⟨rfl, b3⟩
              have hP4 := hP3.later b3
              replace Y := Y.later (b3.mono Y.lt)
              have y0 := Y.c0
              have y1 := Y.c1
              have y2 := Y.c2
              have y3 := Y.c3
              have y4 := Y.c4
              have y5 := Y.c5
              have l2 := BoxC.c2 hP4.l
              clear hS b3
              simp only at l2
              have m0 := BoxC.c0 hP4.l
              have m1 := BoxC.c1 hP4.l
              have m3 := BoxC.c3 hP4.l
              have m4 := BoxC.c4 hP4.l
              have m5 := BoxC.c5 hP4.l
              have n0 := BoxC.fr hP4.l 0 (by omega)
              have n1 := BoxC.fr hP4.l 1 (by omega)
              have n2 := BoxC.fr hP4.l 2 (by omega)
              have n3 := BoxC.fr hP4.l 3 (by omega)
              have n4 := BoxC.fr hP4.l 4 (by omega)
              have n5 := BoxC.fr hP4.l 5 (by omega)
              have hP5 := hide (hP4.put ⟨key, ep, ser, siz, tail, num⟩)
              clear hP4 hP3 hP2 Y
              go_wp2
              go_roundw
              case rel => exact ⟨1, S1, by omega, rfl, rfl, hN.out ▸ hP5.out⟩
              case measure => simp [intOf]
          · rw [if_neg (fun h => hlt h.2.2)] at hN
            replace hN := hide hN
            as_aux_lemma =>
              go_wp2_with fail
              refine hC.mono ?_
              rintro e w2 ⟨rfl, b2⟩
              have hP2 := hP.later b2
              have hP3 := hP2.later (below_alloc w2 (.cells #[.int .u64 (key : Nat), .int .i64 ep, .int .i64 ser, .int .i64 siz, .int .i64 tail, .int .i64 num] 24))
              have Y := boxC w2 key ep ser siz tail num 24
              clear hx hC b2 hP
              have hS := slot_any ⟨key, ep, ser, siz, tail, num⟩ (w2.alloc (.cells #[.int .u64 (key : Nat), .int .i64 ep, .int .i64 ser, .int .i64 siz, .int .i64 tail, .int .i64 num] 24))
              simp only [Sb.val] at hS
              go_wp2_with fail
              refine hS.mono ?_
              rintro e w3 ⟨rfl, b3⟩
              have hP4 := hP3.later b3
              replace Y := Y.later (b3.mono Y.lt)
              have y0 := Y.c0
              have y1 := Y.c1
              have y2 := Y.c2
              have y3 := Y.c3
              have y4 := Y.c4
              have y5 := Y.c5
              have l2 := BoxC.c2 hP4.l
              clear hS b3
              go_wp2
              go_roundw
              case rel => exact ⟨1, S1, by omega, rfl, rfl, hN.out ▸ hP4⟩
              case measure => simp [intOf]
        · rw [if_neg (fun h => hp h.2.1)] at hN
          replace hN := hide hN
          as_aux_lemma =>
            go_wp2_with fail
            refine hC.mono ?_
            rintro e w2 ⟨rfl, b2⟩
            have hP2 := hP.later b2
            have hP3 := hP2.later (below_alloc w2 (.cells #[.int .u64 (key : Nat), .int .i64 ep, .int .i64 ser, .int .i64 siz, .int .i64 tail, .int .i64 num] 24))
            have Y := boxC w2 key ep ser siz tail num 24
            clear hx hC b2 hP
            have hS := slot_any ⟨key, ep, ser, siz, tail, num⟩ (w2.alloc (.cells #[.int .u64 (key : Nat), .int .i64 ep, .int .i64 ser, .int .i64 siz, .int .i64 tail, .int .i64 num] 24))
            simp only [Sb.val] at hS
            go_wp2_with fail
            refine hS.mono ?_
            rintro e w3 ⟨rfl, b3⟩
            have hP4 := hP3.later b3
            replace Y := Y.later (b3.mono Y.lt)
            have y0 := Y.c0
            have y1 := Y.c1
            have y2 := Y.c2
            have y3 := Y.c3
            have y4 := Y.c4
            have y5 := Y.c5
            have l2 := BoxC.c2 hP4.l
            clear hS b3
            go_wp2
            go_roundw
            case rel => exact ⟨1, S1, by omega, rfl, rfl, hN.out ▸ hP4⟩
            case measure => simp [intOf]
      · rw [if_neg (fun h => hd0 h.1)] at hN
        replace hN := hide hN
        as_aux_lemma =>
          clear hDs hLs
          go_wp2_with fail
          refine hC.mono ?_
          rintro e w2 ⟨rfl, b2⟩
          have hP2 := hP.later b2
          have hP3 := hP2.later (below_alloc w2 (.cells #[.int .u64 (key : Nat), .int .i64 ep, .int .i64 ser, .int .i64 siz, .int .i64 tail, .int .i64 num] 24))
          have Y := boxC w2 key ep ser siz tail num 24
          clear hx hC b2 hP
          go_wp2
          go_roundw
          case rel => exact ⟨1, S1, by omega, rfl, rfl, hN.out ▸ hP3⟩
          case measure => simp [intOf]
    · have hLs : -1 ≤ L.ser ∧ L.ser < 1099511627776 := by rw [hL, if_neg (by decide), if_pos rfl]; exact hI
      have hN : stepK 1 (decS b) L = S2 := by rw [hL, if_neg (by decide), if_pos rfl]; exact hl.out
      have hDs := fun h => dec_ser (s := b) h
      have hC := hB wr T0
      have hx := hP.y
      clear hL hA hB hl hS1 hI
      unfold stepK at hN
      generalize decS b = D at *
      obtain ⟨⟨key, ep, ser, siz, tail, num⟩, de⟩ := D
      simp only [Sb.val] at hC hDs hN
      by_cases hd0 : de = 0
      · subst hd0
        have hDs2 := hDs rfl
        clear hDs
        obtain ⟨hs1, hs2⟩ := hDs2
        obtain ⟨lk, le, lr, lz, lt, ln⟩ := L
        simp only at hLs hN
        obtain ⟨ls1, ls2⟩ := hLs
        by_cases hp : ser % 2 = 1
        · by_cases hlt : lr < ser
          · rw [if_pos ⟨trivial, hp, hlt⟩] at hN
            replace hN := hide hN
            as_aux_lemma =>
              go_wp2_with fail
              refine hC.mono ?_
              rintro e w2 ⟨rfl, b2⟩
              have hP2 := hP.later b2
              have hP3 := hP2.later (below_alloc w2 (.cells #[.int .u64 (key : Nat), .int .i64 ep, .int .i64 ser, .int .i64 siz, .int .i64 tail, .int .i64 num] 24))
              have Y := boxC w2 key ep ser siz tail num 24
              clear hx hC b2 hP
              have hS := slot_any ⟨key, ep, ser, siz, tail, num⟩ (w2.alloc (.cells #[.int .u64 (key : Nat), .int .i64 ep, .int .i64 ser, .int .i64 siz, .int .i64 tail, .int .i64 num] 24))
              simp only [Sb.val] at hS
              go_wp2_with fail
              refine hS.mono ?_
              rintro e w3 ⟨rfl, b3⟩
              have hP4 := hP3.later b3
              replace Y := Y.later (b3.mono Y.lt)
              have y0 := Y.c0
              have y1 := Y.c1
              have y2 := Y.c2
              have y3 := Y.c3
              have y4 := Y.c4
              have y5 := Y.c5
              have l2 := BoxC.c2 hP4.l
              clear hS b3
              simp only at l2
              have m0 := BoxC.c0 hP4.l
              have m1 := BoxC.c1 hP4.l
              have m3 := BoxC.c3 hP4.l
              have m4 := BoxC.c4 hP4.l
              have m5 := BoxC.c5 hP4.l
              have n0 := BoxC.fr hP4.l 0 (by omega)
              have n1 := BoxC.fr hP4.l 1 (by omega)
              have n2 := BoxC.fr hP4.l 2 (by omega)
              have n3 := BoxC.fr hP4.l 3 (by omega)
              have n4 := BoxC.fr hP4.l 4 (by omega)
              have n5 := BoxC.fr hP4.l 5 (by omega)
              have hP5 := hide (hP4.put ⟨key, ep, ser, siz, tail, num⟩)
              clear hP4 hP3 hP2 Y
              go_wp2
              go_roundw
              case rel => exact ⟨2, S2, by omega, rfl, rfl, hN.out ▸ hP5.out⟩
              case measure => simp [intOf]
          · rw [if_neg (fun h => hlt h.2.2)] at hN
            replace hN := hide hN
            as_aux_lemma =>
              go_wp2_with fail
              refine hC.mono ?_
              rintro e w2 ⟨rfl, b2⟩
              have hP2 := hP.later b2
              have hP3 := hP2.later (below_alloc w2 (.cells #[.int .u64 (key : Nat), .int .i64 ep, .int .i64 ser, .int .i64 siz, .int .i64 tail, .int .i64 num] 24))
              have Y := boxC w2 key ep ser siz tail num 24
              clear hx hC b2 hP
              have hS := slot_any ⟨key, ep, ser, siz, tail, num⟩ (w2.alloc (.cells #[.int .u64 (key : Nat), .int .i64 ep, .int .i64 ser, .int .i64 siz, .int .i64 tail, .int .i64 num] 24))
              simp only [Sb.val] at hS
              go_wp2_with fail
              refine hS.mono ?_
              rintro e w3 ⟨rfl, b3⟩
              have hP4 := hP3.later b3
              replace Y := Y.later (b3.mono Y.lt)
              have y0 := Y.c0
              have y1 := Y.c1
              have y2 := Y.c2
              have y3 := Y.c3
              have y4 := Y.c4
              have y5 := Y.c5
              have l2 := BoxC.c2 hP4.l
              clear hS b3
              go_wp2
              go_roundw
              case rel => exact ⟨2, S2, by omega, rfl, rfl, hN.out ▸ hP4⟩
              case measure => simp [intOf]
        · rw [if_neg (fun h => hp h.2.1)] at hN
          replace hN := hide hN
          as_aux_lemma =>
            go_wp2_with fail
            refine hC.mono ?_
            rintro e w2 ⟨rfl, b2⟩
            have hP2 := hP.later b2
            have hP3 := hP2.later (below_alloc w2 (.cells #[.int .u64 (key : Nat), .int .i64 ep, .int .i64 ser, .int .i64 siz, .int .i64 tail, .int .i64 num] 24))
            have Y := boxC w2 key ep ser siz tail num 24
            clear hx hC b2 hP
            have hS := slot_any ⟨key, ep, ser, siz, tail, num⟩ (w2.alloc (.cells #[.int .u64 (key : Nat), .int .i64 ep, .int .i64 ser, .int .i64 siz, .int .i64 tail, .int .i64 num] 24))
            simp only [Sb.val] at hS
            go_wp2_with fail
            refine hS.mono ?_
            rintro e w3 ⟨rfl, b3⟩
            have hP4 := hP3.later b3
            replace Y := Y.later (b3.mono Y.lt)
            have y0 := Y.c0
            have y1 := Y.c1
            have y2 := Y.c2
            have y3 := Y.c3
            have y4 := Y.c4
            have y5 := Y.c5
            have l2 := BoxC.c2 hP4.l
            clear hS b3
            go_wp2
            go_roundw
            case rel => exact ⟨2, S2, by omega, rfl, rfl, hN.out ▸ hP4⟩
            case measure => simp [intOf]
      · rw [if_neg (fun h => hd0 h.1)] at hN
        replace hN := hide hN
        as_aux_lemma =>
          clear hDs hLs
          go_wp2_with fail
          refine hC.mono ?_
          rintro e w2 ⟨rfl, b2⟩
          have hP2 := hP.later b2
          have hP3 := hP2.later (below_alloc w2 (.cells #[.int .u64 (key : Nat), .int .i64 ep, .int .i64 ser, .int .i64 siz, .int .i64 tail, .int .i64 num] 24))
          have Y := boxC w2 key ep ser siz tail num 24
          clear hx hC b2 hP
          go_wp2
          go_roundw
          case rel => exact ⟨2, S2, by omega, rfl, rfl, hN.out ▸ hP3⟩
          case measure => simp [intOf]
    · have hL2 : L = S2 := by rw [hL, if_neg (by decide), if_neg (by decide)]
      have hN := hNo.out
      clear hA hB hl hS1 hI hL hNo
      have hQ := hq.out
      clear hq
      subst hL2
      have hPl := hP.l
      have hPo := hP.o
      have hPr := hP.r
      have hPb := hP.bb
      have c0 := BoxC.c0 hPl
      have c1 := BoxC.c1 hPl
      have c2 := BoxC.c2 hPl
      have c3 := BoxC.c3 hPl
      have c4 := BoxC.c4 hPl
      have c5 := BoxC.c5 hPl
      have o0 := hPo.c0
      have o1 := hPo.c1
      have o2 := hPo.c2
      have o3 := hPo.c3
      have o4 := hPo.c4
      have o5 := hPo.c5
      have hm : L.ser = -1 := hm0.out
      clear hm0
      rw [if_pos hm] at hQ
      have hL3 := hN hm
      subst hL3
      subst hQ
      simp only [Sb.no] at c0 c1 c2 c3 c4 c5 ⊢
      clear hN hm hPl hPo hP
      have c0 := hPr.c0
      have c1 := hPr.c1
      have c2 := hPr.c2
      have c3 := hPr.c3
      have c4 := hPr.c4
      have c5 := hPr.c5
      have f0 := hPr.fr 0 (by omega)
      have f1 := hPr.fr 1 (by omega)
      have f2 := hPr.fr 2 (by omega)
      have f3 := hPr.fr 3 (by omega)
      have f4 := hPr.fr 4 (by omega)
      have f5 := hPr.fr 5 (by omega)
      have Y := hide (hPr.put (0) (0) (0) (0) (0) (0))
      have YB := hide (BoxC.below hPr hPb (by first | exact Nat.le_refl _ | exact Nat.le_succ _) (0) (0) (0) (0) (0) (0))
      clear hPr
      go_wp2
      have Y' := Y.out
      have d0 := Y'.c0
      have d1 := Y'.c1
      have d2 := Y'.c2
      have d3 := Y'.c3
      have d4 := Y'.c4
      have d5 := Y'.c5
      have YB' := YB.out
      clear Y Y' YB
      clear c0 c1 c2 c3 c4 c5 f0 f1 f2 f3 f4 f5 
      generalize World.setCell _ _ _ = wz at *
      refine bodyPost_ret (v := .tuple #[.agg #[.int .u64 ((0 : Nat) : Int), .int .i64 (0), .int .i64 (0), .int .i64 (0), .int .i64 (0), .int .i64 (0)], .int .i64 0, .int .i64 15]) (by simp [results, Tryd.results18, go_sem, d0, d1, d2, d3, d4, d5]) rfl ⟨rfl, YB'⟩
set_option maxHeartbeats 4000000 in
theorem pick_some (a b : ByteArray) (ha : a.size ≤ 1000) (hb : b.size ≤ 1000) (hm0 : ¬ (pickL a b).ser = -1) (w : World) (T : Tab w) : Calls Tryd.prog 18 #[.string a, .string b] w fun e w' => e = .returned (.tuple #[(pickS a b).1.val, .int .i64 (pickS a b).2.1, .int .i64 (pickS a b).2.2]) ∧ Below w.heap.size w w' := by
  have hA := fun w T => decode_any a ha w T
  have hB := fun w T => decode_any b hb w T
  have hq : pickS a b = (if (pickL a b).ser = -1 then (Sb.zero, 0, 15) else (pickL a b, (pickL a b).ser % 2, 0)) := rfl
  have hl : stepK 1 (decS b) (stepK 0 (decS a) Sb.no) = pickL a b := rfl
  generalize hpq : pickS a b = PQ at *
  replace hpq := hide hpq
  replace hq := hide hq
  have h1 : stepK 0 (decS a) Sb.no = stepK 0 (decS a) Sb.no := rfl
  generalize hS1 : stepK 0 (decS a) Sb.no = S1 at *
  generalize pickL a b = S2 at *
  replace hm0 := hide hm0
  replace hl := hide hl
  replace hS1 := hide hS1
  clear h1
  have hI : -1 ≤ S1.ser ∧ S1.ser < 1099511627776 := by rw [← hS1.out]; exact stepK_ser no_ser
  have hNo : S2.ser = -1 → S2 = Sb.no := by
    intro h
    rw [← hl.out] at h ⊢
    unfold stepK at h ⊢
    by_cases h1 : (decS b).2 = 0 ∧ (decS b).1.ser % 2 = 1 ∧ S1.ser < (decS b).1.ser
    · rw [if_pos h1] at h
      have := dec_ser h1.1
      omega
    · rw [if_neg h1] at h ⊢
      rw [← hS1.out] at h ⊢
      unfold stepK at h ⊢
      by_cases h2 : (decS a).2 = 0 ∧ (decS a).1.ser % 2 = 0 ∧ Sb.no.ser < (decS a).1.ser
      · rw [if_pos h2] at h
        have := dec_ser h2.1
        omega
      · rw [if_neg h2]
  replace hNo := hide hNo
  go_enter Tryd.func18, Tryd.ntmps18
  go_wp2
  go_loopw [19] (fun i wr => ∃ (k : Nat) (L : Sb), k ≤ 2 ∧ i = .int .i64 k ∧ L = (if k = 0 then Sb.no else if k = 1 then S1 else S2) ∧ Pk w wr w.heap.size a b L) (fun i _ => 2 - (intOf i).toNat)
  case atStart =>
    have A1 := boxC w 0 0 0 0 0 0 24
    have B1 := below_alloc w (.cells #[.int .u64 (0 : Nat), .int .i64 0, .int .i64 0, .int .i64 0, .int .i64 0, .int .i64 0] 24)
    generalize hw1 : w.alloc (.cells #[.int .u64 (0 : Nat), .int .i64 0, .int .i64 0, .int .i64 0, .int .i64 0, .int .i64 0] 24) = w1 at *
    have z1 : w1.heap.size = w.heap.size + 1 := by rw [← hw1]; simp
    have A2 := boxC w1 0 0 (-1) 0 0 0 24
    have B2 := below_alloc w1 (.cells #[.int .u64 (0 : Nat), .int .i64 0, .int .i64 (-1), .int .i64 0, .int .i64 0, .int .i64 0] 24)
    generalize hw2 : w1.alloc (.cells #[.int .u64 (0 : Nat), .int .i64 0, .int .i64 (-1), .int .i64 0, .int .i64 0, .int .i64 0] 24) = w2 at *
    have z2 : w2.heap.size = w.heap.size + 1 + 1 := by rw [← hw2, World.size_alloc, z1]
    have A3 := boxC w2 0 0 (-1) 0 0 0 24
    have B3 := below_alloc w2 (.cells #[.int .u64 (0 : Nat), .int .i64 0, .int .i64 (-1), .int .i64 0, .int .i64 0, .int .i64 0] 24)
    generalize hw3 : w2.alloc (.cells #[.int .u64 (0 : Nat), .int .i64 0, .int .i64 (-1), .int .i64 0, .int .i64 0, .int .i64 0] 24) = w3 at *
    have z3 : w3.heap.size = w.heap.size + 1 + 1 + 1 := by rw [← hw3, World.size_alloc, z2]
    have B4 := below_alloc w3 (.cells #[.string a, .string b] 9)
    have b14 := (B2.trans (B3.mono (by omega))).trans (B4.mono (by omega))
    refine ⟨0, Sb.no, by omega, rfl, rfl, ?_⟩
    exact ⟨A1.later (b14.mono (by omega)), z1 ▸ A2.later ((B3.trans (B4.mono (by omega))).mono (by omega)), z2 ▸ BoxC.later A3 (B4.mono (by omega)), by simp; omega, by rw [← z3]; simp, by rw [← z3]; simp, B1.trans (b14.mono (by omega))⟩
  case round =>
    obtain ⟨k, L, hk, rfl, hL, hP⟩ := hrel
    have T0 := T.later hP.bb
    rcases (by omega : k = 0 ∨ k = 1 ∨ k = 2) with rfl | rfl | rfl
    · have hLs : -1 ≤ L.ser ∧ L.ser < 1099511627776 := by rw [hL, if_pos rfl]; exact no_ser
      have hN : stepK 0 (decS a) L = S1 := by rw [hL, if_pos rfl]; exact hS1.out
      have hDs := fun h => dec_ser (s := a) h
      have hC := hA wr T0
      have hx := hP.x
      clear hL hA hB hl hS1 hI
      unfold stepK at hN
      generalize decS a = D at *
      obtain ⟨⟨key, ep, ser, siz, tail, num⟩, de⟩ := D
      simp only [Sb.val] at hC hDs hN
      by_cases hd0 : de = 0
      · subst hd0
        have hDs2 := hDs rfl
        clear hDs
        obtain ⟨hs1, hs2⟩ := hDs2
        obtain ⟨lk, le, lr, lz, lt, ln⟩ := L
        simp only at hLs hN
        obtain ⟨ls1, ls2⟩ := hLs
        by_cases hp : ser % 2 = 0
        · by_cases hlt : lr < ser
          · rw [if_pos ⟨trivial, hp, hlt⟩] at hN
            replace hN := hide hN
            as_aux_lemma =>
              go_wp2_with fail
              refine hC.mono ?_
              rintro e w2 ⟨rfl, b2⟩
              have hP2 := hP.later b2
              have hP3 := hP2.later (below_alloc w2 (.cells #[.int .u64 (key : Nat), .int .i64 ep, .int .i64 ser, .int .i64 siz, .int .i64 tail, .int .i64 num] 24))
              have Y := boxC w2 key ep ser siz tail num 24
              clear hx hC b2 hP
              have hS := slot_any ⟨key, ep, ser, siz, tail, num⟩ (w2.alloc (.cells #[.int .u64 (key : Nat), .int .i64 ep, .int .i64 ser, .int .i64 siz, .int .i64 tail, .int .i64 num] 24))
              simp only [Sb.val] at hS
              go_wp2_with fail
              refine hS.mono ?_
              rintro e w3 ⟨rfl, b3⟩
              have hP4 := hP3.later b3
              replace Y := Y.later (b3.mono Y.lt)
              have y0 := Y.c0
              have y1 := Y.c1
              have y2 := Y.c2
              have y3 := Y.c3
              have y4 := Y.c4
              have y5 := Y.c5
              have l2 := BoxC.c2 hP4.l
              clear hS b3
              simp only at l2
              have m0 := BoxC.c0 hP4.l
              have m1 := BoxC.c1 hP4.l
              have m3 := BoxC.c3 hP4.l
              have m4 := BoxC.c4 hP4.l
              have m5 := BoxC.c5 hP4.l
              have n0 := BoxC.fr hP4.l 0 (by omega)
              have n1 := BoxC.fr hP4.l 1 (by omega)
              have n2 := BoxC.fr hP4.l 2 (by omega)
              have n3 := BoxC.fr hP4.l 3 (by omega)
              have n4 := BoxC.fr hP4.l 4 (by omega)
              have n5 := BoxC.fr hP4.l 5 (by omega)
              have hP5 := hide (hP4.put ⟨key, ep, ser, siz, tail, num⟩)
              clear hP4 hP3 hP2 Y
              go_wp2
              go_roundw
              case rel => exact ⟨1, S1, by omega, rfl, rfl, hN.out ▸ hP5.out⟩
              case measure => simp [intOf]
          · rw [if_neg (fun h => hlt h.2.2)] at hN
            replace hN := hide hN
            as_aux_lemma =>
              go_wp2_with fail
              refine hC.mono ?_
              rintro e w2 ⟨rfl, b2⟩
              have hP2 := hP.later b2
              have hP3 := hP2.later (below_alloc w2 (.cells #[.int .u64 (key : Nat), .int .i64 ep, .int .i64 ser, .int .i64 siz, .int .i64 tail, .int .i64 num] 24))
              have Y := boxC w2 key ep ser siz tail num 24
              clear hx hC b2 hP
              have hS := slot_any ⟨key, ep, ser, siz, tail, num⟩ (w2.alloc (.cells #[.int .u64 (key : Nat), .int .i64 ep, .int .i64 ser, .int .i64 siz, .int .i64 tail, .int .i64 num] 24))
              simp only [Sb.val] at hS
              go_wp2_with fail
              refine hS.mono ?_
              rintro e w3 ⟨rfl, b3⟩
              have hP4 := hP3.later b3
              replace Y := Y.later (b3.mono Y.lt)
              have y0 := Y.c0
              have y1 := Y.c1
              have y2 := Y.c2
              have y3 := Y.c3
              have y4 := Y.c4
              have y5 := Y.c5
              have l2 := BoxC.c2 hP4.l
              clear hS b3
              go_wp2
              go_roundw
              case rel => exact ⟨1, S1, by omega, rfl, rfl, hN.out ▸ hP4⟩
              case measure => simp [intOf]
        · rw [if_neg (fun h => hp h.2.1)] at hN
          replace hN := hide hN
          as_aux_lemma =>
            go_wp2_with fail
            refine hC.mono ?_
            rintro e w2 ⟨rfl, b2⟩
            have hP2 := hP.later b2
            have hP3 := hP2.later (below_alloc w2 (.cells #[.int .u64 (key : Nat), .int .i64 ep, .int .i64 ser, .int .i64 siz, .int .i64 tail, .int .i64 num] 24))
            have Y := boxC w2 key ep ser siz tail num 24
            clear hx hC b2 hP
            have hS := slot_any ⟨key, ep, ser, siz, tail, num⟩ (w2.alloc (.cells #[.int .u64 (key : Nat), .int .i64 ep, .int .i64 ser, .int .i64 siz, .int .i64 tail, .int .i64 num] 24))
            simp only [Sb.val] at hS
            go_wp2_with fail
            refine hS.mono ?_
            rintro e w3 ⟨rfl, b3⟩
            have hP4 := hP3.later b3
            replace Y := Y.later (b3.mono Y.lt)
            have y0 := Y.c0
            have y1 := Y.c1
            have y2 := Y.c2
            have y3 := Y.c3
            have y4 := Y.c4
            have y5 := Y.c5
            have l2 := BoxC.c2 hP4.l
            clear hS b3
            go_wp2
            go_roundw
            case rel => exact ⟨1, S1, by omega, rfl, rfl, hN.out ▸ hP4⟩
            case measure => simp [intOf]
      · rw [if_neg (fun h => hd0 h.1)] at hN
        replace hN := hide hN
        as_aux_lemma =>
          clear hDs hLs
          go_wp2_with fail
          refine hC.mono ?_
          rintro e w2 ⟨rfl, b2⟩
          have hP2 := hP.later b2
          have hP3 := hP2.later (below_alloc w2 (.cells #[.int .u64 (key : Nat), .int .i64 ep, .int .i64 ser, .int .i64 siz, .int .i64 tail, .int .i64 num] 24))
          have Y := boxC w2 key ep ser siz tail num 24
          clear hx hC b2 hP
          go_wp2
          go_roundw
          case rel => exact ⟨1, S1, by omega, rfl, rfl, hN.out ▸ hP3⟩
          case measure => simp [intOf]
    · have hLs : -1 ≤ L.ser ∧ L.ser < 1099511627776 := by rw [hL, if_neg (by decide), if_pos rfl]; exact hI
      have hN : stepK 1 (decS b) L = S2 := by rw [hL, if_neg (by decide), if_pos rfl]; exact hl.out
      have hDs := fun h => dec_ser (s := b) h
      have hC := hB wr T0
      have hx := hP.y
      clear hL hA hB hl hS1 hI
      unfold stepK at hN
      generalize decS b = D at *
      obtain ⟨⟨key, ep, ser, siz, tail, num⟩, de⟩ := D
      simp only [Sb.val] at hC hDs hN
      by_cases hd0 : de = 0
      · subst hd0
        have hDs2 := hDs rfl
        clear hDs
        obtain ⟨hs1, hs2⟩ := hDs2
        obtain ⟨lk, le, lr, lz, lt, ln⟩ := L
        simp only at hLs hN
        obtain ⟨ls1, ls2⟩ := hLs
        by_cases hp : ser % 2 = 1
        · by_cases hlt : lr < ser
          · rw [if_pos ⟨trivial, hp, hlt⟩] at hN
            replace hN := hide hN
            as_aux_lemma =>
              go_wp2_with fail
              refine hC.mono ?_
              rintro e w2 ⟨rfl, b2⟩
              have hP2 := hP.later b2
              have hP3 := hP2.later (below_alloc w2 (.cells #[.int .u64 (key : Nat), .int .i64 ep, .int .i64 ser, .int .i64 siz, .int .i64 tail, .int .i64 num] 24))
              have Y := boxC w2 key ep ser siz tail num 24
              clear hx hC b2 hP
              have hS := slot_any ⟨key, ep, ser, siz, tail, num⟩ (w2.alloc (.cells #[.int .u64 (key : Nat), .int .i64 ep, .int .i64 ser, .int .i64 siz, .int .i64 tail, .int .i64 num] 24))
              simp only [Sb.val] at hS
              go_wp2_with fail
              refine hS.mono ?_
              rintro e w3 ⟨rfl, b3⟩
              have hP4 := hP3.later b3
              replace Y := Y.later (b3.mono Y.lt)
              have y0 := Y.c0
              have y1 := Y.c1
              have y2 := Y.c2
              have y3 := Y.c3
              have y4 := Y.c4
              have y5 := Y.c5
              have l2 := BoxC.c2 hP4.l
              clear hS b3
              simp only at l2
              have m0 := BoxC.c0 hP4.l
              have m1 := BoxC.c1 hP4.l
              have m3 := BoxC.c3 hP4.l
              have m4 := BoxC.c4 hP4.l
              have m5 := BoxC.c5 hP4.l
              have n0 := BoxC.fr hP4.l 0 (by omega)
              have n1 := BoxC.fr hP4.l 1 (by omega)
              have n2 := BoxC.fr hP4.l 2 (by omega)
              have n3 := BoxC.fr hP4.l 3 (by omega)
              have n4 := BoxC.fr hP4.l 4 (by omega)
              have n5 := BoxC.fr hP4.l 5 (by omega)
              have hP5 := hide (hP4.put ⟨key, ep, ser, siz, tail, num⟩)
              clear hP4 hP3 hP2 Y
              go_wp2
              go_roundw
              case rel => exact ⟨2, S2, by omega, rfl, rfl, hN.out ▸ hP5.out⟩
              case measure => simp [intOf]
          · rw [if_neg (fun h => hlt h.2.2)] at hN
            replace hN := hide hN
            as_aux_lemma =>
              go_wp2_with fail
              refine hC.mono ?_
              rintro e w2 ⟨rfl, b2⟩
              have hP2 := hP.later b2
              have hP3 := hP2.later (below_alloc w2 (.cells #[.int .u64 (key : Nat), .int .i64 ep, .int .i64 ser, .int .i64 siz, .int .i64 tail, .int .i64 num] 24))
              have Y := boxC w2 key ep ser siz tail num 24
              clear hx hC b2 hP
              have hS := slot_any ⟨key, ep, ser, siz, tail, num⟩ (w2.alloc (.cells #[.int .u64 (key : Nat), .int .i64 ep, .int .i64 ser, .int .i64 siz, .int .i64 tail, .int .i64 num] 24))
              simp only [Sb.val] at hS
              go_wp2_with fail
              refine hS.mono ?_
              rintro e w3 ⟨rfl, b3⟩
              have hP4 := hP3.later b3
              replace Y := Y.later (b3.mono Y.lt)
              have y0 := Y.c0
              have y1 := Y.c1
              have y2 := Y.c2
              have y3 := Y.c3
              have y4 := Y.c4
              have y5 := Y.c5
              have l2 := BoxC.c2 hP4.l
              clear hS b3
              go_wp2
              go_roundw
              case rel => exact ⟨2, S2, by omega, rfl, rfl, hN.out ▸ hP4⟩
              case measure => simp [intOf]
        · rw [if_neg (fun h => hp h.2.1)] at hN
          replace hN := hide hN
          as_aux_lemma =>
            go_wp2_with fail
            refine hC.mono ?_
            rintro e w2 ⟨rfl, b2⟩
            have hP2 := hP.later b2
            have hP3 := hP2.later (below_alloc w2 (.cells #[.int .u64 (key : Nat), .int .i64 ep, .int .i64 ser, .int .i64 siz, .int .i64 tail, .int .i64 num] 24))
            have Y := boxC w2 key ep ser siz tail num 24
            clear hx hC b2 hP
            have hS := slot_any ⟨key, ep, ser, siz, tail, num⟩ (w2.alloc (.cells #[.int .u64 (key : Nat), .int .i64 ep, .int .i64 ser, .int .i64 siz, .int .i64 tail, .int .i64 num] 24))
            simp only [Sb.val] at hS
            go_wp2_with fail
            refine hS.mono ?_
            rintro e w3 ⟨rfl, b3⟩
            have hP4 := hP3.later b3
            replace Y := Y.later (b3.mono Y.lt)
            have y0 := Y.c0
            have y1 := Y.c1
            have y2 := Y.c2
            have y3 := Y.c3
            have y4 := Y.c4
            have y5 := Y.c5
            have l2 := BoxC.c2 hP4.l
            clear hS b3
            go_wp2
            go_roundw
            case rel => exact ⟨2, S2, by omega, rfl, rfl, hN.out ▸ hP4⟩
            case measure => simp [intOf]
      · rw [if_neg (fun h => hd0 h.1)] at hN
        replace hN := hide hN
        as_aux_lemma =>
          clear hDs hLs
          go_wp2_with fail
          refine hC.mono ?_
          rintro e w2 ⟨rfl, b2⟩
          have hP2 := hP.later b2
          have hP3 := hP2.later (below_alloc w2 (.cells #[.int .u64 (key : Nat), .int .i64 ep, .int .i64 ser, .int .i64 siz, .int .i64 tail, .int .i64 num] 24))
          have Y := boxC w2 key ep ser siz tail num 24
          clear hx hC b2 hP
          go_wp2
          go_roundw
          case rel => exact ⟨2, S2, by omega, rfl, rfl, hN.out ▸ hP3⟩
          case measure => simp [intOf]
    · have hL2 : L = S2 := by rw [hL, if_neg (by decide), if_neg (by decide)]
      have hN := hNo.out
      clear hA hB hl hS1 hI hL hNo
      have hQ := hq.out
      clear hq
      subst hL2
      have hPl := hP.l
      have hPo := hP.o
      have hPr := hP.r
      have hPb := hP.bb
      have c0 := BoxC.c0 hPl
      have c1 := BoxC.c1 hPl
      have c2 := BoxC.c2 hPl
      have c3 := BoxC.c3 hPl
      have c4 := BoxC.c4 hPl
      have c5 := BoxC.c5 hPl
      have o0 := hPo.c0
      have o1 := hPo.c1
      have o2 := hPo.c2
      have o3 := hPo.c3
      have o4 := hPo.c4
      have o5 := hPo.c5
      have hm : ¬ L.ser = -1 := hm0.out
      clear hm0
      rw [if_neg hm] at hQ
      subst hQ
      obtain ⟨key, ep, ser, siz, tail, num⟩ := L
      simp only at c0 c1 c2 c3 c4 c5 hm ⊢
      clear hN hP hPo
      have hS := fun w => slot_any ⟨key, ep, ser, siz, tail, num⟩ w
      simp only [Sb.val] at hS
      have hne := later_ne wr
      have C : ∀ p : Later wr, p.val.cell? ⟨w.heap.size + 1 + 1, 0, none⟩ = some (.int .u64 (key : Nat)) ∧ p.val.cell? ⟨w.heap.size + 1 + 1, 1, none⟩ = some (.int .i64 ep) ∧ p.val.cell? ⟨w.heap.size + 1 + 1, 2, none⟩ = some (.int .i64 ser) ∧ p.val.cell? ⟨w.heap.size + 1 + 1, 3, none⟩ = some (.int .i64 siz) ∧ p.val.cell? ⟨w.heap.size + 1 + 1, 4, none⟩ = some (.int .i64 tail) ∧ p.val.cell? ⟨w.heap.size + 1 + 1, 5, none⟩ = some (.int .i64 num) := fun p => by
        have X := BoxC.later hPl (p.below.mono hPl.lt)
        exact ⟨X.c0, X.c1, X.c2, X.c3, X.c4, X.c5⟩
      have C0 := fun p => (C p).1
      have C1 := fun p => (C p).2.1
      have C2 := fun p => (C p).2.2.1
      have C3 := fun p => (C p).2.2.2.1
      have C4 := fun p => (C p).2.2.2.2.1
      have C5 := fun p => (C p).2.2.2.2.2
      clear C
      go_wp2
      refine wp_region_later_tail 3 (by kernel_rfl) (by kernel_rfl) ?_
      simp only [List.take, List.drop]
      (repeat (first | go_big_quiet_skip | (go_big_quiet_want; go_big_quiet_op; go_big_quiet_on)))
      (go_big_quiet_want; go_big_quiet_op; apply Exists.intro; refine ⟨fun p => ?_, ?_⟩; (· exact later_of (hS _)); go_big_quiet_on)
      (repeat (first | go_big_quiet_skip | (go_big_quiet_want; go_big_quiet_op; go_big_quiet_on)))
      refine wpQuiet_nil ?_
      rintro _ ⟨p, rfl⟩
      have X := hPr.later (p.below.mono hPr.lt)
      have BB := hPb.trans (p.below.mono hPb.size)
      clear c0 c1 c2 c3 c4 c5 o0 o1 o2 o3 o4 o5 C0 C1 C2 C3 C4 C5 hne hS hPl hPr hPb
      have c0 := X.c0
      have c1 := X.c1
      have c2 := X.c2
      have c3 := X.c3
      have c4 := X.c4
      have c5 := X.c5
      have f0 := X.fr 0 (by omega)
      have f1 := X.fr 1 (by omega)
      have f2 := X.fr 2 (by omega)
      have f3 := X.fr 3 (by omega)
      have f4 := X.fr 4 (by omega)
      have f5 := X.fr 5 (by omega)
      have Y := hide (X.put (key) (ep) (ser) (siz) (tail) (num))
      have YB := hide (BoxC.below X BB (by first | exact Nat.le_refl _ | exact Nat.le_succ _) (key) (ep) (ser) (siz) (tail) (num))
      clear X
      go_wp2
      have Y' := Y.out
      have d0 := Y'.c0
      have d1 := Y'.c1
      have d2 := Y'.c2
      have d3 := Y'.c3
      have d4 := Y'.c4
      have d5 := Y'.c5
      have YB' := YB.out
      clear Y Y' YB
      clear c0 c1 c2 c3 c4 c5 f0 f1 f2 f3 f4 f5 
      generalize World.setCell _ _ _ = wz at *
      refine bodyPost_ret (v := .tuple #[.agg #[.int .u64 ((key : Nat) : Int), .int .i64 (ep), .int .i64 (ser), .int .i64 (siz), .int .i64 (tail), .int .i64 (num)], .int .i64 (ser % 2), .int .i64 0]) (by simp [results, Tryd.results18, go_sem, d0, d1, d2, d3, d4, d5]) rfl ⟨rfl, YB'⟩
theorem pick_any (a b : ByteArray) (ha : a.size ≤ 1000) (hb : b.size ≤ 1000) (w : World) (T : Tab w) : Calls Tryd.prog 18 #[.string a, .string b] w fun e w' => e = .returned (.tuple #[(pickS a b).1.val, .int .i64 (pickS a b).2.1, .int .i64 (pickS a b).2.2]) ∧ Below w.heap.size w w' := by
  by_cases h : (pickL a b).ser = -1
  · exact pick_none a b ha hb h w T
  · exact pick_some a b ha hb h w T
end Su
end Go.Proofs.YtjopjffecnflkaaDoor
