/- So many numbers are read, the document's way. -/
import Derived.Test.YtnpbgjafahhadaaDoorTc
import Derived.Test.YtnpbgjafahhadaaDoorRn
import Derived.Test.YtnpbgjafahhadaaDoorQy
namespace Go.Proofs.YtnpbgjafahhadaaDoor
open Go.RowKit
namespace Re
open Cr
/-- Numbers as cells. -/
def encI (l : List Nat) : List Value := l.map fun b => .int .i64 (b : Nat)
/-- The value v owns the numbers l. -/
def OwnI (w : World) (v : Value) (l : List Nat) : Prop := w.ownsRow 0 3 1 v l.length (encI l)
theorem OwnI.nil (w : World) : OwnI w (.slice none 0 0) [] := World.ownsRow_nil w 0 3 1
theorem OwnI.keep {X : Nat → Prop} {w w' : World} {v : Value} {l : List Nat} (h : OwnI w v l) (k : Keep X w w') (hx : ∀ i, v.ownBlock = some i → ¬ X i) : OwnI w' v l := by
  refine ⟨h.1, ?_⟩
  rcases h.2 with hn | ⟨g, cap, cur, rfl, hb, hgg, rest⟩
  · exact .inl hn
  · refine .inr ⟨g, cap, cur, rfl, hb, ?_, rest⟩
    rw [k.block g (lt_of_block hgg) (hx g rfl)]
    exact hgg
theorem OwnI.later {w w' : World} {v : Value} {l : List Nat} (h : OwnI w v l) (hb : Below w.heap.size w w') : OwnI w' v l := h.keep (X := fun _ => False) (Keep.of_below hb) fun _ _ => id
theorem OwnI.lt {w : World} {v : Value} {l : List Nat} (h : OwnI w v l) : ∀ k, v.ownBlock = some k → k < w.heap.size := by
  intro k hk
  rcases h.2 with ⟨hv, _⟩ | ⟨g, cap, cur, rfl, hb, hgg, rest⟩
  · rw [hv] at hk; simp [Value.ownBlock] at hk
  · simp [Value.ownBlock] at hk; subst hk; exact lt_of_block hgg
/-- A slice's memory holds these numbers. -/
structure Is (w : World) (a : Option Addr) (n : Nat) (xs : List Nat) : Prop where
  cells : ∀ i x, xs[i]? = some x → ∃ b, a = some ⟨b, 0, none⟩ ∧ b < w.heap.size ∧ w.cell? ⟨b, i, none⟩ = some (.int .i64 (x : Nat))
theorem OwnI.is {w : World} {v : Value} {l : List Nat} (h : OwnI w v l) : ∃ a cap, v = .slice a l.length cap ∧ Is w a l.length l ∧ ∀ k, v.ownBlock = some k → k < w.heap.size := by
  have hlt := h.lt
  rcases id h with ⟨hl, ⟨hv, hn⟩ | ⟨g, cap, cur, hv, hbg, hgg, hnc, hcm, hcs, htake⟩⟩
  · have : l = [] := List.eq_nil_of_length_eq_zero hn
    subst this; subst hv
    exact ⟨none, 0, rfl, ⟨fun i x hx => by simp at hx⟩, hlt⟩
  · subst hv
    refine ⟨_, cap, rfl, ⟨fun i x hx => ⟨g, rfl, lt_of_block hgg, ?_⟩⟩, hlt⟩
    have hi : i < l.length := (List.getElem?_eq_some_iff.1 hx).1
    have := World.ownsRow.cellAt (w := w) (base := 0) (e := 3) (size := 1) (g := g) (n := l.length) (cap := cap) (xs := encI l) h i (by omega)
    rw [this]
    simp [encI, hx]
theorem Is.later {w w' : World} {a : Option Addr} {n : Nat} {xs : List Nat} (h : Is w a n xs) (hb : Below w.heap.size w w') : Is w' a n xs :=
  ⟨fun i x hi => by
    obtain ⟨g, ha, hg, c0⟩ := h.cells i x hi
    exact ⟨g, ha, Nat.lt_of_lt_of_le hg hb.size, (hb.cell hg).trans c0⟩⟩
theorem info3 : (Tryd.prog.info? 3).map (fun i => (i.zero, i.size, i.bytes)) = some (some (.int .i64 0), 1, 8) := by kernel_rfl
theorem OwnI.push {w : World} {v : Value} {L : List Nat} {Y : Nat} (h : w.ownsRow 0 3 1 v (L.length + 1) (encI L ++ [.int .i64 (Y : Nat)])) : OwnI w v (L ++ [Y]) := by
  unfold OwnI
  rw [encI, List.map_append, List.length_append]
  exact h

theorem bs_rest (s : ByteArray) (p : Nat) : bs (s.extract p s.size) = (bs s).drop p := by
  rw [bs_extract, show s.size - p = ((bs s).drop p).length by rw [List.length_drop, bs_length], List.take_length]
set_option maxRecDepth 20000 in
set_option maxHeartbeats 2000000 in
theorem numbers_any (s : ByteArray) (hs : s.size ≤ 1000000) (n : Nat) (hn : n ≤ 1000) (w : World) :
    Calls Tryd.prog 67 #[.string s, .int .i64 (n : Nat)] w fun e w' => ∃ v, e = .returned (.tuple #[v, .int .i64 ((nmP (bs s) n).2.1 : Nat), .bool (nmP (bs s) n).2.2]) ∧ OwnI w' v (nmP (bs s) n).1 ∧ From w.heap.size v ∧ Below w.heap.size w w' := by
  obtain ⟨i0, hi, hz0, hz1, hz2⟩ := info_parts info3
  go_enter Tryd.func67, Tryd.ntmps67
  go_wp2
  go_loopw [7, 8, 9] (fun o a i wr => ∃ k : Nat, k ≤ n ∧ i = .int .i64 k ∧ (nmP (bs s) k).2.2 = true ∧ a = .int .i64 ((nmP (bs s) k).2.1 : Nat) ∧ OwnI wr o (nmP (bs s) k).1 ∧ From w.heap.size o ∧ Below w.heap.size w wr) (fun _ _ i _ => n - (intOf i).toNat)
  case atStart => exact ⟨0, Nat.zero_le _, rfl, rfl, rfl, OwnI.nil _, From.nil _ _ _, Below.refl _ _⟩
  case round =>
    obtain ⟨k, hk, rfl, hok, rfl, hown, hfrom, hbr⟩ := hrel
    by_cases hlt : k < n
    · obtain ⟨hlen, hat, hxs⟩ := nmP_len hok
      have hsucc := nmP_succ (bs s) k
      have hfail := fun (h : nmP (bs s) (k + 1) = ([], 0, false)) => by
        have := nmP_fail h (n - (k + 1))
        rw [show k + 1 + (n - (k + 1)) = n by omega] at this
        exact this
      generalize nmP (bs s) k = q at *
      obtain ⟨L, P, ok⟩ := q
      simp only at hok hlen hat hown hsucc
      subst hok
      simp only [true_and] at hsucc
      rw [bs_length] at hat
      have hr := rfew_any (s.extract P s.size) (by rw [ByteArray.size_extract]; omega) wr
      rw [bs_rest] at hr
      have hff := few_facts ((bs s).drop P)
      rw [List.length_drop, bs_length] at hff
      have hfb := few_bound (l := (bs s).drop P) (fun b hb => bs_lt s b (List.mem_of_mem_drop hb))
      generalize few 12 ((bs s).drop P) = f at *
      obtain ⟨X, K, E⟩ := f
      simp only at hr hff hfb hsucc
      have hp1 : (P : Int) ≤ (s.size : Int) := by omega
      replace hxs := hide hxs
      by_cases hE : E = 0
      · subst hE
        by_cases hX : X ≤ 1125899906842624
        · rw [if_pos ⟨rfl, hX⟩] at hsucc
          have hXn : ¬ (1125899906842624 : Int) < (X : Int) := by omega
          have hXm : ¬ 1125899906842624 < X := by omega
          have HX := hide hsucc
          have hKs : P + K ≤ s.size := by omega
          clear hsucc hfail hff
          go_wp2_with fail
          refine hr.mono ?_
          rintro e w2 ⟨rfl, b2⟩
          have BB := hbr.trans (b2.mono hbr.size)
          have hown2 := hown.later b2
          have hkk : ∀ o, (w2.alloc o).ownsRow 0 3 1 u7 L.length (encI L) := fun o => hown2.later (below_alloc _ _)
          have hB2 := BB.size
          clear hr hown hbr b2
          go_wp2_with (at_builtin; refine wpList_append_moved rfl (.tmp 32) (.tmp 35) 98 rfl 3 i0 _ 1 8 Tryd.underlying98 hi hz0 hz1 hz2 rfl (by decide) _ _ _ rfl (hkk _) ⟨w2.heap.size, 0, none⟩ 1 1 [.int .i64 (X : Nat)] rfl rfl (cell_one_new _ _ _) (one_oneCell _ _) (by unfold maxLen; omega) (by omega) ?_; intro v' w' g1 g2 g3)
          have R2 := hide (below_grown (BB.trans ((below_alloc w2 (.cells #[.int .i64 (X : Nat)] 3)).mono BB.size)) g2 (by simp; omega) hfrom)
          have R3 := hide (hfrom.moved g3 (by simp; omega))
          have R4 := hide (OwnI.push g1)
          clear g1 g2 g3 hkk hown2
          go_wp2
          go_roundw
          case rel => exact ⟨k + 1, by omega, by go_num, by rw [HX.out], by rw [HX.out]; go_num, by rw [HX.out]; exact R4.out, R3.out, R2.out⟩
          case measure => simp [intOf]; omega
        · have hXn : (1125899906842624 : Int) < (X : Int) := by omega
          have hXm : 1125899906842624 < X := by omega
          have HX := hide (hfail (hsucc.trans (if_neg (fun x => hX x.2))))
          clear hsucc hfail hff
          go_wp2_with fail
          refine hr.mono ?_
          rintro e w2 ⟨rfl, b2⟩
          have BB := hbr.trans (b2.mono hbr.size)
          clear hr hown hfrom hbr b2
          go_wp2
          refine bodyPost_ret (v := .tuple #[.slice none 0 0, .int .i64 0, .bool false]) (by simp [results, Tryd.results67, go_sem]) rfl ⟨_, by rw [HX.out]; rfl, by rw [HX.out]; exact OwnI.nil _, From.nil _ _ _, BB⟩
      · have he1 : (E == 0) = false := by simpa using hE
        have he2 : (E != 0) = true := by simpa using hE
        have HX := hide (hfail (hsucc.trans (if_neg (fun x => hE x.1))))
        clear hsucc hfail hff hE
        go_wp2_with fail
        refine hr.mono ?_
        rintro e w2 ⟨rfl, b2⟩
        have BB := hbr.trans (b2.mono hbr.size)
        clear hr hown hfrom hbr b2
        go_wp2
        refine bodyPost_ret (v := .tuple #[.slice none 0 0, .int .i64 0, .bool false]) (by simp [results, Tryd.results67, go_sem]) rfl ⟨_, by rw [HX.out]; rfl, by rw [HX.out]; exact OwnI.nil _, From.nil _ _ _, BB⟩
    · obtain rfl : k = n := by omega
      go_wp2
      refine bodyPost_ret (v := .tuple #[u7, .int .i64 ((nmP (bs s) k).2.1 : Nat), .bool true]) (by simp [results, Tryd.results67, go_sem]) rfl ⟨_, by rw [hok], hown, hfrom, hbr⟩
end Re
end Go.Proofs.YtnpbgjafahhadaaDoor
