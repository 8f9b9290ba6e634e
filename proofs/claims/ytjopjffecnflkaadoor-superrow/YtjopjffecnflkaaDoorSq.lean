/- Which one of two sectors is picked: plain numbers and strings. -/
import Derived.Test.YtjopjffecnflkaaDoorSp
import Derived.Test.YtjopjffecnflkaaDoorSm
namespace Go.Proofs.YtjopjffecnflkaaDoor
open Go.RowKit
namespace Su
open Cr
/-- A block of two cells. -/
structure R2 (w : World) (b : Nat) (u v : Value) : Prop where
  lt : b < w.heap.size
  c0 : w.cell? ⟨b, 0, none⟩ = some u
  c1 : w.cell? ⟨b, 1, none⟩ = some v
theorem R2.later {w w' : World} {b : Nat} {u v : Value} (h : R2 w b u v) (hb : Below (b + 1) w w') : R2 w' b u v :=
  ⟨Nat.lt_of_lt_of_le h.lt hb.size, (hb.cell (by simp)).trans h.c0, (hb.cell (by simp)).trans h.c1⟩
theorem r2_new (w : World) (u v : Value) (t : TypeId) : R2 (w.alloc (.cells #[u, v] t)) w.heap.size u v := ⟨by simp, by simp, by simp⟩
/-- The newer one is picked. -/
theorem pick_goes {s n : Sb} (hs : s.Fit) (hc : chk s = 0) (hn : n.Fit) (hcn : chk n = 0) (h : n.ser = s.ser + 1) :
    (s.ser % 2 = 0 → pickS s.sec n.sec = (n, 1, 0)) ∧ (s.ser % 2 = 1 → pickS n.sec s.sec = (n, 0, 0)) := by
  refine ⟨fun hp => ?_, fun hp => ?_⟩
  · rw [pick_ref, dec_sec hs hc, dec_sec hn hcn]
    unfold rpick
    simp only
    generalize s.ser = x at *
    generalize n.ser = y at *
    rw [if_neg (fun h2 => by rcases h2.2 with h3 | h3; exact h3 ⟨trivial, by omega⟩; omega), if_pos ⟨trivial, by omega⟩]
  · rw [pick_ref, dec_sec hs hc, dec_sec hn hcn]
    unfold rpick
    simp only
    generalize s.ser = x at *
    generalize n.ser = y at *
    rw [if_pos ⟨⟨trivial, by omega⟩, .inr (by omega)⟩]
/-- What is torn, or older, is not picked. -/
theorem pick_stays {s : Sb} (hs : s.Fit) (hc : chk s = 0) {t : ByteArray} (h : ¬ (decS t).2 = 0 ∨ (decS t).1.ser < s.ser) :
    (s.ser % 2 = 0 → pickS s.sec t = (s, 0, 0)) ∧ (s.ser % 2 = 1 → pickS t s.sec = (s, 1, 0)) := by
  refine ⟨fun hp => ?_, fun hp => ?_⟩
  · rw [pick_ref, dec_sec hs hc]
    generalize decS t = D at *
    obtain ⟨d, e⟩ := D
    unfold rpick
    simp only at h ⊢
    generalize s.ser = x at *
    generalize d.ser = y at *
    rcases h with h | h
    · rw [if_pos ⟨⟨trivial, hp⟩, .inl (fun h2 => h h2.1)⟩]
    · rw [if_pos ⟨⟨trivial, hp⟩, .inr h⟩]
  · rw [pick_ref, dec_sec hs hc]
    generalize decS t = D at *
    obtain ⟨d, e⟩ := D
    unfold rpick
    simp only at h ⊢
    generalize s.ser = x at *
    generalize d.ser = y at *
    rcases h with h | h
    · rw [if_neg (fun h2 => h h2.1.1), if_pos ⟨trivial, hp⟩]
    · rw [if_neg (fun h2 => by rcases h2.2 with h3 | h3; exact h3 ⟨trivial, hp⟩; omega), if_pos ⟨trivial, hp⟩]
theorem take_ext (s : ByteArray) (n : Nat) (_h : n ≤ s.size) : bs (s.extract 0 n) = (bs s).take n := by
  simp only [bs, ByteArray.data_extract, Array.toList_extract, List.extract_eq_take_drop, List.drop_zero, Nat.sub_zero, List.map_take]
/-- The first half of a newer one ahead of the second half of another one. -/
theorem torn_bs {t u : ByteArray} (ht : t.size = 64) (hu : u.size = 64) : bs (t.extract 0 32 ++ u.extract 32 64) = (bs t).take 32 ++ (bs u).drop 32 := by
  rw [bs_append, take_ext t 32 (by omega), bs_drop u 32 hu]
theorem torn_no {n : Sb} {u : ByteArray} (hu : u.size = 64) {x : Nat} (hx : num (((bs u).drop 52).take 8) = x) (hn : n.ser.toNat < 18446744073709551616) (hne : n.ser.toNat ≠ x) : ¬ (decS (n.sec.extract 0 32 ++ u.extract 32 64)).2 = 0 := by
  refine dec_torn ?_
  rw [torn_bs (sec_size n) hu]
  have l1 : ((bs n.sec).take 32).length = 32 := by rw [List.length_take, bs_length, sec_size]; rfl
  have e1 : (((bs n.sec).take 32 ++ (bs u).drop 32).drop 20).take 8 = (((bs n.sec)).drop 20).take 8 := by
    rw [List.drop_append_of_le_length (by omega), List.drop_take, List.take_append_of_le_length (by rw [List.length_take, List.length_drop, bs_length, sec_size]; omega), List.take_take]
    rfl
  have e2 : (((bs n.sec).take 32 ++ (bs u).drop 32).drop 52).take 8 = (((bs u)).drop 52).take 8 := by
    rw [List.drop_append, l1, List.drop_of_length_le (by omega), List.nil_append, List.drop_drop]
  rw [e1, e2, hx, sec_bs, at_ser, num_be]
  rw [mod_small (x := n.ser.toNat) (y := 256 ^ 8) hn]
  exact hne
theorem ser_of {s : Sb} (h : s.ser.toNat < 18446744073709551616) : num (((bs s.sec).drop 52).take 8) = s.ser.toNat := by
  rw [sec_bs, at_ser2, num_be]
  exact mod_small (x := s.ser.toNat) (y := 256 ^ 8) h
theorem ser_zero : num (((bs (str (List.replicate 64 0))).drop 52).take 8) = 0 := by
  rw [bs_str (by intro b hb; rw [List.eq_of_mem_replicate hb]; omega)]
  rfl
end Su
end Go.Proofs.YtjopjffecnflkaaDoor
