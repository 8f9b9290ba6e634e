/- What the kinds of records write into a head. -/
import Derived.Test.YtnpbgjafahhadaaDoorRe
namespace Go.Proofs.YtnpbgjafahhadaaDoor
open Go.RowKit
namespace Re
open Cr
/-- A head in block b. -/
structure BoxH (w : World) (b : Nat) (ep nu ki : Int) (sl : Value) (da tx : ByteArray) (sum : Nat) : Prop where
  r : BoxR w b ep nu ki sl da tx
  c6 : w.cell? ⟨b, 6, none⟩ = some (.int .u32 (sum : Nat))
theorem BoxH.later {w w' : World} {b : Nat} {ep nu ki : Int} {sl : Value} {da tx : ByteArray} {sum : Nat} (h : BoxH w b ep nu ki sl da tx sum) (hb : Below (b + 1) w w') : BoxH w' b ep nu ki sl da tx sum :=
  ⟨h.r.later hb, (hb.cell (by simp)).trans h.c6⟩
theorem boxH (w : World) (ep nu ki : Int) (sl : Value) (da tx : ByteArray) (sum : Nat) : BoxH (w.alloc (.cells #[.int .i64 ep, .int .i64 nu, .int .i64 ki, sl, .string da, .string tx, .int .u32 (sum : Nat)] 61)) w.heap.size ep nu ki sl da tx sum :=
  ⟨⟨by simp, by simp, by simp, by simp, by simp, by simp, by simp⟩, by simp⟩
theorem keep_cell {X : Nat → Prop} {w w' : World} (h : Keep X w w') {b i : Nat} {v : Value} (hb : b < w.heap.size) (hx : ¬ X b) (hc : w.cell? ⟨b, i, none⟩ = some v) : w'.cell? ⟨b, i, none⟩ = some v := by
  have hk : w'.heap[b]? = w.heap[b]? := h.block b hb hx
  rw [← hc]
  simp only [World.cell?, hk]
theorem keep_free {X : Nat → Prop} {w w' : World} (h : Keep X w w') {b i : Nat} {v : Bool} (hb : b < w.heap.size) (hx : ¬ X b) (hc : w.frozen? ⟨b, i, none⟩ = v) : w'.frozen? ⟨b, i, none⟩ = v := by
  have hk : w'.heap[b]? = w.heap[b]? := h.block b hb hx
  rw [← hc]
  simp only [World.frozen?, hk]
theorem BoxR.keep {X : Nat → Prop} {w w' : World} {b : Nat} {ep nu ki : Int} {sl : Value} {da tx : ByteArray} (h : BoxR w b ep nu ki sl da tx) (k : Keep X w w') (hx : ¬ X b) : BoxR w' b ep nu ki sl da tx :=
  ⟨Nat.lt_of_lt_of_le h.lt k.size, keep_cell k h.lt hx h.c0, keep_cell k h.lt hx h.c1, keep_cell k h.lt hx h.c2, keep_cell k h.lt hx h.c3, keep_cell k h.lt hx h.c4, keep_cell k h.lt hx h.c5⟩
theorem BoxH.keep {X : Nat → Prop} {w w' : World} {b : Nat} {ep nu ki : Int} {sl : Value} {da tx : ByteArray} {sum : Nat} (h : BoxH w b ep nu ki sl da tx sum) (k : Keep X w w') (hx : ¬ X b) : BoxH w' b ep nu ki sl da tx sum :=
  ⟨h.r.keep k hx, keep_cell k h.r.lt hx h.c6⟩
theorem Sl.keep {X : Nat → Prop} {w w' : World} {a : Option Addr} {n : Nat} {xs : List (Int × Int)} (h : Sl w a n xs) (k : Keep X w w') (hx : ∀ ad, a = some ad → ¬ X ad.block) : Sl w' a n xs :=
  ⟨h.len, h.most, h.fit, fun i hi => by
    obtain ⟨b, off, rfl, hb, c0, c1⟩ := h.cells i hi
    have hb' := hx _ rfl
    exact ⟨b, off, rfl, Nat.lt_of_lt_of_le hb k.size, keep_cell k hb hb' c0, keep_cell k hb hb' c1⟩⟩
/-- A new block is none of a writer's. -/
theorem out_new {w : World} {b : Nat} {v : Value} {l : List Nat} (h : OutAt w b v l) : ¬ xOut b v w.heap.size := by
  intro x
  rcases x with x | x
  · have := h.lt; omega
  · have := h.own.lt _ x; omega
theorem Us.two (w : World) (x y : Nat) (hx : x < 18446744073709551616) (hy : y < 18446744073709551616) (t : TypeId) : Us (w.alloc (.cells #[.int .u64 (x : Nat), .int .u64 (y : Nat)] t)) (some ⟨w.heap.size, 0, none⟩) 2 [x, y] :=
  ⟨rfl, by omega, by intro z hz; simp only [List.mem_cons, List.not_mem_nil, or_false] at hz; omega, fun i u hi => by
    match i with
    | 0 => simp at hi; subst hi; exact ⟨_, _, rfl, by simp, by simp⟩
    | 1 => simp at hi; subst hi; exact ⟨_, _, rfl, by simp, by simp⟩
    | i + 2 => simp at hi⟩
theorem Us.three (w : World) (x y z : Nat) (hx : x < 18446744073709551616) (hy : y < 18446744073709551616) (hz : z < 18446744073709551616) (t : TypeId) : Us (w.alloc (.cells #[.int .u64 (x : Nat), .int .u64 (y : Nat), .int .u64 (z : Nat)] t)) (some ⟨w.heap.size, 0, none⟩) 3 [x, y, z] :=
  ⟨rfl, by omega, by intro u hu; simp only [List.mem_cons, List.not_mem_nil, or_false] at hu; omega, fun i u hi => by
    match i with
    | 0 => simp at hi; subst hi; exact ⟨_, _, rfl, by simp, by simp⟩
    | 1 => simp at hi; subst hi; exact ⟨_, _, rfl, by simp, by simp⟩
    | 2 => simp at hi; subst hi; exact ⟨_, _, rfl, by simp, by simp⟩
    | i + 3 => simp at hi⟩
theorem var_two (b : Nat) (v : Value) (l : List Nat) (x y : Nat) (hx : x < 18446744073709551616) (hy : y < 18446744073709551616) (w : World) (h : OutAt w b v l) (hl : l.length ≤ 800000000) :
    Calls Tryd.prog 41 #[.pointer (some ⟨b, 0, none⟩), .slice (some ⟨w.heap.size, 0, none⟩) 2 2] (w.alloc (.cells #[.int .u64 (x : Nat), .int .u64 (y : Nat)] 69)) fun e w' => e = .returned (.tuple #[]) ∧ ∃ v', Wrote w b v (l ++ (vr x ++ vr y)) w' v' := by
  have hc := var_any b v l (some ⟨w.heap.size, 0, none⟩) 2 2 [x, y] (w.alloc (.cells #[.int .u64 (x : Nat), .int .u64 (y : Nat)] 69)) (Us.two w x y hx hy 69) (h.later (below_alloc _ _)) (off_new h) (by omega)
  rw [show vrs [x, y] = vr x ++ vr y by simp [vrs]] at hc
  exact hc.mono fun e w' ⟨h1, v', h2⟩ => ⟨h1, v', h2.first (below_alloc _ _)⟩
theorem var_three (b : Nat) (v : Value) (l : List Nat) (x y z : Nat) (hx : x < 18446744073709551616) (hy : y < 18446744073709551616) (hz : z < 18446744073709551616) (w : World) (h : OutAt w b v l) (hl : l.length ≤ 800000000) :
    Calls Tryd.prog 41 #[.pointer (some ⟨b, 0, none⟩), .slice (some ⟨w.heap.size, 0, none⟩) 3 3] (w.alloc (.cells #[.int .u64 (x : Nat), .int .u64 (y : Nat), .int .u64 (z : Nat)] 69)) fun e w' => e = .returned (.tuple #[]) ∧ ∃ v', Wrote w b v (l ++ (vr x ++ (vr y ++ vr z))) w' v' := by
  have hc := var_any b v l (some ⟨w.heap.size, 0, none⟩) 3 3 [x, y, z] (w.alloc (.cells #[.int .u64 (x : Nat), .int .u64 (y : Nat), .int .u64 (z : Nat)] 69)) (Us.three w x y z hx hy hz 69) (h.later (below_alloc _ _)) (off_new h) (by omega)
  rw [show vrs [x, y, z] = vr x ++ (vr y ++ vr z) by simp [vrs]] at hc
  exact hc.mono fun e w' ⟨h1, v', h2⟩ => ⟨h1, v', h2.first (below_alloc _ _)⟩
set_option maxHeartbeats 2000000 in
set_option maxRecDepth 20000 in
theorem tellSpans_any (b : Nat) (v : Value) (l : List Nat) (ep nu ki : Int) (a : Option Addr) (n cap : Nat) (xs : List (Int × Int)) (da tx : ByteArray) (sum : Nat) (w : World) (h : OutAt w b v l) (hS : Sl w a n xs) (ho : Off a b v) (hx : allB xs = true) (hn : n ≤ 64) (hl : l.length ≤ 100000) :
    Calls Tryd.prog 54 #[.pointer (some ⟨b, 0, none⟩), .agg #[.int .i64 ep, .int .i64 nu, .int .i64 ki, .slice a n cap, .string da, .string tx, .int .u32 (sum : Nat)]] w fun e w' => e = .returned (.tuple #[]) ∧ ∃ v', Wrote w b v (l ++ (vr n ++ spB xs)) w' v' := by
  have h1 := h.later (below_alloc w (.cells #[.int .i64 ep, .int .i64 nu, .int .i64 ki, .slice a n cap, .string da, .string tx, .int .u32 (sum : Nat)] 61))
  have hS1 := hS.later (below_alloc w (.cells #[.int .i64 ep, .int .i64 nu, .int .i64 ki, .slice a n cap, .string da, .string tx, .int .u32 (sum : Nat)] 61))
  have X0 := boxH w ep nu ki (.slice a n cap) da tx sum
  have hb := out_new h
  have hsz : w.heap.size < (w.alloc (.cells #[.int .i64 ep, .int .i64 nu, .int .i64 ki, .slice a n cap, .string da, .string tx, .int .u32 (sum : Nat)] 61)).heap.size := by simp
  have HF : ∀ w' v', Wrote (w.alloc (.cells #[.int .i64 ep, .int .i64 nu, .int .i64 ki, .slice a n cap, .string da, .string tx, .int .u32 (sum : Nat)] 61)) b v (l ++ (vr n ++ spB xs)) w' v' → Wrote w b v (l ++ (vr n ++ spB xs)) w' v' := fun w' v' q => q.first (below_alloc w _)
  generalize hW : w.alloc (.cells #[.int .i64 ep, .int .i64 nu, .int .i64 ki, .slice a n cap, .string da, .string tx, .int .u32 (sum : Nat)] 61) = W at *
  have HL := hide hS.len
  clear hS h
  have c3 := X0.r.c3
  go_enter Tryd.func54, Tryd.ntmps54
  go_wp2_with fail
  refine (var_one b v l n (by omega) _ h1 (by omega)).mono ?_
  rintro e w2 ⟨rfl, v2, hw2⟩
  have X2 := X0.keep hw2.keep hb
  have c3' := X2.r.c3
  have hn64 : (l ++ vr n).length ≤ 100009 := by have := vr_len9 n; rw [List.length_append]; omega
  have HE : ∀ k, l ++ vr n ++ spB (xs.take k) = l ++ (vr n ++ spB (xs.take k)) := fun k => List.append_assoc _ _ _
  clear c3 hl
  go_wp2
  go_loopw [5, 18] (fun u i wr => ∃ k : Nat, k ≤ n ∧ i = .int .i64 k ∧ ∃ v', Wrote W b v (l ++ vr n ++ spB (xs.take k)) wr v') (fun _ i _ => n - (intOf i).toNat)
  case atStart => exact ⟨0, Nat.zero_le _, rfl, v2, by rw [List.take_zero, show spB [] = [] from rfl, List.append_nil]; exact hw2⟩
  case round =>
    obtain ⟨k, hk, rfl, v', hwr⟩ := hrel
    by_cases hlt : k < n
    · obtain ⟨g, off, rfl, hbl, c0, c1⟩ := (Sl.keep hS1 hwr.keep ho).cells k (by have := HL.out; omega)
      have hm := mayB_iff.1 (allB_at hx (k := k) (by have := HL.out; omega))
      have HT : Hid (l ++ vr n ++ spB (xs.take k) ++ (vr (nth xs k).1.toNat ++ vr (nth xs k).2.toNat) = l ++ vr n ++ spB (xs.take (k + 1))) := by
        show _ = _
        rw [spB_snoc (by have := HL.out; omega), ← List.append_assoc (l ++ vr n)]
      have hll : (l ++ vr n ++ spB (xs.take k)).length ≤ 200000 := by
        have q1 := spB_length (xs.take k)
        have q2 : (xs.take k).length ≤ k := by rw [List.length_take]; omega
        rw [List.length_append]
        omega
      clear HE hw2 X2 X0 HF hS1 hx hn64 c3' h1
      generalize l ++ vr n ++ spB (xs.take k) = L at *
      generalize nth xs k = x at *
      obtain ⟨x1, x2⟩ := x
      simp only at hm c0 c1 HT
      obtain ⟨hm1, hm2, hm3⟩ := hm
      obtain ⟨p, rfl⟩ := Int.eq_ofNat_of_zero_le hm1
      obtain ⟨q, rfl⟩ := Int.eq_ofNat_of_zero_le (show 0 ≤ x2 by omega)
      simp only [Int.toNat_natCast] at HT
      have hp : p < 65536 := by omega
      have hq : q < 65537 := by omega
      clear hm1 hm2 hm3
      have hO := hwr.out.later (below_alloc wr (.cells #[.int .i64 (p : Int), .int .i64 (q : Int)] 39))
      have hcv := var_two b v' L p q (by omega) (by omega) _ hO (by omega)
      simp only [World.size_alloc] at hcv
      go_wp2_with fail
      refine hcv.mono ?_
      rintro e w3 ⟨rfl, v3, hw3⟩
      have HW3 := hide (hwr.trans (hw3.first (below_alloc _ _)))
      clear hw3 hO hwr c0 c1 hcv
      go_wp2
      go_roundw
      case rel => exact ⟨k + 1, by omega, by go_num, v3, by rw [← HT.out]; exact HW3.out⟩
      case measure => simp [intOf]; omega
    · rw [HE, List.take_of_length_le (by have := HL.out; omega)] at hwr
      have HG := hide (HF _ _ hwr)
      clear HE hw2 X2 X0 HF hS1 hx hwr c3' h1
      go_wp2
      go_end0
      exact ⟨rfl, v', HG.out⟩

theorem tellText_any (b : Nat) (v : Value) (l : List Nat) (ep nu ki : Int) (a : Option Addr) (n cap : Nat) (da t : ByteArray) (sum : Nat) (w : World) (h : OutAt w b v l) (ht : t.size ≤ 100000) (hl : l.length ≤ 100000) :
    Calls Tryd.prog 57 #[.pointer (some ⟨b, 0, none⟩), .agg #[.int .i64 ep, .int .i64 nu, .int .i64 ki, .slice a n cap, .string da, .string t, .int .u32 (sum : Nat)]] w fun e w' => e = .returned (.tuple #[]) ∧ ∃ v', Wrote w b v (l ++ tx t) w' v' := by
  have h1 := h.later (below_alloc w (.cells #[.int .i64 ep, .int .i64 nu, .int .i64 ki, .slice a n cap, .string da, .string t, .int .u32 (sum : Nat)] 61))
  have hcv := text_one b v l t (by omega) _ h1 (by omega)
  simp only [World.size_alloc] at hcv
  clear h1
  go_enter Tryd.func57, Tryd.ntmps57
  go_wp2_with fail
  refine hcv.mono ?_
  rintro e w2 ⟨rfl, v2, hw2⟩
  have HG := hide (hw2.first (below_alloc w _))
  clear hw2 hcv
  go_wp2
  go_end0
  exact ⟨rfl, v2, HG.out⟩
set_option maxHeartbeats 2000000 in
set_option maxRecDepth 20000 in
theorem tellWrite_any (b : Nat) (v : Value) (l : List Nat) (ep nu ki : Int) (a : Option Addr) (n cap : Nat) (xs : List (Int × Int)) (da tx : ByteArray) (sum : Nat) (w : World) (h : OutAt w b v l) (hS : Sl w a n xs) (ho : Off a b v) (hx : allB xs = true) (hn : n ≤ 64) (hl : l.length ≤ 90000) (hs : sum < 4294967296) :
    Calls Tryd.prog 50 #[.pointer (some ⟨b, 0, none⟩), .agg #[.int .i64 ep, .int .i64 nu, .int .i64 ki, .slice a n cap, .string da, .string tx, .int .u32 (sum : Nat)]] w fun e w' => e = .returned (.tuple #[]) ∧ ∃ v', Wrote w b v (l ++ (vr n ++ (spB xs ++ be sum 4))) w' v' := by
  have h1 := h.later (below_alloc w (.cells #[.int .i64 ep, .int .i64 nu, .int .i64 ki, .slice a n cap, .string da, .string tx, .int .u32 (sum : Nat)] 61))
  have hS1 := hS.later (below_alloc w (.cells #[.int .i64 ep, .int .i64 nu, .int .i64 ki, .slice a n cap, .string da, .string tx, .int .u32 (sum : Nat)] 61))
  have X0 := boxH w ep nu ki (.slice a n cap) da tx sum
  have hb := out_new h
  have hsz : w.heap.size < (w.alloc (.cells #[.int .i64 ep, .int .i64 nu, .int .i64 ki, .slice a n cap, .string da, .string tx, .int .u32 (sum : Nat)] 61)).heap.size := by simp
  have HF : ∀ w' v', Wrote (w.alloc (.cells #[.int .i64 ep, .int .i64 nu, .int .i64 ki, .slice a n cap, .string da, .string tx, .int .u32 (sum : Nat)] 61)) b v (l ++ (vr n ++ (spB xs ++ be sum 4))) w' v' → Wrote w b v (l ++ (vr n ++ (spB xs ++ be sum 4))) w' v' := fun w' v' q => q.first (below_alloc w _)
  have hcl := tellSpans_any b v l ep nu ki a n cap xs da tx sum (w.alloc (.cells #[.int .i64 ep, .int .i64 nu, .int .i64 ki, .slice a n cap, .string da, .string tx, .int .u32 (sum : Nat)] 61)) h1 hS1 ho hx hn (by omega)
  have hll : (l ++ (vr n ++ spB xs)).length ≤ 100000 := by
    have q1 := spB_length xs
    have q2 := vr_len9 n
    have := hS.len
    rw [List.length_append, List.length_append]
    omega
  have HE : Hid (l ++ (vr n ++ spB xs) ++ fixW sum 4 = l ++ (vr n ++ (spB xs ++ be sum 4))) := by
    show _ = _
    rw [fixW, if_pos (by omega)]
    simp
  generalize l ++ (vr n ++ (spB xs ++ be sum 4)) = LF at *
  generalize l ++ (vr n ++ spB xs) = L at *
  clear hS h hx h1
  generalize hW : w.alloc (.cells #[.int .i64 ep, .int .i64 nu, .int .i64 ki, .slice a n cap, .string da, .string tx, .int .u32 (sum : Nat)] 61) = W at *
  have c0 := X0.r.c0
  have c1 := X0.r.c1
  have c2 := X0.r.c2
  have c3 := X0.r.c3
  have c4 := X0.r.c4
  have c5 := X0.r.c5
  have c6 := X0.c6
  go_enter Tryd.func50, Tryd.ntmps50
  go_wp2_with fail
  refine hcl.mono ?_
  rintro e w2 ⟨rfl, v2, hw2⟩
  have c6' := (X0.keep hw2.keep hb).c6
  clear hcl c0 c1 c2 c3 c4 c5 c6 X0
  go_wp2_with fail
  refine (fixed_any b v2 L sum 4 (by omega) (by omega) _ hw2.out (by omega)).mono ?_
  rintro e w3 ⟨rfl, v3, hw3⟩
  have HG : Hid (Wrote w b v LF w3 v3) := HF _ _ (by rw [← HE.out]; exact hw2.trans hw3)
  clear hw2 hw3 HE HF c6' hll hS1 ho hb hsz
  go_wp2
  go_end0
  exact ⟨rfl, v3, HG.out⟩
end Re
end Go.Proofs.YtnpbgjafahhadaaDoor
