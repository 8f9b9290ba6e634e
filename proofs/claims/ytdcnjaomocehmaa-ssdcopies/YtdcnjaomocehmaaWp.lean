/- A part of the proofs about package ssd: what its functions answer, call by call. -/
import Derived.Test.YtdcnjaomocehmaaWo
namespace Go.Proofs.Ytdcnjaomocehmaa
open Go.RowKit
namespace Wi

set_option maxHeartbeats 1000000 in
theorem full_any (x : Nat) (_hx : x < 256) (w : World) : Calls Try.prog 19 #[.int .u8 (x : Nat)] w fun e w' => e = .returned (.string (str (List.replicate 64 x))) ∧ Below w.heap.size w w' := by
  obtain ⟨i0, hi, hz0, hz1, hz2⟩ := info_parts info5
  go_enter Try.func19, Try.ntmps19
  go_wp2
  go_loopw [3, 4] (fun v i wr => ∃ k : Nat, k ≤ 64 ∧ i = .int .i64 k ∧ OwnB wr v (List.replicate k x) ∧ From w.heap.size v ∧ Below w.heap.size w wr) (fun _ i _ => 64 - (intOf i).toNat)
  case atStart => exact ⟨0, Nat.zero_le _, rfl, OwnB.nil _, From.nil _ _ _, Below.refl _ _⟩
  case round =>
    obtain ⟨k, hk, rfl, hown, hfr, hbr⟩ := hrel
    by_cases hlt : k < 64
    · have hl : (List.replicate k x).length = k := List.length_replicate
      have HS : Hid (List.replicate k x ++ [x] = List.replicate (k + 1) x) := by show _ = _; rw [List.replicate_succ']
      have ho1 := hown.later (below_alloc wr (.cells #[.int .u8 (x : Nat)] 5))
      unfold OwnB at ho1
      rw [hl] at ho1
      have HO1 := hide ho1
      have hc0 : (wr.alloc (.cells #[.int .u8 (x : Nat)] 5)).cell? ((⟨wr.heap.size, 0, none⟩ : Addr).add 0) = some (.int .u8 (x : Nat)) := by rw [Addr.add_mid, cell_of_row _ _ _ _ _ _ (heap_alloc_new wr _)]; rfl
      have hc1 := hide (cells_one hc0)
      clear hc0
      have h63 : Hid (k + 1 ≤ maxLen) := by show _ ≤ _; unfold maxLen; omega
      have hby : Hid ((k + 1) * 1 ≤ 140737488355328) := by show _ ≤ _; omega
      clear ho1 hl
      go_wp2_with (refine wpList_append_moved rfl (.tmp 9) (.tmp 11) 41 rfl 5 i0 _ 1 1 Try.underlying41 hi hz0 hz1 hz2 rfl Nat.one_pos _ k (encB (List.replicate k x)) rfl HO1.out ⟨wr.heap.size, 0, none⟩ 1 1 [.int .u8 (x : Nat)] rfl rfl hc1.out (one_oneCell _ _) h63.out hby.out ?_; intro v2 w2 g1 g2 g3; replace g1 := hide g1; replace g2 := hide g2; replace g3 := hide g3)
      have hb2 := (hbr.trans ((below_alloc wr (.cells #[.int .u8 (x : Nat)] 5)).mono hbr.size))
      go_roundw
      case rel =>
        refine ⟨k + 1, by omega, by go_num, ?_, hfr.moved g3.out hb2.size, hb2.grown g2.out hb2.size hfr⟩
        unfold OwnB
        rw [← HS.out, encB_append, List.length_append, List.length_replicate]
        exact g1.out
      case measure => simp [intOf]; omega
    · obtain rfl : k = 64 := by omega
      have hcv := hown.conv
      go_wp2
      go_ret
      exact ⟨rfl, hbr⟩
/-- A call of the laws' lists. -/
structure OpV where
  ask : Int
  place : Int
  n : Int
  data : ByteArray
  ka : Option Addr
  kn : Nat
  kc : Nat
  keep : List Int
def OpV.cells (o : OpV) : List Value := [.int .i64 o.ask, .int .i64 o.place, .int .i64 o.n, .string o.data, .slice o.ka o.kn o.kc]
/-- A number of 64 bits. -/
def Num (z : Int) : Prop := -9223372036854775808 ≤ z ∧ z ≤ 9223372036854775807
structure OpOk (w : World) (X : Nat → Prop) (o : OpV) : Prop where
  ask : Num o.ask
  place : Num o.place
  n : Num o.n
  data : o.data.size ≤ 9223372036854775807
  keep : Ks w X o.ka o.kn o.keep
theorem Ks.later {w w' : World} {X : Nat → Prop} {a : Option Addr} {n : Nat} {keep : List Int} (h : Ks w X a n keep) (hb : Below w.heap.size w w') : Ks w' X a n keep :=
  ⟨h.len, h.most, h.num, fun i x hi => by
    obtain ⟨g, off, ha, hg, hx, c⟩ := h.cells i x hi
    exact ⟨g, off, ha, Nat.lt_of_lt_of_le hg hb.size, hx, (hb.cell hg).trans c⟩⟩
theorem Ks.to {W w : World} {X : Nat → Prop} {a : Option Addr} {n : Nat} {keep : List Int} (h : Ks W (fun _ => False) a n keep) (hb : Below W.heap.size W w) (hx : ∀ k, X k → W.heap.size ≤ k) : Ks w X a n keep :=
  ⟨h.len, h.most, h.num, fun i x hi => by
    obtain ⟨g, off, ha, hg, _, c⟩ := h.cells i x hi
    exact ⟨g, off, ha, Nat.lt_of_lt_of_le hg hb.size, fun e => by have := hx g e; omega, (hb.cell hg).trans c⟩⟩
theorem OpOk.to {W w : World} {X : Nat → Prop} {o : OpV} (h : OpOk W (fun _ => False) o) (hb : Below W.heap.size W w) (hx : ∀ k, X k → W.heap.size ≤ k) : OpOk w X o := ⟨h.ask, h.place, h.n, h.data, h.keep.to hb hx⟩
/-- What a call does, and what it answers. -/
def Dv.step (d : Dv) (o : OpV) : Dv := if o.ask = 0 then d.write o.place (bs o.data) else if o.ask = 1 then d.barrier else if o.ask = 2 then d.crash o.keep else if o.ask = 3 then d.halt o.n else if o.ask = 4 then d.lose else d
def Dv.stepE (d : Dv) (o : OpV) : Int := if o.ask = 0 then d.writeA o.place (bs o.data) else if o.ask = 1 then d.barrierA else if o.ask = 2 then 0 else if o.ask = 3 then 0 else if o.ask = 4 then 0 else d.readE o.place o.n
def Dv.stepS (d : Dv) (o : OpV) : List Nat := if o.ask = 0 then [] else if o.ask = 1 then [] else if o.ask = 2 then [] else if o.ask = 3 then [] else if o.ask = 4 then [] else d.readS o.place o.n
theorem Left.first {w w1 w2 : World} {b : Nat} {X : Nat → Prop} {d : Dv} (hb : Below w.heap.size w w1) (h : Left w1 b X d w2) : Left w b X d w2 := let ⟨X', h⟩ := h; ⟨X', h.first hb⟩
set_option maxHeartbeats 2000000 in
theorem does_any {w : World} {b : Nat} {X : Nat → Prop} {d : Dv} (h : Dev w b X d) (o : OpV) (ho : OpOk w X o) (hd : o.data.size ≤ 640) (hp : d.pend.length ≤ 100000000) :
    Calls Try.prog 15 #[.pointer (some ⟨b, 0, none⟩), .agg o.cells.toArray] w fun e w' => e = .returned (.tuple #[.string (str (d.stepS o)), .int .i64 (d.stepE o)]) ∧ Left w b X (d.step o) w' := by
  obtain ⟨ask, pl, n, data, ka, kn, kc, keep⟩ := o
  obtain ⟨⟨q1, q2⟩, q3, q4, q5, q6⟩ := ho
  simp only at q1 q2 q3 q4 q5 q6 hd
  unfold OpV.cells
  simp only
  have B0 := below_alloc w (.cells #[.int .i64 ask, .int .i64 pl, .int .i64 n, .string data, .slice ka kn kc] 36)
  have hD := h.later B0
  by_cases h0 : ask = 0
  · have e1 : d.stepE ⟨ask, pl, n, data, ka, kn, kc, keep⟩ = d.writeA pl (bs data) := by simp [Dv.stepE, h0]
    have e2 : d.step ⟨ask, pl, n, data, ka, kn, kc, keep⟩ = d.write pl (bs data) := by simp [Dv.step, h0]
    have e3 : d.stepS ⟨ask, pl, n, data, ka, kn, kc, keep⟩ = [] := by simp [Dv.stepS, h0]
    rw [e1, e2, e3]
    subst h0
    have hc := write_any hD pl data q3 q5 (by omega)
    go_enter Try.func15, Try.ntmps15
    go_wp2_with fail
    refine hc.mono ?_
    rintro e w1 ⟨rfl, hl⟩
    go_wp2
    go_ret2
    exact ⟨rfl, hl.first B0⟩
  · by_cases h1 : ask = 1
    · have e1 : d.stepE ⟨ask, pl, n, data, ka, kn, kc, keep⟩ = d.barrierA := by simp [Dv.stepE, h1]
      have e2 : d.step ⟨ask, pl, n, data, ka, kn, kc, keep⟩ = d.barrier := by simp [Dv.step, h1]
      have e3 : d.stepS ⟨ask, pl, n, data, ka, kn, kc, keep⟩ = [] := by simp [Dv.stepS, h1]
      rw [e1, e2, e3]
      subst h1
      have hc := barrier_any hD
      go_enter Try.func15, Try.ntmps15
      go_wp2_with fail
      refine hc.mono ?_
      rintro e w1 ⟨rfl, hl⟩
      go_wp2
      go_ret2
      exact ⟨rfl, hl.first B0⟩
    · by_cases h2 : ask = 2
      · have e1 : d.stepE ⟨ask, pl, n, data, ka, kn, kc, keep⟩ = 0 := by simp [Dv.stepE, h2]
        have e2 : d.step ⟨ask, pl, n, data, ka, kn, kc, keep⟩ = d.crash keep := by simp [Dv.step, h2]
        have e3 : d.stepS ⟨ask, pl, n, data, ka, kn, kc, keep⟩ = [] := by simp [Dv.stepS, h2]
        rw [e1, e2, e3]
        subst h2
        have hc := crash_any hD (cap := kc) (q6.later B0)
        go_enter Try.func15, Try.ntmps15
        go_wp2_with fail
        refine hc.mono ?_
        rintro e w1 ⟨rfl, hl⟩
        go_wp2
        go_ret2
        exact ⟨rfl, hl.first B0⟩
      · by_cases h3 : ask = 3
        · have e1 : d.stepE ⟨ask, pl, n, data, ka, kn, kc, keep⟩ = 0 := by simp [Dv.stepE, h3]
          have e2 : d.step ⟨ask, pl, n, data, ka, kn, kc, keep⟩ = d.halt n := by simp [Dv.step, h3]
          have e3 : d.stepS ⟨ask, pl, n, data, ka, kn, kc, keep⟩ = [] := by simp [Dv.stepS, h3]
          rw [e1, e2, e3]
          subst h3
          have hc := stop_any hD n q4
          go_enter Try.func15, Try.ntmps15
          go_wp2_with fail
          refine hc.mono ?_
          rintro e w1 ⟨rfl, hl⟩
          go_wp2
          go_ret2
          exact ⟨rfl, hl.first B0⟩
        · by_cases h4 : ask = 4
          · have e1 : d.stepE ⟨ask, pl, n, data, ka, kn, kc, keep⟩ = 0 := by simp [Dv.stepE, h4]
            have e2 : d.step ⟨ask, pl, n, data, ka, kn, kc, keep⟩ = d.lose := by simp [Dv.step, h4]
            have e3 : d.stepS ⟨ask, pl, n, data, ka, kn, kc, keep⟩ = [] := by simp [Dv.stepS, h4]
            rw [e1, e2, e3]
            subst h4
            have hc := lose_any hD
            go_enter Try.func15, Try.ntmps15
            go_wp2_with fail
            refine hc.mono ?_
            rintro e w1 ⟨rfl, hl⟩
            go_wp2
            go_ret2
            exact ⟨rfl, hl.first B0⟩
          · have e1 : d.stepE ⟨ask, pl, n, data, ka, kn, kc, keep⟩ = d.readE pl n := by simp [Dv.stepE, h0, h1, h2, h3, h4]
            have e2 : d.step ⟨ask, pl, n, data, ka, kn, kc, keep⟩ = d := by simp [Dv.step, h0, h1, h2, h3, h4]
            have e3 : d.stepS ⟨ask, pl, n, data, ka, kn, kc, keep⟩ = d.readS pl n := by simp [Dv.stepS, h0, h1, h2, h3, h4]
            rw [e1, e2, e3]
            have hc := read_any hD pl n q3 q4
            have b0 : (ask == 0) = false := by rw [beq_eq_false_iff_ne]; exact h0
            have b1 : (ask == 1) = false := by rw [beq_eq_false_iff_ne]; exact h1
            have b2 : (ask == 2) = false := by rw [beq_eq_false_iff_ne]; exact h2
            have b3 : (ask == 3) = false := by rw [beq_eq_false_iff_ne]; exact h3
            have b4 : (ask == 4) = false := by rw [beq_eq_false_iff_ne]; exact h4
            clear h0 h1 h2 h3 h4
            go_enter Try.func15, Try.ntmps15
            go_wp2_with fail
            refine hc.mono ?_
            rintro e w1 ⟨rfl, hl⟩
            go_wp2
            go_ret2
            exact ⟨rfl, _, (Does.refl h).later (B0.trans (hl.mono B0.size))⟩

end Wi
end Go.Proofs.Ytdcnjaomocehmaa
