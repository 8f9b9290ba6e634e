/- A part of the proofs about package ssd: what its functions answer, call by call. -/
import Derived.Test.YtdcnjaomocehmaaWb
namespace Go.Proofs.Ytdcnjaomocehmaa
open Go.RowKit
namespace Wi

theorem setCell_blk {w : World} {b i : Nat} {cs : Array Value} {t : TypeId} (h : w.heap[b]? = some (.cells cs t (0, 0))) (v : Value) : (w.setCell ⟨b, i, none⟩ v).heap[b]? = some (.cells (cs.setIfInBounds i v) t (0, 0)) := by
  rw [setCell_eq_setRow w b i cs t (0, 0) v h]
  exact setRow_heap w b _ _ _ _ h
section
variable {w : World} {b : Nat} {sv pv : Value} {z : Int} {g : Bool} {cur : List (List Nat)} {log : List (Nat × List Nat)}
theorem Raw.row (h : Raw w b sv pv z g cur log) (i : Nat) (v : Value) : (w.setCell ⟨b, i, none⟩ v).ownsRow 0 66 64 sv cur.length (encS cur) ∧ (w.setCell ⟨b, i, none⟩ v).ownsRow 0 69 65 pv log.length (encL log) :=
  ⟨ownsRow_setCell_other h.sec h.ns _, ownsRow_setCell_other h.chg h.np _⟩
theorem Raw.setLeft (h : Raw w b sv pv z g cur log) (z' : Int) : Raw (w.setCell ⟨b, 2, none⟩ (.int .i64 z')) b sv pv z' g cur log :=
  ⟨setCell_blk h.blk _, (h.row _ _).1, (h.row _ _).2, h.whole, h.lwhole, h.ns, h.np, h.nn, h.most⟩
theorem Raw.setLost (h : Raw w b sv pv z g cur log) (g' : Bool) : Raw (w.setCell ⟨b, 3, none⟩ (.bool g')) b sv pv z g' cur log :=
  ⟨setCell_blk h.blk _, (h.row _ _).1, (h.row _ _).2, h.whole, h.lwhole, h.ns, h.np, h.nn, h.most⟩
theorem Raw.setNone (h : Raw w b sv pv z g cur log) : Raw (w.setCell ⟨b, 1, none⟩ (.slice none 0 0)) b sv (.slice none 0 0) z g cur [] :=
  ⟨setCell_blk h.blk _, (h.row _ _).1, World.ownsRow_nil _ 0 69 65, h.whole, by simp, h.ns, by simp [Value.ownBlock], by simp [Value.ownBlock], h.most⟩
end
/-- A device, and its blocks. -/
def Dev (w : World) (b : Nat) (X : Nat → Prop) (d : Dv) : Prop := ∃ sv pv z, DevAt w b sv pv z d ∧ X = xDev b sv pv
/-- What a call of a device leaves: the device, and all else as it was. -/
structure Does (w : World) (b : Nat) (X : Nat → Prop) (w' : World) (X' : Nat → Prop) (d : Dv) : Prop where
  dev : Dev w' b X' d
  keep : Keep X w w'
  more : ∀ k, X' k → X k ∨ w.heap.size ≤ k
section
variable {w w' w2 : World} {b : Nat} {X X' X2 Y : Nat → Prop} {d d' : Dv}
theorem Dev.ok (h : Dev w b X d) : d.Ok := by obtain ⟨_, _, _, h, _⟩ := h; exact h.ok
theorem Dev.lt (h : Dev w b X d) : ∀ k, X k → k < w.heap.size := by
  obtain ⟨_, _, _, h, rfl⟩ := h
  exact h.raw.xlt
theorem Dev.self (h : Dev w b X d) : X b := by
  obtain ⟨_, _, _, _, rfl⟩ := h
  exact .inl rfl
theorem Dev.keep (h : Dev w b X d) (k : Keep Y w w') (hx : ∀ i, X i → ¬ Y i) : Dev w' b X d := by
  obtain ⟨sv, pv, z, h, rfl⟩ := h
  exact ⟨sv, pv, z, ⟨h.raw.keep k hx, h.ok, h.stop⟩, rfl⟩
theorem Dev.later (h : Dev w b X d) (hb : Below w.heap.size w w') : Dev w' b X d := h.keep (Y := fun _ => False) (Keep.of_below hb) fun _ _ => id
theorem Does.refl (h : Dev w b X d) : Does w b X w X d := ⟨h, Keep.refl _ _, fun _ h => .inl h⟩
theorem Does.trans (h : Does w b X w' X' d) (k : Does w' b X' w2 X2 d') : Does w b X w2 X2 d' :=
  ⟨k.dev, h.keep.trans k.keep fun i hi e => (h.more i e).resolve_right (by omega), fun i hi => by
    rcases k.more i hi with h1 | h1
    · exact h.more i h1
    · exact .inr (Nat.le_trans h.keep.size h1)⟩
theorem Does.later (h : Does w b X w' X' d) (hb : Below w'.heap.size w' w2) : Does w b X w2 X' d :=
  h.trans ⟨h.dev.later hb, Keep.of_below hb, fun _ e => .inl e⟩
theorem Does.first (hb : Below w.heap.size w w') (h : Does w' b X w2 X' d) : Does w b X w2 X' d :=
  ⟨h.dev, (Keep.of_below (X := X) hb).trans h.keep fun _ _ e => e, fun k hk => (h.more k hk).imp id (Nat.le_trans hb.size)⟩
/-- Another object's blocks stay apart from the device's. -/
theorem Does.apart (h : Does w b X w' X' d) (hy : ∀ k, Y k → k < w.heap.size) (ha : ∀ k, X k → ¬ Y k) : ∀ k, X' k → ¬ Y k := fun k hk e => by
  rcases h.more k hk with h1 | h1
  · exact ha k h1 e
  · have := hy k e; omega
theorem Does.from {B : Nat} (h : Does w b X w' X' d) (hB : B ≤ w.heap.size) (hx : ∀ k, X k → B ≤ k) : ∀ k, X' k → B ≤ k := fun k hk => by
  rcases h.more k hk with h1 | h1
  · exact hx k h1
  · omega
theorem Does.below {B : Nat} (h : Does w b X w' X' d) (hB : B ≤ w.heap.size) (hx : ∀ k, X k → B ≤ k) : Below B w w' :=
  h.keep.below hB fun k hk e => by have := hx k e; omega
end
theorem does_same {w w' : World} {b : Nat} {sv pv : Value} {z' : Int} {d' : Dv} (hk : Keep (xDev b sv pv) w w') (h : DevAt w' b sv pv z' d') : Does w b (xDev b sv pv) w' (xDev b sv pv) d' :=
  ⟨⟨sv, pv, z', h, rfl⟩, hk, fun _ e => .inl e⟩
/-- How many bytes a crash keeps. -/
def kept (h : Nat) : Nat := if h = 1 then 64 else if h = 2 then 32 else 0
theorem kept_le (h : Nat) : kept h ≤ 64 := by unfold kept; split <;> (try split) <;> omega
theorem left1_kept {s p : List Nat} (hp : p.length = 64) (hs : s.length = 64) (h : Nat) : left1 s p h = p.take (kept h) ++ s.drop (kept h) := by
  unfold left1 kept
  split
  · rw [List.take_of_length_le (by omega), List.drop_eq_nil_of_le (by omega), List.append_nil]
  · split
    · rfl
    · simp
theorem kept_rest (f : Int) : kept (how f) = if f.tmod 3 = 1 ∨ f.tmod 3 = -2 then 64 else if f.tmod 3 = 2 ∨ f.tmod 3 = -1 then 32 else 0 := by
  have h3 : f.tmod 3 = if 0 ≤ f then f % 3 else if f % 3 = 0 then 0 else f % 3 - 3 := by
    rw [Int.tmod_eq_emod]
    split <;> split <;> simp_all <;> omega
  unfold kept how
  rw [h3]
  repeat' split
  all_goals omega
theorem kept_any (f : Int) (_hf : -9223372036854775808 ≤ f ∧ f ≤ 9223372036854775807) (w : World) : Calls Try.prog 38 #[.int .i64 f] w fun e w' => e = .returned (.int .i64 (kept (how f) : Nat)) ∧ w' = w := by
  obtain ⟨k, hk⟩ : ∃ k, k = kept (how f) := ⟨_, rfl⟩
  rw [← hk]
  rw [kept_rest] at hk
  generalize hr : f.tmod 3 = r at *
  have HR := hide hr
  have HK := hide hk
  clear hk
  go_enter Try.func38, Try.ntmps38
  go_wp2
  all_goals
    go_ret
    refine ⟨ret_int ?_, rfl⟩
    have e := HK.out
    simp_all
theorem fits_any {w : World} {b : Nat} {sv pv : Value} {z : Int} {g : Bool} {cur : List (List Nat)} {log : List (Nat × List Nat)} (h : Raw w b sv pv z g cur log) (a n : Int) (ha : 0 ≤ a ∧ a ≤ 9223372036854775807) (_hn : -9223372036854775808 ≤ n ∧ n ≤ 9223372036854775807) :
    Calls Try.prog 36 #[.pointer (some ⟨b, 0, none⟩), .int .i64 a, .int .i64 n] w fun e w' => e = .returned (.bool (decide (n ≤ (cur.length : Int) - a))) ∧ w' = w := by
  obtain ⟨c0, c1, c2, c3⟩ := h.c
  obtain ⟨av, cap, rfl⟩ := row_slice h.sec
  have hm := h.most
  go_enter Try.func36, Try.ntmps36
  go_wp2
  go_ret
  exact ⟨by congr 2, rfl⟩
theorem stops_dead {z : Int} {s : Option Nat} (h : Stops z s) : (z = 0 ↔ s = some 0) ∧ (0 < z ↔ ∃ n, s = some (n + 1)) := by
  obtain ⟨_, _, ⟨h1, rfl⟩ | ⟨n, rfl, rfl⟩⟩ := h
  · refine ⟨⟨fun e => by omega, by simp⟩, fun e => by omega, by simp⟩
  · simp
/-- A write or a barrier more is done. -/
def Ticked (w : World) (b : Nat) (sv pv : Value) (d : Dv) (w' : World) : Prop := (∃ z', DevAt w' b sv pv z' d.tick) ∧ Keep (xDev b sv pv) w w'
theorem turn_dead {w : World} {b : Nat} {sv pv : Value} {z : Int} {d : Dv} (h : DevAt w b sv pv z d) (hd : d.dead = true) :
    Calls Try.prog 35 #[.pointer (some ⟨b, 0, none⟩)] w fun e w' => e = .returned (.bool false) ∧ w' = w := by
  obtain ⟨c0, c1, c2, c3⟩ := h.raw.c
  obtain ⟨s0, s1⟩ := stops_dead h.stop
  cases hg : d.gone with
  | true =>
    rw [hg] at c3
    go_enter Try.func35, Try.ntmps35
    go_wp2
    go_ret
    exact ⟨rfl, rfl⟩
  | false =>
    rw [hg] at c3
    obtain rfl : z = 0 := s0.2 (by simpa [Dv.dead, hg] using hd)
    go_enter Try.func35, Try.ntmps35
    go_wp2
    go_ret
    exact ⟨rfl, rfl⟩
theorem turn_ok {w : World} {b : Nat} {sv pv : Value} {z : Int} {d : Dv} (h : DevAt w b sv pv z d) (hd : d.dead = false) :
    Calls Try.prog 35 #[.pointer (some ⟨b, 0, none⟩)] w fun e w' => e = .returned (.bool true) ∧ Ticked w b sv pv d w' := by
  obtain ⟨c0, c1, c2, c3⟩ := h.raw.c
  have f2 := h.raw.fr 2
  obtain ⟨s0, s1⟩ := stops_dead h.stop
  obtain ⟨l0, l1, _⟩ := h.stop
  have hg : d.gone = false := by
    simp [Dv.dead] at hd
    exact hd.1
  have hz : ¬ z = 0 := fun e => by simp [Dv.dead, s0.1 e] at hd
  rw [hg] at c3
  clear s0 s1
  by_cases hp : 0 < z
  · go_enter Try.func35, Try.ntmps35
    go_wp2
    go_ret
    refine ⟨rfl, ⟨z - 1, ?_⟩, Keep.setCell w _ _ (.inl rfl)⟩
    refine ⟨h.raw.setLeft _, h.ok.tick, by omega, by omega, ?_⟩
    obtain ⟨_, _, ⟨h1, _⟩ | ⟨n, hn, hs⟩⟩ := h.stop
    · omega
    · exact .inr ⟨n - 1, by omega, by simp [Dv.tick, hs]⟩
  · go_enter Try.func35, Try.ntmps35
    go_wp2
    go_ret
    refine ⟨rfl, ⟨z, h.raw, h.ok.tick, ?_⟩, Keep.refl _ _⟩
    obtain ⟨a1, a2, ⟨h1, hs⟩ | ⟨n, hn, hs⟩⟩ := h.stop
    · exact ⟨a1, a2, .inl ⟨h1, by simp [Dv.tick, hs]⟩⟩
    · omega

end Wi
end Go.Proofs.Ytdcnjaomocehmaa
