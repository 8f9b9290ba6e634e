/- A part of the proofs about package ssd: what its functions answer, call by call. -/
import Derived.Test.YtdcnjaomocehmaaWr
namespace Go.Proofs.Ytdcnjaomocehmaa
open Go.RowKit
namespace Wi

theorem Os.at {W wr : World} {a : Option Addr} {n : Nat} {xs : List OpV} (h : Os W a n xs) (hb : Below W.heap.size W wr) {k : Nat} {o : OpV} (hi : xs[k]? = some o) :
    ∃ b off, a = some ⟨b, off, none⟩ ∧ wr.cell? ⟨b, off + k * 5, none⟩ = some (.int .i64 o.ask) ∧ wr.cell? ⟨b, off + k * 5 + 1, none⟩ = some (.int .i64 o.place) ∧ wr.cell? ⟨b, off + k * 5 + 2, none⟩ = some (.int .i64 o.n) ∧ wr.cell? ⟨b, off + k * 5 + 3, none⟩ = some (.string o.data) ∧ wr.cell? ⟨b, off + k * 5 + 4, none⟩ = some (.slice o.ka o.kn o.kc) := by
  obtain ⟨b, off, rfl, hlt, hr⟩ := h.cells k o hi
  refine ⟨b, off, rfl, op_cells fun j v hv => ?_⟩
  rw [hb.cell (p := ⟨b, off + k * 5 + j, none⟩) hlt]
  exact hr j v hv
theorem Ks.new (w : World) (X : Nat → Prop) (l : List Int) (hl : ∀ x ∈ l, Num x) (hn : l.length ≤ 1000) (hX : ∀ k, X k → k < w.heap.size) (cs : Array Value) (hc : cs = (l.map fun x => Value.int .i64 x).toArray) : Ks (w.alloc (.cells cs 3)) X (some ⟨w.heap.size, 0, none⟩) l.length l := by
  subst hc
  have hN := heap_alloc_new w (.cells (l.map fun x => Value.int .i64 x).toArray 3)
  refine ⟨rfl, by omega, hl, fun i x hi => ⟨_, _, rfl, lt_of_block hN, fun e => by have := hX _ e; omega, ?_⟩⟩
  rw [cell_of_row _ _ _ _ _ _ hN]
  simp [hi]
/-- Calls, one behind the other. -/
def Dv.run (d : Dv) (xs : List OpV) : Dv := xs.foldl Dv.step d
theorem run_snoc (d : Dv) (xs : List OpV) (o : OpV) : d.run (xs ++ [o]) = (d.run xs).step o := by simp [Dv.run]
theorem write_pend (d : Dv) (a : Int) (data : List Nat) : (d.write a data).pend.length ≤ d.pend.length + data.length / 64 := by
  unfold Dv.write
  split
  · omega
  · split
    · simp [puts_length]
    · simp [Dv.tick]
theorem step_pend (d : Dv) (o : OpV) (h : o.data.size ≤ 640) : (d.step o).pend.length ≤ d.pend.length + 10 := by
  unfold Dv.step
  split
  · have := write_pend d o.place (bs o.data)
    rw [bs_length] at this
    omega
  · repeat' split
    all_goals first | omega | (simp [Dv.crash]) | (simp [Dv.halt]) | (simp [Dv.lose]) | (unfold Dv.barrier; split <;> simp)
theorem run_pend : ∀ (xs : List OpV) (d : Dv), (∀ o ∈ xs, o.data.size ≤ 640) → (d.run xs).pend.length ≤ d.pend.length + 10 * xs.length
  | [], d, _ => by simp [Dv.run]
  | o :: r, d, h => by
    have h1 := run_pend r (d.step o) fun x hx => h x (by simp [hx])
    have h2 := step_pend d o (h o (by simp))
    show ((d.step o).run r).pend.length ≤ _
    rw [List.length_cons]
    omega
/-- What a list is in pieces of 64. -/
theorem chunks : ∀ (n : Nat) (data : List Nat), data.length = 64 * n → ((List.range n).flatMap fun i => (data.drop (64 * i)).take 64) = data
  | 0, data, h => by
    obtain rfl : data = [] := List.eq_nil_of_length_eq_zero (by omega)
    rfl
  | n + 1, data, h => by
    rw [List.range_succ_eq_map, List.flatMap_cons, List.flatMap_map]
    have ih := chunks n (data.drop 64) (by rw [List.length_drop]; omega)
    have e : ((List.range n).flatMap fun i => (data.drop (64 * (i + 1))).take 64) = data.drop 64 := by
      conv => rhs; rw [← ih]
      congr 1
      funext i
      rw [List.drop_drop]
      congr 2
      omega
    show (data.drop (64 * 0)).take 64 ++ ((List.range n).flatMap fun i => (data.drop (64 * (i + 1))).take 64) = data
    rw [e, Nat.mul_zero, List.drop_zero, List.take_append_drop]
/-- Some pending writes more. -/
def Dv.plus (d : Dv) (l : List (Nat × List Nat)) : Dv := ⟨d.last, d.pend ++ l, d.gone, d.stop⟩
theorem write_fits {d : Dv} (hg : d.gone = false) (hs : d.stop = none) {A n : Nat} {data : List Nat} (hl : data.length = 64 * n) (h : A + n ≤ d.last.length) :
    d.writeA A data = 0 ∧ d.write A data = d.plus (puts A data n) := by
  have hd : d.dead = false := by simp [Dv.dead, hg, hs]
  have hn : data.length / 64 = n := by omega
  have e : d.writeE A data = 0 := by
    unfold Dv.writeE Dv.beyond
    rw [if_neg (by omega), if_neg (by omega), hn, if_neg]
    simp
    omega
  refine ⟨by simp [Dv.writeA, hd, e], ?_⟩
  simp [Dv.write, hd, e, hn, Dv.tick, hs, Dv.plus]
theorem read_fits {d : Dv} (hg : d.gone = false) {a n : Int} {A N : Nat} (ha : a = (A : Int)) (hn : n = (N : Int)) (h : A + N ≤ d.last.length) : d.readE a n = 0 ∧ d.readS a n = d.secs A N := by
  subst ha hn
  have e : d.readE A N = 0 := by
    unfold Dv.readE Dv.beyond
    rw [hg, if_neg (by simp), if_neg (by omega), if_neg]
    simp
    omega
  exact ⟨e, by simp [Dv.readS, e]⟩
theorem secs_puts {d : Dv} {A n : Nat} {data : List Nat} (hl : data.length = 64 * n) : ((d.plus (puts A data n)).secs A n) = data := by
  have hc := chunks n data hl
  unfold Dv.secs
  conv => rhs; rw [← hc]
  rw [List.flatMap_def, List.flatMap_def]
  congr 1
  apply List.map_congr_left
  intro i hi
  unfold Dv.at Dv.plus
  rw [over_append, over_puts n A data _ i (List.mem_range.1 hi)]

end Wi
end Go.Proofs.Ytdcnjaomocehmaa
