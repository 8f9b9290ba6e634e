/- A part of the proofs about package ssd: what its functions answer, call by call. -/
import Derived.Test.YtdcnjaomocehmaaWn
namespace Go.Proofs.Ytdcnjaomocehmaa
open Go.RowKit
namespace Wi

/-- A copy of a row, in memory that is new. -/
structure Cloned (w : World) (e size n : Nat) (xs : List Value) (v : Value) (w' : World) : Prop where
  own : w'.ownsRow 0 e size v n xs
  below : Below w.heap.size w w'
  new : From w.heap.size v
theorem clone_step {w w1 : World} {e : TypeId} {size n : Nat} {xs : List Value} {v' : Value} {w2 : World} {g : Nat} (hb : Below w.heap.size w w1) (hg : w.heap.size ≤ g) (h1 : w2.ownsRow 0 e size v' (0 + n) ([] ++ xs)) (h2 : w1.grownBy w2 (some g)) (h3 : v'.ownBlock = some g ∨ From w1.heap.size v') : Cloned w e size n xs v' w2 := by
  refine ⟨by simpa using h1, hb.trans ⟨h2.os, h2.tape, h2.output, h2.size, fun k hk => h2.block k (Nat.lt_of_lt_of_le hk hb.size) fun e => by cases e; omega⟩, fun k hk => ?_⟩
  rcases h3 with h3 | h3
  · rw [h3] at hk; cases hk; exact hg
  · exact Nat.le_trans hb.size (h3 k hk)
theorem empty_row (w : World) (e size : Nat) : (w.alloc (.cells #[] e)).ownsRow 0 e size (.slice (some ⟨w.heap.size, 0, none⟩) 0 0) 0 [] := World.ownsRow_made w #[] 0 (Nat.zero_le _) (by unfold maxLen; omega) (by simp)

set_option maxHeartbeats 1000000 in
theorem clone33_any {w : World} {v : Value} {n : Nat} {xs : List Value} (h : w.ownsRow 0 66 64 v n xs) (h1 : ∀ u ∈ xs, u.oneCell' = true) (hn : n ≤ 1000000000) :
    Calls Try.prog 33 #[v] w fun e w' => ∃ v', e = .returned v' ∧ Cloned w 66 64 n xs v' w' := by
  obtain ⟨i0, z0, hi, hz0, hzs, hz1, hz2⟩ := info_big info66
  rcases h.2 with ⟨rfl, rfl⟩ | ⟨g, cap, cur, rfl, _, hgg, hnc, hcm, hcs, htake⟩
  · have hx : xs = [] := List.eq_nil_of_length_eq_zero (by have := h.1; omega)
    subst hx
    have heq : ∀ w, _ := fun w => _root_.Go.run_eql_slice_nil (P := Try.prog) w 55 66 none 0 0 Try.underlying55
    go_enter Try.func33, Try.ntmps33
    go_wp2
    go_ret
    exact ⟨_, rfl, World.ownsRow_nil _ 0 66 64, Below.refl _ _, From.nil _ _ _⟩
  · have hcell : ∀ j u, xs[j]? = some u → (w.alloc (.cells #[] 66)).cell? ((⟨g, 0, none⟩ : Addr).add j) = some u := fun j u hu => by
      rw [Addr.add_mid, (below_alloc w _).cell (lt_of_block hgg), ← Addr.add_mid]
      exact h.cells rfl j u hu
    have hl := h.1
    have heq : ∀ w, _ := fun w => _root_.Go.run_eql_slice_nil (P := Try.prog) w 55 66 (some ⟨g, 0, none⟩) n cap Try.underlying55
    go_enter Try.func33, Try.ntmps33
    go_wp2_with (refine wpList_append_moved rfl (.tmp 5) (.tmp 6) 55 rfl 66 i0 z0 64 64 Try.underlying55 hi hz0 hz1 hz2 hzs (by decide) (.slice (some ⟨w.heap.size, 0, none⟩) 0 0) 0 [] rfl (empty_row w 66 64) ⟨g, 0, none⟩ n cap xs rfl hl hcell h1 (by unfold maxLen; omega) (by omega) ?_; intro v2 w2 g1 g2 g3; replace g1 := hide (clone_step (below_alloc w _) (Nat.le_refl _) g1 g2 g3); clear g2 g3)
    go_ret
    exact ⟨_, rfl, g1.out⟩

set_option maxHeartbeats 1000000 in
theorem clone34_any {w : World} {v : Value} {n : Nat} {xs : List Value} (h : w.ownsRow 0 69 65 v n xs) (h1 : ∀ u ∈ xs, u.oneCell' = true) (hn : n ≤ 1000000000) :
    Calls Try.prog 34 #[v] w fun e w' => ∃ v', e = .returned v' ∧ Cloned w 69 65 n xs v' w' := by
  obtain ⟨i0, z0, hi, hz0, hzs, hz1, hz2⟩ := info_big info69
  rcases h.2 with ⟨rfl, rfl⟩ | ⟨g, cap, cur, rfl, _, hgg, hnc, hcm, hcs, htake⟩
  · have hx : xs = [] := List.eq_nil_of_length_eq_zero (by have := h.1; omega)
    subst hx
    have heq : ∀ w, _ := fun w => _root_.Go.run_eql_slice_nil (P := Try.prog) w 56 69 none 0 0 Try.underlying56
    go_enter Try.func34, Try.ntmps34
    go_wp2
    go_ret
    exact ⟨_, rfl, World.ownsRow_nil _ 0 69 65, Below.refl _ _, From.nil _ _ _⟩
  · have hcell : ∀ j u, xs[j]? = some u → (w.alloc (.cells #[] 69)).cell? ((⟨g, 0, none⟩ : Addr).add j) = some u := fun j u hu => by
      rw [Addr.add_mid, (below_alloc w _).cell (lt_of_block hgg), ← Addr.add_mid]
      exact h.cells rfl j u hu
    have hl := h.1
    have heq : ∀ w, _ := fun w => _root_.Go.run_eql_slice_nil (P := Try.prog) w 56 69 (some ⟨g, 0, none⟩) n cap Try.underlying56
    go_enter Try.func34, Try.ntmps34
    go_wp2_with (refine wpList_append_moved rfl (.tmp 5) (.tmp 6) 56 rfl 69 i0 z0 65 72 Try.underlying56 hi hz0 hz1 hz2 hzs (by decide) (.slice (some ⟨w.heap.size, 0, none⟩) 0 0) 0 [] rfl (empty_row w 69 65) ⟨g, 0, none⟩ n cap xs rfl hl hcell h1 (by unfold maxLen; omega) (by omega) ?_; intro v2 w2 g1 g2 g3; replace g1 := hide (clone_step (below_alloc w _) (Nat.le_refl _) g1 g2 g3); clear g2 g3)
    go_ret
    exact ⟨_, rfl, g1.out⟩

theorem encS_oneCell (l : List (List Nat)) : ∀ u ∈ encS l, u.oneCell' = true := by
  intro u hu
  obtain ⟨s, _, hs⟩ := List.mem_flatMap.1 hu
  exact encB_oneCell s u hs
theorem encL_oneCell (l : List (Nat × List Nat)) : ∀ u ∈ encL l, u.oneCell' = true := by
  intro u hu
  obtain ⟨s, _, hs⟩ := List.mem_flatMap.1 hu
  exact encC_oneCell s u hs
/-- A new device, all of it in new memory. -/
structure NewDev (w : World) (d : Dv) (c : Nat) (w' : World) : Prop where
  dev : ∃ X, Dev w' c X d ∧ ∀ k, X k → w.heap.size ≤ k
  below : Below w.heap.size w w'
set_option maxHeartbeats 2000000 in
theorem copy_any {w : World} {b : Nat} {X : Nat → Prop} {d : Dv} (h : Dev w b X d) (hp : d.pend.length ≤ 1000000000) :
    Calls Try.prog 17 #[.pointer (some ⟨b, 0, none⟩)] w fun e w' => e = .returned (.pointer (some ⟨w.heap.size, 0, none⟩)) ∧ NewDev w d w.heap.size w' := by
  obtain ⟨sv, pv, z, h, rfl⟩ := h
  have hm := h.ok.most
  have hlt := h.raw.lt
  obtain ⟨c0, c1, c2, c3⟩ := h.raw.c
  have hsec := h.raw.sec
  have hchg := h.raw.chg
  rw [d.now_length] at hsec
  rw [logOf_length] at hchg
  have hsv := row_slice hsec
  have hpv := row_slice hchg
  obtain ⟨sa, cs, rfl⟩ := hsv
  obtain ⟨ap, cp, rfl⟩ := hpv
  have B0 := below_alloc w (.cells #[.slice sa d.last.length cs, .slice ap d.pend.length cp, .int .i64 z, .bool d.gone] 58)
  have N0 := heap_alloc_new w (.cells #[.slice sa d.last.length cs, .slice ap d.pend.length cp, .int .i64 z, .bool d.gone] 58)
  have k33 := clone33_any (row_keep hsec (X := fun _ => False) (Keep.of_below B0) fun _ _ => id) (encS_oneCell _) (by omega)
  go_enter Try.func17, Try.ntmps17
  go_wp2_with fail
  refine k33.mono ?_
  rintro e w2 ⟨v2, rfl, hc⟩
  clear k33
  have b2 : Below w.heap.size w w2 := B0.trans (hc.below.mono B0.size)
  have n2 := (hc.below.block w.heap.size (by simp)).trans N0
  have q0 := cell_of_row w2 w.heap.size 0 _ _ _ n2
  have f0 := frozen_of_row w2 w.heap.size 0 _ _ n2
  have p1 := (b2.cell (p := ⟨b, 1, none⟩) hlt).trans c1
  have n3 := setCell_blk (i := 0) n2 v2
  have k3 := Keep.setCell (X := fun j => j = w.heap.size) w2 ⟨w.heap.size, 0, none⟩ v2 rfl
  have b3 := b2.trans (k3.below (B := w.heap.size) b2.size fun k hk e => by omega)
  have o3 := row_keep hc.own k3 fun i hi e => by have := hc.new i hi; simp at this; omega
  have s3 := hc.new
  have h34 := row_keep hchg (X := fun _ => False) (Keep.of_below b3) fun _ _ => id
  have k34 := clone34_any h34 (encL_oneCell _) (by omega)
  have hv2 := row_slice hc.own
  clear hc k3 h34
  obtain ⟨a2, cc2, rfl⟩ := hv2
  have O3 := hide o3
  have N3 := hide n3
  have B3 := hide b3
  have S3 := hide s3
  clear o3 n3 b3 s3 B0 N0 n2
  go_wp2_with fail
  refine k34.mono ?_
  rintro e w4 ⟨v4, rfl, hc⟩
  clear k34
  have b4 : Below w.heap.size w w4 := B3.out.trans (hc.below.mono B3.out.size)
  have n4 := (hc.below.block w.heap.size (lt_of_block N3.out)).trans N3.out
  have o4 := row_keep O3.out (X := fun _ => False) (Keep.of_below hc.below) fun _ _ => id
  have q1 := cell_of_row w4 w.heap.size 1 _ _ _ n4
  have f1 := frozen_of_row w4 w.heap.size 1 _ _ n4
  have n5 := setCell_blk (i := 1) n4 v4
  have k5 := Keep.setCell (X := fun j => j = w.heap.size) w4 ⟨w.heap.size, 1, none⟩ v4 rfl
  have hsz : w.heap.size < (w2.setCell ⟨w.heap.size, 0, none⟩ (.slice a2 d.last.length cc2)).heap.size := lt_of_block N3.out
  have HN : Hid (NewDev w d w.heap.size (w4.setCell ⟨w.heap.size, 1, none⟩ v4)) := by
    have e1 : ∀ i, (Value.slice a2 d.last.length cc2).ownBlock = some i → w.heap.size < i ∧ i < (w2.setCell ⟨w.heap.size, 0, none⟩ (.slice a2 d.last.length cc2)).heap.size := fun i hi => by
      have h1 := S3.out i hi
      have h2 := (O3.out.lt i hi).2
      simp at h1
      exact ⟨by omega, h2⟩
    have e2 : ∀ i, v4.ownBlock = some i → (w2.setCell ⟨w.heap.size, 0, none⟩ (.slice a2 d.last.length cc2)).heap.size ≤ i := fun i hi => hc.new i hi
    refine ⟨⟨_, ⟨_, _, z, ⟨⟨n5, ?_, ?_, h.raw.whole, h.raw.lwhole, ?_, ?_, ?_, h.raw.most⟩, h.ok, h.stop⟩, rfl⟩, ?_⟩, b4.trans (k5.below (B := w.heap.size) b4.size fun k hk e => by omega)⟩
    · rw [d.now_length]
      exact row_keep o4 k5 fun i hi e => by have := e1 i hi; omega
    · rw [logOf_length]
      exact row_keep hc.own k5 fun i hi e => by have := e2 i hi; omega
    · intro e; have := e1 _ e; omega
    · intro e; have := e2 _ e; omega
    · intro k hk e
      have := e1 k hk
      have := e2 k e
      omega
    · intro k hk
      rcases hk with hk | hk | hk
      · omega
      · have := e1 k hk; omega
      · have := e2 k hk; omega
  have hv4 := row_slice hc.own
  clear hc n4 n5 k5 o4 b4
  obtain ⟨a4, cc4, rfl⟩ := hv4
  go_wp2
  go_ret
  exact ⟨rfl, HN.out⟩
theorem info66z : (Try.prog.info? 66).map (fun i => i.zero.map (·.cells)) = some (some (encB (List.replicate 64 0)).toArray) := by kernel_rfl
theorem made_zeros {z : Array Value} (hz : z = (encB (List.replicate 64 0)).toArray) (n : Nat) : (madeCells z (n * 64)).toList = encS (List.replicate n (List.replicate 64 0)) := by
  have h1 : encS (List.replicate n (List.replicate 64 0)) = List.replicate (n * 64) (.int .u8 0) := by
    rw [List.eq_replicate_iff]
    constructor
    · rw [encS, flat_len (k := 64) _ (fun x hx => by rw [List.eq_of_mem_replicate hx]; rfl), List.length_replicate]
    · intro u hu
      obtain ⟨s, hs, hu⟩ := List.mem_flatMap.1 hu
      rw [List.eq_of_mem_replicate hs] at hu
      simp [encB] at hu
      exact hu
  rw [h1, List.eq_replicate_iff]
  constructor
  · rw [Array.length_toList, size_madeCells]
  · intro u hu
    simp only [madeCells, Array.toList_map, List.mem_map] at hu
    obtain ⟨i, _, rfl⟩ := hu
    have hl : z.size = 64 := by rw [hz]; rfl
    have hi : i % z.size < z.size := Nat.mod_lt _ (by omega)
    rw [getElem!_pos z _ hi]
    have hm : z[i % z.size] ∈ z.toList := by simp
    have ha : ∀ u ∈ z.toList, u = .int .u8 0 := by
      rw [hz]
      intro u hu
      rw [List.toList_toArray, encB, List.mem_map] at hu
      obtain ⟨x, hx, hx2⟩ := hu
      rw [List.eq_of_mem_replicate hx] at hx2
      exact hx2.symm
    exact ha _ hm
set_option maxHeartbeats 2000000 in
theorem new_any (n : Nat) (h1 : 1 ≤ n) (hn : n ≤ 65536) (w : World) : Calls Try.prog 12 #[.int .i64 (n : Nat)] w fun e w' => e = .returned (.tuple #[.pointer (some ⟨w.heap.size + 1, 0, none⟩), .int .i64 0]) ∧ NewDev w (dv0 n) (w.heap.size + 1) w' := by
  obtain ⟨i0, z0, hi, hz0, hzs, hz1, hz2⟩ := info_big info66
  have hz : z0.cells = (encB (List.replicate 64 0)).toArray := by
    have := info66z
    simpa [hi, hz0] using this
  have hr := run_make (P := Try.prog) w 55 66 i0 z0 Try.underlying55 hi hz0 .i64 .i64 (n : Int) (n : Int) (by omega) (by omega) (by rw [hz2]; omega) (by omega)
  have ho := World.ownsRow_lit (base := 0) (e := 66) (size := 64) w (madeCells z0.cells (n * 64)) n (Nat.zero_le _) (by unfold maxLen; omega) (size_madeCells _ _)
  rw [made_zeros hz] at ho
  rw [hz1, Int.toNat_natCast] at hr
  have HO := hide ho
  clear ho
  generalize madeCells z0.cells (n * 64) = M at *
  have B0 := below_alloc w (.cells M 66)
  have B1 := below_alloc (w.alloc (.cells M 66)) (.cells #[.slice (some ⟨w.heap.size, 0, none⟩) n n, .slice none 0 0, .int .i64 (-1), .bool false] 58)
  have N1 := heap_alloc_new (w.alloc (.cells M 66)) (.cells #[.slice (some ⟨w.heap.size, 0, none⟩) n n, .slice none 0 0, .int .i64 (-1), .bool false] 58)
  rw [show (w.alloc (.cells M 66)).heap.size = w.heap.size + 1 by simp] at N1
  have HN : Hid (NewDev w (dv0 n) (w.heap.size + 1) ((w.alloc (.cells M 66)).alloc (.cells #[.slice (some ⟨w.heap.size, 0, none⟩) n n, .slice none 0 0, .int .i64 (-1), .bool false] 58))) := by
    refine ⟨⟨_, ⟨.slice (some ⟨w.heap.size, 0, none⟩) n n, .slice none 0 0, -1, ⟨⟨N1, ?_, World.ownsRow_nil _ 0 69 65, (dv0_ok hn).now, by simp [dv0, logOf], ?_, by simp [Value.ownBlock], by simp [Value.ownBlock], by simpa [dv0, Dv.now, settle] using hn⟩, dv0_ok hn, by omega, by omega, .inl ⟨by omega, rfl⟩⟩, rfl⟩, ?_⟩, B0.trans (B1.mono B0.size)⟩
    · have := row_keep HO.out (X := fun _ => False) (Keep.of_below B1) fun _ _ => id
      simpa [dv0, Dv.now, settle] using this
    · simp [Value.ownBlock]
    · intro k hk
      rcases hk with hk | hk | hk
      · omega
      · simp [Value.ownBlock] at hk; omega
      · simp [Value.ownBlock] at hk
  clear B0 B1 N1 HO
  go_enter Try.func12, Try.ntmps12
  go_wp2
  go_ret2
  exact ⟨rfl, HN.out⟩
theorem new_no (n : Int) (h : n < 1 ∨ 65536 < n) (w : World) : Calls Try.prog 12 #[.int .i64 n] w fun e w' => e = .returned (.tuple #[.pointer none, .int .i64 1]) ∧ w' = w := by
  go_enter Try.func12, Try.ntmps12
  go_wp2
  all_goals
    go_ret2
    exact ⟨rfl, rfl⟩

end Wi
end Go.Proofs.Ytdcnjaomocehmaa
