/- The document's answer of stage 4: a new device. -/
import Derived.Test.YtdcnjaomocehmaaRd
import Derived.Deep.RegionLawGrows
namespace Go.Proofs.Ytdcnjaomocehmaa
open Go.RowKit
namespace Wi

/-- A sector more, and the store of the slice. -/
theorem RawR.pushS {w w1 w2 : World} {b : Nat} {sv pv v2 : Value} {g st : Bool} {z : Int} {last : List (List Nat)} {pend : List (Nat × List Nat)} {s : List Nat} (h : RawR w b sv pv g st z last pend) (hb : Below w.heap.size w w1)
    (g1 : w2.ownsRow 0 9 1 v2 (last.length + 1) (encT last ++ [.string (str s)])) (g2 : w1.grownBy w2 sv.ownBlock) (g3 : Moved w1 sv v2) :
    RawR (w2.setCell ⟨b, 0, none⟩ v2) b v2 pv g st z (last ++ [s]) pend ∧ Keep (xDev b sv pv) w (w2.setCell ⟨b, 0, none⟩ v2) ∧ Moved w sv v2 := by
  have hlt := Nat.lt_of_lt_of_le h.lt hb.size
  have k1 : Keep (fun k => sv.ownBlock = some k) w w2 := (Keep.of_below (X := fun k => sv.ownBlock = some k) hb).trans (Keep.grown (X := fun k => sv.ownBlock = some k) g2 fun _ e => e) fun _ _ e => e
  have hblk := (k1.block b h.lt h.ns).trans h.blk
  have hsec := row_keep h.chg k1 fun i hi e => h.nn i e hi
  have hm : Moved w sv v2 := g3.imp id fun hf k hk => Nat.le_trans hb.size (hf k hk)
  have hne : v2.ownBlock ≠ some b := apart_moved h.ns g3 hlt
  refine ⟨⟨setCell_blk hblk _, ?_, ownsRow_setCell_other hsec h.np _, hne, h.np, ?_⟩, ?_, hm⟩
  · rw [encT_append, List.length_append]
    exact ownsRow_setCell_other g1 hne _
  · intro k hk hp
    exact apart_moved (fun e => h.nn k e hp) hm (h.chg.lt k hp).2 hk
  · refine Keep.trans (X := xDev b sv pv) ⟨k1.os, k1.tape, k1.output, k1.size, fun k hk hn => k1.block k hk fun e => hn (.inr (.inl e))⟩ (Keep.setCell (X := xDev b sv pv) w2 _ _ (.inl rfl)) fun _ _ e => e
structure Nw (w : World) (k : Nat) (wr : World) (sv : Value) : Prop where
  raw : RawR wr w.heap.size sv (.slice none 0 0) false false 0 (List.replicate k (List.replicate 64 0)) []
  new : From w.heap.size sv
  below : Below w.heap.size w wr
theorem Nw.next {w wr w3 : World} {k : Nat} {sv v2 : Value} (h : Nw w k wr sv) (hp : RawR w3 w.heap.size v2 (.slice none 0 0) false false 0 (List.replicate k (List.replicate 64 0) ++ [List.replicate 64 0]) [] ∧ Keep (xDev w.heap.size sv (.slice none 0 0)) wr w3 ∧ Moved wr sv v2) : Nw w (k + 1) w3 v2 := by
  obtain ⟨h1, h2, h3⟩ := hp
  refine ⟨by rw [List.replicate_succ']; exact h1, h.new.moved h3 h.below.size, h.below.trans (h2.below h.below.size fun j hj e => ?_)⟩
  rcases e with e | e | e
  · omega
  · have := h.new j e; omega
  · simp [Value.ownBlock] at e
theorem info9 : (Try.prog.info? 9).map (fun i => (i.zero, i.size, i.bytes)) = some (some (.string { data := #[] }), 1, 16) := by kernel_rfl
theorem zs_row (n : Nat) : zs n = ((List.replicate n 0).map fun x : Nat => Value.int .u8 (x : Nat)).toArray := by rw [zs_list]; simp [encB]
theorem conv_zeros (w' : World) (g : Nat) (h : w'.heap[g]? = some (.cells (zs 64) 5 (0, 0))) : (convert 41 9 (.slice (some ⟨g, 0, none⟩) 64 64)).run Try.prog w' = .ok (.string (str (List.replicate 64 0))) w' :=
  conv_bytes _ _ 0 64 64 (List.replicate 64 0) (by simp) fun i x hx => by
    rw [cell_of_row _ _ _ _ _ _ h, zs_row]
    simp only [Nat.zero_add, List.getElem?_toArray, List.getElem?_map, hx]
    rfl
set_option maxHeartbeats 4000000 in
theorem rnew_any (n : Nat) (hn : n ≤ 65536) (w : World) : Calls Try.prog 13 #[.int .i64 (n : Nat)] w fun e w' => e = .returned (.pointer (some ⟨w.heap.size, 0, none⟩)) ∧ (∃ X, refT w.heap.size (dv0 n) w' X ∧ ∀ k, X k → w.heap.size ≤ k) ∧ Below w.heap.size w w' := by
  obtain ⟨i0, hi, hz0, hz1, hz2⟩ := info_parts info9
  have HS : Hid (Nw w 0 (w.alloc (.cells #[.slice none 0 0, .slice none 0 0, .bool false, .bool false, .int .i64 0] 62)) (.slice none 0 0)) :=
    ⟨⟨heap_alloc_new w _, ⟨rfl, .inl ⟨rfl, rfl⟩⟩, ⟨rfl, .inl ⟨rfl, rfl⟩⟩, by simp [Value.ownBlock], by simp [Value.ownBlock], by simp [Value.ownBlock]⟩, From.nil _ _ _, below_alloc _ _⟩
  go_enter Try.func13, Try.ntmps13
  go_wp2
  go_loopw [4] (fun i wr => ∃ (k : Nat) (sv : Value), k ≤ n ∧ i = .int .i64 k ∧ Nw w k wr sv) (fun i _ => n - (intOf i).toNat)
  case atStart => exact ⟨0, _, Nat.zero_le _, rfl, HS.out⟩
  case round =>
    clear HS
    obtain ⟨k, sv, hk, rfl, hS⟩ := hrel
    by_cases hlt : k < n
    · obtain ⟨c0, c1, c2, c3, c4⟩ := hS.raw.c
      have f0 := hS.raw.fr 0
      have lB := hS.raw.lt
      have nB := hS.raw.ns
      have hmk := make_bytes (N := 64) (by omega)
      have hmk : ∀ w, (Instr.makeSlice 41 (.int .i64 64) (.int .i64 64)).run Try.prog w = .ok (.slice (some ⟨w.heap.size, 0, none⟩) 64 64) (w.alloc (.cells (zs 64) 5)) := hmk
      have hcv := conv_zeros ((wr.alloc (.cells (zs 64) 5)).drew) wr.heap.size (heap_alloc_new wr _)
      obtain ⟨Z, hZ⟩ : ∃ Z, Z = str (List.replicate 64 0) := ⟨_, rfl⟩
      rw [← hZ] at hcv
      have HZ := hide hZ
      clear hZ
      generalize zs 64 = ZZ at *
      have hbw : Below wr.heap.size wr ((wr.alloc (.cells ZZ 5)).alloc (.cells #[.string Z] 9)).drew := ((below_alloc wr (.cells ZZ 5)).trans ((below_alloc _ (.cells #[.string Z] 9)).mono (below_alloc wr (.cells ZZ 5)).size)).drew
      have HBW := hide hbw
      have hrow := hide (row_later hS.raw.sec hbw)
      have hcn : ∀ j u, [Value.string Z][j]? = some u → ((wr.alloc (.cells ZZ 5)).alloc (.cells #[.string Z] 9)).drew.cell? ((⟨wr.heap.size + 1, 0, none⟩ : Addr).add j) = some u := by
        have := cells_new (wr.alloc (.cells ZZ 5)) [Value.string Z] 9
        rw [show (wr.alloc (.cells ZZ 5)).heap.size = wr.heap.size + 1 by simp] at this
        exact this
      have HCN := hide hcn
      have c0' := hide ((below_alloc wr (.cells ZZ 5)).cell (p := ⟨w.heap.size, 0, none⟩) lB |>.trans c0)
      have f0' := hide ((below_alloc wr (.cells ZZ 5)).frozen (p := ⟨w.heap.size, 0, none⟩) lB |>.trans f0)
      have lB' : w.heap.size < (wr.alloc (.cells ZZ 5)).heap.size := by simp; omega
      have LB := hide lB'
      have hkk : (List.replicate k (List.replicate 64 0)).length ≤ 65536 := by rw [List.length_replicate]; omega
      clear hbw hcn lB'
      go_wp2
      go_region_law (refine step_append_moved rfl (.tmp 16) (.tmp 19) 59 rfl 9 i0 _ 1 16 Try.underlying59 hi hz0 hz1 hz2 rfl (by decide) _ _ _ (by simp [Act.eval]) (hrow.out) ⟨wr.heap.size + 1, 0, none⟩ 1 1 [.string Z] (by simp [Act.eval]) rfl (HCN.out) (by simp [Value.oneCell']) (by unfold maxLen; omega) (by omega) ?_; intro v2 w2 g1 g2 g3; obtain ⟨a2, n2, c2, rfl⟩ := own_form g1; have cB2 := cell_grown c0'.out LB.out nB g2; have fB2 := free_grown f0'.out LB.out nB g2; replace g1 := hide g1; replace g2 := hide g2; replace g3 := hide g3)
      all_goals
        have HW := hide (hS.next (hS.raw.pushS HBW.out (by
          have g := g1.out
          rw [HZ.out] at g
          exact g) g2.out g3.out))
        clear g1 g2 g3 hS
        go_wp2
        go_roundw
        case rel => exact ⟨k + 1, _, by omega, by go_num, HW.out⟩
        case measure => simp [intOf]; omega
    · obtain rfl : k = n := by omega
      have HF : Hid ((∃ X, refT w.heap.size (dv0 k) wr X ∧ ∀ j, X j → w.heap.size ≤ j) ∧ Below w.heap.size w wr) := by
        refine ⟨⟨xDev w.heap.size sv (.slice none 0 0), ⟨sv, .slice none 0 0, false, 0, ⟨hS.raw, dv0_ok hn, .inl ⟨rfl, rfl⟩, ⟨by omega, by omega⟩⟩, rfl⟩, fun j hj => ?_⟩, hS.below⟩
        rcases hj with e | e | e
        · omega
        · exact hS.new j e
        · simp [Value.ownBlock] at e
      clear hS
      go_wp2
      go_ret
      exact ⟨rfl, HF.out⟩

end Wi
end Go.Proofs.Ytdcnjaomocehmaa
