/- Get and Drop of a table. -/
import Derived.Test.YtgdfmoehbgmfkaaLi
namespace Go.Proofs.Ytgdfmoehbgmfkaa
open Go.RowKit
namespace Li
open Wi
set_option maxHeartbeats 2000000 in
theorem get_none {w : World} {tb mb : Nat} {rs : Rows} {k : Int} (hT : Tab w tb mb rs) (hk : I64 k) (hg : getA rs k = none) : Calls Try.prog 25 #[.pointer (some ⟨tb, 0, none⟩), .int .i64 k] w fun e w' => e = .returned (.tuple #[.agg #[.int .i64 0, .int .i64 0, .int .i64 0], .int .i64 15]) ∧ Below w.heap.size w w' := by
  have hb1 := below_alloc w (.cells #[.int .i64 0, .int .i64 0, .int .i64 0] 58)
  have HB := hide (hb1.alloc hb1.size (.cells #[.int .i64 0, .int .i64 0, .int .i64 0] 58))
  have hblk : ((w.alloc (.cells #[.int .i64 0, .int .i64 0, .int .i64 0] 58)).alloc (.cells #[.int .i64 0, .int .i64 0, .int .i64 0] 58)).heap[w.heap.size]? = some (.cells #[.int .i64 0, .int .i64 0, .int .i64 0] 58 (0, 0)) := ((below_alloc _ _).block w.heap.size (by simp)).trans (heap_alloc_new w _)
  have HBLK := hide hblk
  have hT1 := hT.later hb1
  have hl := look_none hT1.map hk hg
  have hc := hT1.cell
  have hlt := hT.ltT
  clear hT hT1 hg hk hb1 hblk
  go_enter Try.func25, Try.ntmps25
  go_wp2
  refine bodyPost_ret (results_get _ _ w.heap.size 0 0 0 _ rfl rfl HBLK.out) rfl ?_
  exact ⟨rfl, HB.out⟩
set_option maxHeartbeats 2000000 in
theorem get_some {w : World} {tb mb : Nat} {rs : Rows} {k : Int} {p : Int × Int} (hT : Tab w tb mb rs) (hk : I64 k) (hg : getA rs k = some p) : Calls Try.prog 25 #[.pointer (some ⟨tb, 0, none⟩), .int .i64 k] w fun e w' => e = .returned (.tuple #[.agg #[.int .i64 k, .int .i64 p.1, .int .i64 p.2], .int .i64 0]) ∧ Below w.heap.size w w' := by
  have hb0 := below_alloc w (.cells #[.int .i64 k, .int .i64 p.1, .int .i64 p.2] 58)
  have HB := hide (hb0.alloc hb0.size (.cells #[.int .i64 k, .int .i64 p.1, .int .i64 p.2] 58))
  have hblk : ((w.alloc (.cells #[.int .i64 k, .int .i64 p.1, .int .i64 p.2] 58)).alloc (.cells #[.int .i64 k, .int .i64 p.1, .int .i64 p.2] 58)).heap[w.heap.size]? = some (.cells #[.int .i64 k, .int .i64 p.1, .int .i64 p.2] 58 (0, 0)) := ((below_alloc _ _).block w.heap.size (by simp)).trans (heap_alloc_new w _)
  have HBLK := hide hblk
  have hb1 := below_alloc w (.cells #[.int .i64 0, .int .i64 0, .int .i64 0] 58)
  have hT1 := hT.later hb1
  have hl := look_some hT1.map hk hg
  have hc := hT1.cell
  have hlt := hT.ltT
  clear hT hT1 hg hk hb0 hb1 hblk
  go_enter Try.func25, Try.ntmps25
  go_wp2
  refine bodyPost_ret (results_get _ _ w.heap.size k p.1 p.2 _ rfl rfl HBLK.out) rfl ?_
  exact ⟨rfl, HB.out⟩

theorem drop_none {w : World} {tb mb : Nat} {rs : Rows} {k : Int} (hT : Tab w tb mb rs) (hk : I64 k) (hg : getA rs k = none) : Calls Try.prog 29 #[.pointer (some ⟨tb, 0, none⟩), .int .i64 k] w fun e w' => e = .returned (.int .i64 15) ∧ Below w.heap.size w w' := by
  have h := get_none hT hk hg
  clear hT hg hk
  go_enter Try.func29, Try.ntmps29
  go_wp2_with (go_at_call 25; refine h.mono ?_; rintro e w' ⟨rfl, hb⟩)
  go_ret
  exact ⟨rfl, hb.alloc hb.size _⟩
set_option maxHeartbeats 2000000 in
theorem drop_some {w : World} {tb mb : Nat} {rs : Rows} {k : Int} {p : Int × Int} (hT : Tab w tb mb rs) (hk : I64 k) (hg : getA rs k = some p) : Calls Try.prog 29 #[.pointer (some ⟨tb, 0, none⟩), .int .i64 k] w fun e w' => e = .returned (.int .i64 0) ∧ Tab w' tb mb (delA rs k) ∧ w.grownBy w' (some mb) := by
  have h := get_some hT hk hg
  have HT := hide hT
  have hkey := hne3 k hk.wf
  have HR := hide hT.map.1
  clear hT hg
  go_enter Try.func29, Try.ntmps29
  go_wp2_with fail
  refine h.mono ?_
  rintro e w1 ⟨rfl, hb1⟩
  have HB2 := hide (hb1.alloc hb1.size (.cells #[.int .i64 k, .int .i64 p.1, .int .i64 p.2] 58))
  have hT2 := HT.out.later HB2.out
  have HT2 := hide hT2
  have hc := hT2.cell
  have hown := hT2.map.2
  have K3 := int_keyed3
  clear h hb1 hT2
  go_wp2_with (at_delete; refine wpList_delete_own _ rfl _ _ 69 3 rfl 58 K3 Try.underlying69 rowR mb _ _ rfl hown _ _ rfl hkey ?_; intro w3 hown3 hturn3)
  go_ret
  have hm : RMap w3 mb (delA rs k) := ⟨HR.out.del k, own_tight (by rw [← del_mapG]; exact hown3)⟩
  exact ⟨rfl, HT2.out.turn hm hturn3.grown, (grown_of_below HB2.out (some mb)).trans hturn3.grown⟩
end Li
end Go.Proofs.Ytgdfmoehbgmfkaa
