/- Rows of a table: all rows, by rising numbers. -/
import Derived.Test.YtgdfmoehbgmfkaaIv
namespace Go.Proofs.Ytgdfmoehbgmfkaa
open Go.RowKit
namespace Li
open Wi
theorem own_base {W : World} {base base' : Nat} {e : TypeId} {size : Nat} {v : Value} {k : Nat} {xs : List Value} (h : W.ownsRow base e size v k xs) (hb : base' ≤ base) : W.ownsRow base' e size v k xs := by
  refine ⟨h.1, ?_⟩
  rcases h.2 with hn | ⟨g, cap, cur, hv, hbg, rest⟩
  · exact .inl hn
  · exact .inr ⟨g, cap, cur, hv, Nat.le_trans hb hbg, rest⟩
set_option maxHeartbeats 1000000 in
theorem sortedFunc_in (n : Nat) (hn : 5 ≤ n) (Bm b nn : Nat) (rs : Rows) (hris : Ris rs) (hlen : rs.length ≤ 1000000) (w : World) (hBm : Bm < w.heap.size)
    (hm : w.cell? ⟨Bm, 0, none⟩ = some (.map (some b))) (hown : w.ownsMap (H := Unit) Try.prog 3 rowR b nn (mapG roDv rs)) :
    CallsIn Fence.wide n Try.prog 35 #[.func (.func 52) #[] #[.pointer (some ⟨Bm, 0, none⟩)], .func (.func 37) #[] #[]] w fun e W' => ∃ v, e = .returned v ∧ W'.ownsRow w.heap.size 58 3 v rs.length (rcs rs) ∧ Below w.heap.size w W' := by
  have h1 : 1 ≤ n := by omega
  have hf50 : Fence.wide.fn 50 := trivial
  have hf51 : Fence.wide.fn 51 := trivial
  refine callsIn_of_wp Try.func35 rfl trivial ?_ rfl
  simp only [Try.ntmps35, List.size_toArray, List.length_cons, List.length_nil, Nat.reduceAdd, Nat.reduceSub, Array.replicate_succ, Array.replicate_zero, List.push_toArray, List.append_toArray, List.nil_append, List.cons_append]
  gi_wp2_with (gi_at_call 50; refine (collect_in Fence.wide (n - 1) trivial trivial trivial rfl (by omega) Bm b nn rs hris hlen _ hBm hm hown).mono ?_; rintro e W ⟨v, xs, rfl, hS, hrow, hb⟩)
  have hsort := fun m => (callsIn_wide (n := m)).2 (sort_any w.heap.size v xs rs W hS hris hrow (by rw [hS.length_eq]; exact hlen))
  gi_wp2_with (gi_at_call 51; refine (hsort _).mono ?_; rintro e w' ⟨rfl, hr2, hg2⟩)
  go_ret
  exact ⟨v, rfl, hr2, hb.grown hg2 hb.size fun k hk => (hrow.lt k hk).1⟩

/-- A table: its block, and the map's. -/
structure TabAt (w : World) (tb mb nn : Nat) (rs : Rows) : Prop where
  tab : w.heap[tb]? = some (.cells #[.map (some mb)] 71 (0, 0))
  ris : Ris rs
  own : w.ownsMap (H := Unit) Try.prog 3 rowR mb nn (mapG roDv rs)
theorem TabAt.ne {w : World} {tb mb nn : Nat} {rs : Rows} (h : TabAt w tb mb nn rs) : tb ≠ mb := fun e => by
  obtain ⟨es, clock, hb, _⟩ := h.own
  rw [← e, h.tab] at hb; cases hb
theorem TabAt.ltT {w : World} {tb mb nn : Nat} {rs : Rows} (h : TabAt w tb mb nn rs) : tb < w.heap.size := lt_of_block h.tab
theorem TabAt.ltM {w : World} {tb mb nn : Nat} {rs : Rows} (h : TabAt w tb mb nn rs) : mb < w.heap.size := h.own.lt
theorem TabAt.later {w w' : World} {tb mb nn : Nat} {rs : Rows} (h : TabAt w tb mb nn rs) (hb : Below w.heap.size w w') : TabAt w' tb mb nn rs := by
  refine ⟨(hb.block tb h.ltT).trans h.tab, h.ris, ?_⟩
  have hbl := h.own.lt
  obtain ⟨es, clock, hbb, Ft, hs, hD⟩ := h.own
  exact ⟨es, clock, (hb.block mb hbl).trans hbb, Ft, hs, hD⟩
theorem TabAt.cell {w : World} {tb mb nn : Nat} {rs : Rows} (h : TabAt w tb mb nn rs) : w.cell? ⟨tb, 0, none⟩ = some (.map (some mb)) := by simp [World.cell?, h.tab]
theorem TabAt.size_le {w : World} {tb mb nn : Nat} {rs : Rows} (h : TabAt w tb mb nn rs) : rs.length ≤ nn := by
  have := h.own.size_le
  rwa [size_mapG] at this

set_option maxHeartbeats 1000000 in
theorem rows_any {w : World} {tb mb nn : Nat} {rs : Rows} (h : TabAt w tb mb nn rs) (hnn : nn ≤ 1000000) :
    Calls Try.prog 17 #[.pointer (some ⟨tb, 0, none⟩)] w fun e w' => ∃ v, e = .returned v ∧ w'.ownsRow w.heap.size 58 3 v rs.length (rcs rs) ∧ Below w.heap.size w w' := by
  have hlen := Nat.le_trans h.size_le hnn
  refine (callsIn_wide (n := 7)).1 ?_
  have hf36 : Fence.wide.fn 36 := trivial
  have hf35 : Fence.wide.fn 35 := trivial
  have hc := h.cell
  have hb1 := below_alloc w (.cells #[.map (some mb)] 69)
  have cS := sortedFunc_in 6 (by omega) w.heap.size mb nn rs h.ris hlen (w.alloc (.cells #[.map (some mb)] 69)) (by simp) (by simp) (h.own.alloc _)
  refine callsIn_of_wp Try.func17 rfl trivial ?_ rfl
  simp only [Try.ntmps17, List.size_toArray, List.length_cons, List.length_nil, Nat.reduceAdd, Nat.reduceSub, Array.replicate_succ, Array.replicate_zero, List.push_toArray, List.append_toArray, List.nil_append, List.cons_append]
  gi_wp2_with (first
    | (gi_at_call 36; refine (values_in Fence.wide _ trivial rfl _ _).mono ?_; rintro e w' ⟨rfl, rfl⟩)
    | (gi_at_call 35; refine cS.mono ?_; rintro e w' ⟨v, rfl, hrow, hb⟩))
  go_ret
  exact ⟨v, rfl, own_base hrow (by simp), hb1.trans (hb.mono (by simp))⟩
set_option maxHeartbeats 1000000 in
theorem rows_nil (w : World) : Calls Try.prog 17 #[.pointer none] w fun e w' => e = .returned (.slice none 0 0) ∧ w' = w := by
  go_enter Try.func17, Try.ntmps17
  go_wp2
  go_ret
  exact ⟨rfl, rfl⟩
end Li
end Go.Proofs.Ytgdfmoehbgmfkaa
