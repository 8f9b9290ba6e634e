/- Where in a map places and cut search: which extents touch a span. -/
import Derived.Test.YtjbgojccfkmlnaaWg
import Derived.Test.YtjbgojccfkmlnaaMd
namespace Go.Proofs.Ytjbgojccfkmlnaa
open Go.RowKit
namespace Wi

/-- Does p hold of the extent at a place? -/
def pI (p : Xt → Bool) (l : List Xt) (i : Nat) : Bool := match l[i]? with
  | some x => p x
  | none => false
theorem pI_some {p : Xt → Bool} {l : List Xt} {i : Nat} {x : Xt} (h : l[i]? = some x) : pI p l i = p x := by unfold pI; rw [h]
theorem pI_no {p : Xt → Bool} {l : List Xt} {i : Nat} (h : i < idx p l) : pI p l i = false := by
  have := idx_le p l
  obtain ⟨x, hx⟩ : ∃ x, l[i]? = some x := ⟨_, List.getElem?_eq_getElem (by omega)⟩
  rw [pI_some hx]
  exact idx_no h hx
theorem pI_yes {p : Xt → Bool} (hm : ∀ x y : Xt, 1 ≤ x.len → 1 ≤ y.len → x.fin ≤ y.at_ → p x = true → p y = true) {l : List Xt} (hr : Ris l) {i : Nat} (h : idx p l ≤ i) (hi : i < l.length) : pI p l i = true := by
  obtain ⟨x, hx⟩ : ∃ x, l[i]? = some x := ⟨_, List.getElem?_eq_getElem hi⟩
  rw [pI_some hx]
  exact idx_yes hm hr h hx
theorem Box1.first (w : World) (v : Value) (t : TypeId) : Box1 (w.alloc (.cells #[v] t)) w.heap.size v := by
  refine ⟨?_, ?_⟩
  · rw [cell_of_row _ _ _ _ _ _ (heap_alloc_new w _)]
    rfl
  · rw [World.size_alloc]
    omega
theorem Box1.more {w : World} {p : Nat} {v : Value} (h : Box1 w p v) (o : Obj) : Box1 (w.alloc o) p v := h.later (below_alloc w o)
set_option maxHeartbeats 2000000 in
theorem places_any {w : World} {b : Nat} {v : Value} {l : List Xt} (h : RawM w b v l) (hr : Ris l) (hs : Sm l) (hn : l.length ≤ 1000000) (a z : Int) :
    Calls Try.prog 50 #[.pointer (some ⟨b, 0, none⟩), .int .i64 a, .int .i64 z] w fun e w' => e = .returned (.tuple #[.int .i64 (idx (endsP a) l : Nat), .int .i64 (idx (atP z) l : Nat)]) ∧ Below w.heap.size w w' := by
  obtain ⟨w3, hw3⟩ : ∃ w3, w3 = ((w.alloc (.cells #[.pointer (some ⟨b, 0, none⟩)] 23)).alloc (.cells #[.int .i64 a] 3)).alloc (.cells #[.int .i64 z] 3) := ⟨_, rfl⟩
  have hb3 : Below w.heap.size w w3 := by
    rw [hw3]
    have B0 := below_alloc w (.cells #[.pointer (some ⟨b, 0, none⟩)] 23)
    have B1 := B0.alloc B0.size (.cells #[.int .i64 a] 3)
    exact B1.alloc B1.size _
  have x0 : Box1 w3 w.heap.size (.pointer (some ⟨b, 0, none⟩)) := by rw [hw3]; exact ((Box1.first w _ 23).more _).more _
  have x1 : Box1 w3 (w.heap.size + 1) (.int .i64 a) := by rw [hw3, show w.heap.size + 1 = (w.alloc (.cells #[.pointer (some ⟨b, 0, none⟩)] 23)).heap.size by simp]; exact (Box1.first _ _ 3).more _
  have x2 : Box1 w3 (w.heap.size + 1 + 1) (.int .i64 z) := by rw [hw3, show w.heap.size + 1 + 1 = ((w.alloc (.cells #[.pointer (some ⟨b, 0, none⟩)] 23)).alloc (.cells #[.int .i64 a] 3)).heap.size by simp]; exact Box1.first _ _ 3
  have h3 := h.later hb3
  obtain ⟨a0, cap, hv, _, _⟩ := h.xs.len
  have hc1 := search60 (w := w3) (c1 := .pointer (some ⟨w.heap.size, 0, none⟩)) (c2 := .pointer (some ⟨w.heap.size + 1, 0, none⟩)) l.length (idx (endsP a) l) (pI (endsP a) l) hn (idx_le _ _) (fun i hi => pI_no hi) (fun i h1 h2 => pI_yes (endsP_mono a) hr h1 h2)
    (fun i hi w' hb => by
      obtain ⟨x, hx⟩ : ∃ x, l[i]? = some x := ⟨_, List.getElem?_eq_getElem hi⟩
      rw [pI_some hx]
      exact cl60 (h3.later hb) (x0.later hb) (x1.later hb) hx (hs.get hx))
  have hc2 : ∀ w4, Below w3.heap.size w3 w4 → _ := fun w4 (hb4 : Below w3.heap.size w3 w4) => search61 (w := w4) (c1 := .pointer (some ⟨w.heap.size, 0, none⟩)) (c2 := .pointer (some ⟨w.heap.size + 1 + 1, 0, none⟩)) l.length (idx (atP z) l) (pI (atP z) l) hn (idx_le _ _) (fun i hi => pI_no hi) (fun i h1 h2 => pI_yes (atP_mono z) hr h1 h2)
    (fun i hi w' hb => by
      obtain ⟨x, hx⟩ : ∃ x, l[i]? = some x := ⟨_, List.getElem?_eq_getElem hi⟩
      rw [pI_some hx]
      exact cl61 ((h3.later hb4).later hb) ((x0.later hb4).later hb) ((x2.later hb4).later hb) hx)
  have HC2 := hide hc2
  have k0 : ∀ w4, Below w3.heap.size w3 w4 → w4.cell? ⟨b, 0, none⟩ = some v := fun w4 hb4 => (h3.later hb4).c
  have k1 : ∀ w4, Below w3.heap.size w3 w4 → w4.cell? ⟨w.heap.size, 0, none⟩ = some (.pointer (some ⟨b, 0, none⟩)) := fun w4 hb4 => (x0.later hb4).1
  have K0 := hide k0
  have K1 := hide k1
  have e0 := k0 w3 (Below.refl _ _)
  have e1 := k1 w3 (Below.refl _ _)
  have HB := hide hb3
  have HW := hide hw3
  subst hv
  generalize idx (endsP a) l = r1 at *
  generalize idx (atP z) l = r2 at *
  generalize l.length = n at *
  clear h h3 hs hr x0 x1 x2 k0 k1 hb3 hc2
  rw [hw3] at hc1 e0 e1
  clear hw3
  go_enter Try.func50, Try.ntmps50
  go_wp2_with fail
  refine hc1.mono ?_
  rw [← HW.out]
  rintro e w4 ⟨rfl, hb4⟩
  have f0 := K0.out w4 hb4
  have f1 := K1.out w4 hb4
  have hc2 := HC2.out w4 hb4
  have HB4 := hide (HB.out.trans (hb4.mono HB.out.size))
  clear hc1 hb4 e0 e1
  go_wp2_with fail
  refine hc2.mono ?_
  rintro e w5 ⟨rfl, hb5⟩
  have HB5 := hide (HB4.out.trans (hb5.mono HB4.out.size))
  clear hc2 hb5 f0 f1
  go_wp2
  go_ret2
  exact ⟨rfl, HB5.out⟩

end Wi
end Go.Proofs.Ytjbgojccfkmlnaa
