/- What is taken, while a turn goes on. -/
import Derived.Test.YtbgadcofjhgmiaaLr
namespace Go.Proofs.Ytbgadcofjhgmiaa
open Go.RowKit
namespace Sp

/-- A ring is stored in its box: nothing else turns. -/
theorem put3 {w : World} {g : Nat} {x y z : Value} (hblk : w.heap[g]? = some (.cells #[x, y, z] 23 (0, 0))) (s h t : Value) :
    Wi.Keep (fun k => k = g) w (((w.setCell ⟨g, 0, none⟩ s).setCell ⟨g, 1, none⟩ h).setCell ⟨g, 2, none⟩ t) ∧ (((w.setCell ⟨g, 0, none⟩ s).setCell ⟨g, 1, none⟩ h).setCell ⟨g, 2, none⟩ t).heap[g]? = some (.cells #[s, h, t] 23 (0, 0)) := by
  refine ⟨((Wi.Keep.setCell (X := fun k => k = g) w ⟨g, 0, none⟩ s rfl).trans (Wi.Keep.setCell (X := fun k => k = g) _ ⟨g, 1, none⟩ h rfl) fun _ _ e => e).trans (Wi.Keep.setCell (X := fun k => k = g) _ ⟨g, 2, none⟩ t rfl) fun _ _ e => e, ?_⟩
  have h1 := Wi.setCell_blk (i := 0) hblk s
  have h2 := Wi.setCell_blk (i := 1) h1 h
  have h3 := Wi.setCell_blk (i := 2) h2 t
  rw [h3]
  rfl
/-- What is taken, while a turn goes on: nothing else turns. -/
structure TK (w0 : World) (v0 : Value) (S T : Nat) (v : Value) (m : Nat) (w : World) : Prop where
  row : Wi.Rw w 3 1 v m (tkV S T m)
  moved : Wi.Moved w0 v0 v
  keep : Wi.Keep (fun j => v0.ownBlock = some j) w0 w
theorem TK.start {w : World} {v : Value} {S T m : Nat} (h : Wi.Rw w 3 1 v m (tkV S T m)) : TK w v S T v m w := ⟨h, Wi.Moved.refl _ _, Wi.Keep.refl _ _⟩
theorem TK.later {w0 w w' : World} {v0 v : Value} {S T m : Nat} (h : TK w0 v0 S T v m w) (hb : Below w.heap.size w w') : TK w0 v0 S T v m w' :=
  ⟨h.row.later hb, h.moved, h.keep.trans (Wi.Keep.of_below (X := fun j => v0.ownBlock = some j) hb) fun _ _ e => e⟩
/-- One sector more is taken. -/
theorem TK.push {w0 w w2 w3 : World} {v0 v v2 : Value} {S T m : Nat} (h : TK w0 v0 S T v m w) (hb : Below w.heap.size w w2) (g1 : Wi.Rw w3 3 1 v2 (m + 1) (tkV S T m ++ [.int .i64 (((T + m) % S : Nat) : Int)])) (g2 : w2.grownBy w3 v.ownBlock) (g3 : Wi.Moved w2 v v2) : TK w0 v0 S T v2 (m + 1) w3 := by
  rw [tkV_snoc] at g1
  have k2 := h.keep.trans (Wi.Keep.of_below (X := fun j => v0.ownBlock = some j) hb) fun _ _ e => e
  refine ⟨g1, h.moved.trans g3 k2.size, ?_⟩
  have k3 := Wi.Keep.grown (X := fun j => v.ownBlock = some j) g2 fun k hk => hk
  refine k2.trans k3 fun i hi hv => ?_
  rcases h.moved with e | hf
  · rw [← e]; exact hv
  · have := hf i hv
    omega
/-- The first sector that is taken goes. -/
theorem TK.pop {w0 w : World} {v0 : Value} {a : Option Addr} {S T m cap : Nat} (h : TK w0 v0 S T (.slice a (m + 1) cap) (m + 1) w) : TK w0 v0 S (T + 1) (.slice (if cap = 1 then a else a.map (·.add (1 * 1))) m (cap - 1)) m w := by
  have := h.row.drop (k := 1) (by omega)
  rw [tkV_tail] at this
  refine ⟨this, ?_, h.keep⟩
  have e := Wi.drop_own (a := a) (n := m + 1) (cap := cap) (k := 1) (size := 1)
  simp only [Nat.add_sub_cancel] at e
  rcases h.moved with h1 | h1
  · exact .inl (e.trans h1)
  · exact .inr fun k hk => h1 k (e.symm.trans hk)
theorem enc2_at : ∀ (L : List (Int × Int)) (k : Nat) (x : Int × Int), L[k]? = some x → (enc2 L)[k * 2]? = some (.int .i64 x.1) ∧ (enc2 L)[k * 2 + 1]? = some (.int .i64 x.2)
  | [], k, x, h => by simp at h
  | y :: r, 0, x, h => by
    simp at h
    subst h
    simp [enc2]
  | y :: r, k + 1, x, h => by
    have := enc2_at r k x (by simpa using h)
    rw [show (k + 1) * 2 = k * 2 + 1 + 1 by omega]
    simpa [enc2] using this
theorem own_form' {w : World} {v : Value} {L : List (Int × Int)} (h : Own w v L) : ∃ a cap, v = .slice a L.length cap := by
  rcases id h with ⟨hx, ⟨hv, hn⟩ | ⟨g, cap, cur, hv, _⟩⟩
  · exact ⟨none, 0, by rw [hn]; exact hv⟩
  · exact ⟨_, _, hv⟩
/-- Where the spans of a call's answer lie. -/
theorem own_cells {w : World} {a : Option Addr} {n cap : Nat} {L : List (Int × Int)} (h : Own w (.slice a n cap) L) : ∀ (k : Nat) (x : Int × Int), L[k]? = some x → ∃ g, a = some ⟨g, 0, none⟩ ∧ g < w.heap.size ∧ w.cell? ⟨g, k * 2, none⟩ = some (.int .i64 x.1) ∧ w.cell? ⟨g, k * 2 + 1, none⟩ = some (.int .i64 x.2) := fun k x hk => by
  have hl := (List.getElem?_eq_some_iff.1 hk).1
  rcases id h with ⟨hx, ⟨hv, hn⟩ | ⟨g, cap, cur, hv, _, hg, hnc, hcm, hcs, htake⟩⟩
  · omega
  · injection hv with e1 e2 e3
    refine ⟨g, e1, lt_of_block hg, ?_⟩
    have e : ∀ i u, (enc2 L)[i]? = some u → w.cell? ⟨g, i, none⟩ = some u := fun i u hi => by
      rw [cell_of_row _ _ _ _ _ _ hg]
      have hli := (List.getElem?_eq_some_iff.1 hi).1
      rw [← htake, List.getElem?_take_of_lt (by rw [← hx]; exact hli)] at hi
      simpa using hi
    exact ⟨e _ _ (enc2_at L k x hk).1, e _ _ (enc2_at L k x hk).2⟩
theorem cell_one_new (w : World) (v : Value) (t : TypeId) : ∀ j u, ([v] : List Value)[j]? = some u → (w.alloc (.cells #[v] t)).cell? ((⟨w.heap.size, 0, none⟩ : Addr).add j) = some u := fun j u hj => by
  cases j with
  | zero =>
    simp at hj
    subst hj
    show (w.alloc (.cells #[v] t)).cell? ⟨w.heap.size, 0, none⟩ = some v
    rw [cell_of_row _ _ _ _ _ _ (heap_alloc_new w _)]
    rfl
  | succ j => simp at hj
theorem BK.later {W w w' : World} {g S k H T : Nat} {v : Value} (h : BK W g S k H T v w) (hb : Below w.heap.size w w') : BK W g S k H T v w' :=
  ⟨h.may, h.row.later hb, h.fr, (hb.block g (lt_of_block h.box)).trans h.box, h.below.trans (hb.mono h.below.size)⟩
/-- A turn is over. -/
theorem TK.bk {W w0 w : World} {g S k H T m : Nat} {v0 v : Value} {h : Int} (ht : TK w0 v0 S T v m w) (hm : m = H - T) (hmay : T ≤ H ∧ H - T ≤ S ∧ H ≤ 300 * k) (hfr : Wi.From (g + 1) v0) (hh : h = (H : Nat)) (hblk : w0.heap[g]? = some (.cells #[.int .i64 (S : Nat), .int .i64 h, .int .i64 (T : Nat)] 23 (0, 0))) (hb : Below W.heap.size W w0) (hG : W.heap.size ≤ g) : BK W g S k H T v w := by
  subst hm hh
  have hlt := lt_of_block hblk
  refine ⟨hmay, ht.row, fun i hi => ?_, (ht.keep.block g hlt fun e => ?_).trans hblk, hb.trans (ht.keep.below hb.size fun j hj e => ?_)⟩
  · rcases ht.moved with e | hf
    · exact hfr i (e ▸ hi)
    · have := hf i hi
      omega
  · have := hfr g e
    omega
  · have := hfr j e
    omega
/-- A turn is over: the tail has gone on. -/
theorem TK.bk2 {W w0 w : World} {g S k H T0 T m : Nat} {v0 v : Value} {t : Int} (ht : TK w0 v0 S T0 v m w) (hm : m = H - T ∧ T0 = T) (hmay : T ≤ H ∧ H - T ≤ S ∧ H ≤ 300 * k) (hfr : Wi.From (g + 1) v0) (hh : t = (T : Nat)) (hblk : w0.heap[g]? = some (.cells #[.int .i64 (S : Nat), .int .i64 (H : Nat), .int .i64 t] 23 (0, 0))) (hb : Below W.heap.size W w0) (hG : W.heap.size ≤ g) : BK W g S k H T v w := by
  obtain ⟨hm, rfl⟩ := hm
  subst hh
  exact ht.bk hm hmay hfr rfl hblk hb hG
/-- What At answers. -/
def tup2S (B : Nat) (L : List (Int × Int)) : Wi.Spec := ⟨fun v w => ∃ u, v = .tuple #[u, .int .i64 0] ∧ Own w u L ∧ From B u, fun _ _ _ ⟨u, h1, h2, h3⟩ hb => ⟨u, h1, h2.later hb, h3⟩⟩

end Sp
end Go.Proofs.Ytbgadcofjhgmiaa
