/- The rounds of a move: so many extents are turned, the others are as they were; an extent is written in place. -/
import Derived.Test.YtjbgojccfkmlnaaMg
import Derived.Test.YtjbgojccfkmlnaaWw
namespace Go.Proofs.Ytjbgojccfkmlnaa
open Go.RowKit
namespace Wi

/-- A list in the midst of a move: its first i extents have been looked at. -/
def mvAt (W : List Xt) (x : Xt) (q t i : Nat) : List Xt := (W.take i).map (mvX x q t) ++ W.drop i
theorem mvAt_zero (W : List Xt) (x : Xt) (q t : Nat) : mvAt W x q t 0 = W := by simp [mvAt]
theorem mvAt_full (W : List Xt) (x : Xt) (q t : Nat) : mvAt W x q t W.length = W.map (mvX x q t) := by simp [mvAt]
theorem mvAt_length (W : List Xt) (x : Xt) (q t i : Nat) : (mvAt W x q t i).length = W.length := by
  simp [mvAt]
  omega
theorem mvAt_get {W : List Xt} {x y : Xt} {q t i : Nat} (h : W[i]? = some y) : (mvAt W x q t i)[i]? = some y := by
  have hi : i < W.length := (List.getElem?_eq_some_iff.1 h).1
  unfold mvAt
  rw [List.getElem?_append_right (by simp; omega)]
  simp only [List.length_map, List.length_take, List.getElem?_drop]
  rw [Nat.min_eq_left (by omega), Nat.sub_self, Nat.add_zero, h]
theorem mvAt_succ {W : List Xt} {x y : Xt} {q t i : Nat} (h : W[i]? = some y) : (mvAt W x q t i).set i (mvX x q t y) = mvAt W x q t (i + 1) := by
  have hi : i < W.length := (List.getElem?_eq_some_iff.1 h).1
  have hy : W[i] = y := (List.getElem?_eq_some_iff.1 h).2
  unfold mvAt
  rw [List.set_append_right _ _ (by simp; omega), List.take_add_one, h, List.drop_eq_getElem_cons hi, hy]
  simp only [List.length_map, List.length_take, Option.toList_some, List.map_append, List.map_cons, List.map_nil, List.append_assoc, List.cons_append, List.nil_append]
  rw [Nat.min_eq_left (by omega), Nat.sub_self, List.set_cons_zero]
theorem mvAt_keep {W : List Xt} {x y : Xt} {q t i : Nat} (h : W[i]? = some y) (hn : hitX x y = false) : mvAt W x q t (i + 1) = mvAt W x q t i := by
  have hi : i < W.length := (List.getElem?_eq_some_iff.1 h).1
  have hy : W[i] = y := (List.getElem?_eq_some_iff.1 h).2
  unfold mvAt
  rw [List.take_add_one, h, List.drop_eq_getElem_cons hi, hy]
  simp [mvX, hn]
theorem lens_app (A B : List Xt) : lens (A ++ B) = lens A + lens B := by simp [lens]
theorem hit_len {W : List Xt} {x y : Xt} {i : Nat} (h : W[i]? = some y) : lens ((W.take (i + 1)).filter (hitX x)) = lens ((W.take i).filter (hitX x)) + if hitX x y then y.len else 0 := by
  rw [List.take_add_one, h, List.filter_append, lens_app]
  cases hh : hitX x y <;> simp [hh, lens]
theorem Xs.set {w : World} {g off cap : Nat} {l : List Xt} (h : Xs w (.slice (some ⟨g, off, none⟩) l.length cap) l) {i : Nat} (hi : i < l.length) (y : Xt) : Xs (w.setCells g (off + i * 4) (encX y)) (.slice (some ⟨g, off, none⟩) l.length cap) (l.set i y) := by
  have h2 := Rw.set (o := i * 4) (vs := encX y) h (by simp [encX]; omega) (by intro u hu; exact encXs_oneCell [y] u (by simpa [encXs] using hu))
  unfold Xs
  rw [show (l.set i y).length = l.length by simp]
  rw [show encXs (l.set i y) = splice (encXs l) (i * 4) (encX y) from flat_set l i y (fun _ _ => rfl) rfl hi]
  exact h2

end Wi
end Go.Proofs.Ytjbgojccfkmlnaa
