/- A map that is new, or a copy; all of it, how many sectors, what is found. -/
import Derived.Test.YtjbgojccfkmlnaaWt
namespace Go.Proofs.Ytjbgojccfkmlnaa
open Go.RowKit
namespace Wi

/-- What a map of extents keeps to. -/
structure Fit (l : List Xt) : Prop where
  can : Can l
  sm : Sm l
theorem ris_len : ∀ {l : List Xt} {a m : Nat}, Ris l → (∀ x ∈ l, a ≤ x.at_ ∧ x.fin ≤ m) → a ≤ m → l.length + a ≤ m
  | [], a, m, _, _, h => by simpa using h
  | x :: r, a, m, hr, h, _ => by
    obtain ⟨h1, h2⟩ := h x (by simp)
    have hp := hr.pos
    have ih := ris_len (l := r) (a := x.fin) (m := m) hr.tail (fun y hy => ⟨hr.first y hy, (h y (by simp [hy])).2⟩) h2
    unfold Xt.fin at *
    simp
    omega
theorem Fit.len {l : List Xt} (h : Fit l) : l.length ≤ 65536 := by
  have := ris_len (a := 0) (m := 65536) h.can.ris (fun x hx => ⟨Nat.zero_le _, (h.sm x hx).1⟩) (by omega)
  omega
theorem Fit.nil : Fit [] := ⟨trivial, fun _ h => by simp at h⟩
theorem Fit.lay {l X : List Xt} {a b : Nat} (h : Fit l) (hX : Ris X) (hs : Sm X) (hab : a ≤ b) (hx : ∀ x ∈ X, a ≤ x.at_ ∧ x.fin ≤ b) : Fit (layL l a b X) := by
  refine ⟨lay_can h.can.ris hX hab hx, Sm.join fun x hx => ?_⟩
  rcases List.mem_append.1 hx with hx | hx
  · rcases List.mem_append.1 hx with hx | hx
    · exact h.sm.ahead h.can.ris x hx
    · exact hs x hx
  · exact h.sm.behind h.can.ris x hx
theorem new_any (w : World) : Calls Try.prog 10 #[] w fun e w' => e = .returned (.pointer (some ⟨w.heap.size, 0, none⟩)) ∧ RawM w' w.heap.size (.slice none 0 0) [] ∧ Below w.heap.size w w' := by
  have hb := hide (below_alloc w (.cells #[.slice none 0 0] 72))
  have hr : Hid (RawM (w.alloc (.cells #[.slice none 0 0] 72)) w.heap.size (.slice none 0 0) []) := ⟨heap_alloc_new w _, Xs.nil _, by simp [Value.ownBlock]⟩
  go_enter Try.func10, Try.ntmps10
  go_wp2
  go_ret
  exact ⟨rfl, hr.out, hb.out⟩
theorem all_any {w : World} {b : Nat} {v : Value} {l : List Xt} (h : RawM w b v l) (hn : l.length ≤ 1000000) : Calls Try.prog 17 #[.pointer (some ⟨b, 0, none⟩)] w fun e w' => ∃ v', e = .returned v' ∧ Xs w' v' l ∧ From w.heap.size v' ∧ Below w.heap.size w w' := by
  have c0 := h.c
  have hc := clone39 h.xs (encXs_oneCell l) hn
  clear h
  go_enter Try.func17, Try.ntmps17
  go_wp2_with fail
  refine hc.mono ?_
  rintro e w2 ⟨v2, rfl, hF⟩
  have HF := hide hF
  clear hc hF
  go_wp2
  go_ret
  exact ⟨_, rfl, HF.out.row, HF.out.new, HF.out.below⟩
theorem copy_any {w : World} {b : Nat} {v : Value} {l : List Xt} (h : RawM w b v l) (hn : l.length ≤ 1000000) : Calls Try.prog 16 #[.pointer (some ⟨b, 0, none⟩)] w fun e w' => ∃ k X, e = .returned (.pointer (some ⟨k, 0, none⟩)) ∧ mapT k l w' X ∧ (∀ i, X i → w.heap.size ≤ i) ∧ Below w.heap.size w w' := by
  have c0 := h.c
  have hc := clone39 h.xs (encXs_oneCell l) hn
  clear h
  go_enter Try.func16, Try.ntmps16
  go_wp2_with fail
  refine hc.mono ?_
  rintro e w2 ⟨v2, rfl, hF⟩
  obtain ⟨a2, c2, rfl⟩ := hF.row.form
  have HF := hide hF
  have HR : Hid (RawM (w2.alloc (.cells #[.slice a2 l.length c2] 72)) w2.heap.size (.slice a2 l.length c2) l) := ⟨heap_alloc_new w2 _, hF.row.later (below_alloc _ _), fun e => by have := Rw.lt hF.row _ e; omega⟩
  have HB := hide (hF.below.alloc hF.below.size (.cells #[.slice a2 l.length c2] 72))
  have hs := hF.below.size
  clear hc hF
  go_wp2
  go_ret
  exact ⟨_, fun i => i = w2.heap.size ∨ (Value.slice a2 l.length c2).ownBlock = some i, rfl, ⟨_, HR.out, fun i => Iff.rfl⟩, fun i hi => by
    rcases hi with rfl | hi
    · exact hs
    · exact HF.out.new i hi, HB.out⟩
def lens (l : List Xt) : Nat := (l.map (·.len)).sum
theorem lens_take {l : List Xt} {k : Nat} {x : Xt} (h : l[k]? = some x) : lens (l.take (k + 1)) = lens (l.take k) + x.len := by
  unfold lens
  rw [List.take_add_one, h]
  simp
theorem lens_fit : ∀ {l : List Xt} {a m : Nat}, Ris l → (∀ x ∈ l, a ≤ x.at_ ∧ x.fin ≤ m) → a ≤ m → lens l + a ≤ m
  | [], a, m, _, _, h => by simpa [lens] using h
  | x :: r, a, m, hr, h, _ => by
    obtain ⟨h1, h2⟩ := h x (by simp)
    have ih := lens_fit (l := r) (a := x.fin) (m := m) hr.tail (fun y hy => ⟨hr.first y hy, (h y (by simp [hy])).2⟩) h2
    unfold Xt.fin at *
    unfold lens at *
    simp
    omega
theorem Ris.take {l : List Xt} (h : Ris l) (k : Nat) : Ris (l.take k) := Ris.left (B := l.drop k) (by rw [List.take_append_drop]; exact h)
set_option maxHeartbeats 4000000 in
set_option maxRecDepth 20000 in
theorem sectors_any {w : World} {b : Nat} {v : Value} {l : List Xt} (h : RawM w b v l) (hF : Fit l) : Calls Try.prog 33 #[.pointer (some ⟨b, 0, none⟩)] w fun e w' => e = .returned (.int .i64 (lens l : Nat)) ∧ Below w.heap.size w w' := by
  have c0 := h.c
  have hle : ∀ k, lens (l.take k) ≤ 65536 := fun k => by
    have := lens_fit (a := 0) (m := 65536) (hF.can.ris.take k) (fun x hx => ⟨Nat.zero_le _, (hF.sm.take k x hx).1⟩) (by omega)
    omega
  have HLE := hide hle
  have hfl := hF.len
  have HSM := hide hF.sm
  obtain ⟨a, cap, rfl, hlc, hcm⟩ := h.xs.len
  have HX := hide h.xs
  obtain ⟨n, hL⟩ : ∃ n, l.length = n := ⟨_, rfl⟩
  have HL := hide hL
  rw [hL] at c0 hlc HX hfl
  clear h hF hL hle
  go_enter Try.func33, Try.ntmps33
  go_wp2
  go_loopw [3, 13] (fun s i wr => ∃ k : Nat, k ≤ n ∧ i = .int .i64 k ∧ s = .int .i64 (lens (l.take k) : Nat) ∧ Below w.heap.size w wr) (fun _ i _ => n - (intOf i).toNat)
  case atStart => exact ⟨0, Nat.zero_le _, rfl, rfl, Below.refl _ _⟩
  case round =>
    obtain ⟨k, hk, rfl, rfl, hb⟩ := hrel
    by_cases hlt : k < n
    · obtain ⟨x, hx⟩ : ∃ x, l[k]? = some x := ⟨_, List.getElem?_eq_getElem (by rw [HL.out]; exact hlt)⟩
      obtain ⟨hxx, hat⟩ := Xs.at (n := n) (by have := HX.out; exact this)
      clear hxx
      obtain ⟨g, off, rfl, hX⟩ := hat k x hx
      obtain ⟨d0, d1, d2, d3, _, _⟩ := hX.later hb
      have HT := hide (lens_take hx)
      have h1 := HLE.out k
      have h2 := HLE.out (k + 1)
      rw [HT.out] at h2
      have HB := hide (hb.alloc hb.size (.cells #[.int .i64 (x.at_ : Nat), .int .i64 (x.len : Nat), .int .i64 (x.seq : Nat), .int .i64 (x.to : Nat)] 40))
      obtain ⟨xa, xl, xq, xt⟩ := x
      simp only at *
      clear hX hat hx hb
      generalize lens (l.take k) = s at *
      go_wp2
      go_roundw
      case rel => exact ⟨k + 1, by omega, by go_num, by rw [HT.out]; go_num, HB.out⟩
      case measure => simp [intOf]; omega
    · obtain rfl : k = n := by omega
      have HT : Hid (lens (l.take k) = lens l) := by
        show _ = _
        rw [List.take_of_length_le (by rw [HL.out]; exact Nat.le_refl _)]
      rw [HT.out]
      have HB := hide hb
      clear hb
      go_wp2
      go_ret
      exact ⟨rfl, HB.out⟩

end Wi
end Go.Proofs.Ytjbgojccfkmlnaa
