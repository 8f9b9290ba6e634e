/- The chapter's example, as the law calls it. -/
import Derived.Test.YtjbgojccfkmlnaaWy
namespace Go.Proofs.Ytjbgojccfkmlnaa
open Go.RowKit
namespace Wi

theorem aw1 : putP [] [⟨0, 4, 5, 0⟩] = ([⟨0, 4, 5, 0⟩], []) := by kernel_rfl
theorem aw2 : putP [⟨0, 4, 5, 0⟩] [⟨1, 2, 7, 9⟩] = ([⟨0, 1, 5, 0⟩, ⟨1, 2, 7, 9⟩, ⟨3, 1, 5, 3⟩], [⟨1, 2, 5, 1⟩]) := by kernel_rfl
theorem aw_fit : Fit [⟨0, 4, 5, 0⟩] := ⟨by show 1 ≤ 4; omega, fun x hx => by
  simp at hx
  subst hx
  exact ⟨by show 0 + 4 ≤ 65536; omega, by show 5 < _; omega, by show 0 + 4 ≤ _; omega⟩⟩
theorem xs_block {w : World} {k : Nat} {l : List Xt} (h : w.heap[k]? = some (.cells (encXs l).toArray 40 (0, 0))) (hn : l.length ≤ 1000000) : Xs w (.slice (some ⟨k, 0, none⟩) l.length l.length) l :=
  ⟨encXs_length l, .inr ⟨k, 0, l.length, _, rfl, h, Nat.le_refl _, by unfold maxLen; omega, by simp [encXs_length], by rw [List.drop_zero, List.take_of_length_le]; simp [encXs_length]⟩⟩
set_option maxHeartbeats 4000000 in
set_option maxRecDepth 20000 in
theorem awake_any (W : World) : Calls Try.prog 12 #[] W fun e w' => e = .returned (.bool true) ∧ Below W.heap.size W w' := by
  have hn := new_any W
  go_enter Try.func12, Try.ntmps12
  go_wp2_with fail
  refine hn.mono ?_
  rintro e w1 ⟨rfl, hR, hb1⟩
  have hM1 : Mine W w1 (mapT W.heap.size []) := ⟨fun k => k = W.heap.size ∨ (Value.slice none 0 0).ownBlock = some k, ⟨_, hR, fun k => Iff.rfl⟩, fun k hk => by
    rcases hk with rfl | hk
    · exact Nat.le_refl _
    · simp [Value.ownBlock] at hk, hb1⟩
  have HM1 := hide hM1
  clear hn hR hb1 hM1
  have hc := ext_any 0 4 5 0 w1
  go_wp2_with fail
  refine hc.mono ?_
  rintro e w2 ⟨rfl, hb2⟩
  have hM2 := Mine.later (mapT_good _ _) HM1.out hb2
  have hc2 := put_one hM2 Fit.nil 0 4 5 0 (by decide)
  rw [aw1] at hc2
  clear hc hb2 hM2 HM1
  go_wp2_with fail
  refine hc2.mono ?_
  rintro e w3 ⟨f3, rfl, hM3⟩
  have hM4 : Mine W w3 (mapT W.heap.size [⟨0, 4, 5, 0⟩]) := by
    obtain ⟨Z, ⟨X, Y, h1, _, _, h4⟩, h5, h6⟩ := hM3
    exact ⟨X, h1, fun k hk => h5 k ((h4 k).2 (.inl hk)), h6⟩
  have HM4 := hide hM4
  have hc := ext_any 1 2 7 9 w3
  clear hc2 hM3 hM4
  go_wp2_with fail
  refine hc.mono ?_
  rintro e w4 ⟨rfl, hb4⟩
  have hM5 := Mine.later (mapT_good _ _) HM4.out hb4
  have hc2 := put_one hM5 aw_fit 1 2 7 9 (by decide)
  rw [aw2] at hc2
  clear hc hb4 hM5 HM4
  go_wp2_with fail
  refine hc2.mono ?_
  rintro e w5 ⟨f5, rfl, hM6⟩
  have HM6 := hide hM6
  have hc := ext_any 1 2 5 1 w5
  clear hc2 hM6
  go_wp2_with fail
  refine hc.mono ?_
  rintro e w6 ⟨rfl, hb6⟩
  have HM7 := hide (Mine.later ((mapT_good _ _).and (listT_good _ _)) HM6.out (hb6.trans ((below_alloc w6 (.cells #[.int .i64 1, .int .i64 2, .int .i64 5, .int .i64 1] 40)).mono hb6.size)))
  have hX7 : Xs (w6.alloc (.cells #[.int .i64 1, .int .i64 2, .int .i64 5, .int .i64 1] 40)) f5 [⟨1, 2, 5, 1⟩] := by
    obtain ⟨Z, ⟨X, Y, _, h2, _⟩, _⟩ := HM7.out
    exact h2.1
  have hY7 := xs_block (l := [⟨1, 2, 5, 1⟩]) (heap_alloc_new w6 (.cells #[.int .i64 1, .int .i64 2, .int .i64 5, .int .i64 1] 40)) (by simp)
  have hc2 := same_yes hX7 hY7 (by simp)
  clear hc hb6 HM6 hX7 hY7
  go_wp2_with fail
  refine hc2.mono ?_
  rintro e w8 ⟨rfl, hb8⟩
  have HM8 := hide (Mine.later ((mapT_good _ _).and (listT_good _ _)) HM7.out hb8)
  have hc := (show ∃ v, RawM w8 W.heap.size v [⟨0, 1, 5, 0⟩, ⟨1, 2, 7, 9⟩, ⟨3, 1, 5, 3⟩] by
    obtain ⟨Z, ⟨X, Y, ⟨v, h1, _⟩, _⟩, _⟩ := HM8.out
    exact ⟨v, h1⟩)
  obtain ⟨v8, hR8⟩ := hc
  have hc3 := all_any hR8 (by simp)
  have HB8 := hide (Mine.below HM8.out)
  clear hc2 hb8 HM7 hR8 HM8
  go_wp2_with fail
  refine hc3.mono ?_
  rintro e w9 ⟨f9, rfl, hf9, hn9, hb9⟩
  have HF9 := hide hf9
  have HB9 := hide (HB8.out.trans (hb9.mono HB8.out.size))
  have hc := ext_any 0 1 5 0 w9
  clear hc3 hf9 hn9 hb9
  go_wp2_with fail
  refine hc.mono ?_
  rintro e w10 ⟨rfl, hb10⟩
  have HF10 := hide (HF9.out.later hb10)
  have HB10 := hide (HB9.out.trans (hb10.mono HB9.out.size))
  clear hc hb10
  have hc := ext_any 1 2 7 9 w10
  go_wp2_with fail
  refine hc.mono ?_
  rintro e w11 ⟨rfl, hb11⟩
  have HF11 := hide (HF10.out.later hb11)
  have HB11 := hide (HB10.out.trans (hb11.mono HB10.out.size))
  clear hc hb11
  have hc := ext_any 3 1 5 3 w11
  go_wp2_with fail
  refine hc.mono ?_
  rintro e w12 ⟨rfl, hb12⟩
  have HF12 := HF11.out.later hb12
  have hbb := below_alloc w12 (.cells (encXs [⟨0, 1, 5, 0⟩, ⟨1, 2, 7, 9⟩, ⟨3, 1, 5, 3⟩]).toArray 40)
  have hY := xs_block (l := [⟨0, 1, 5, 0⟩, ⟨1, 2, 7, 9⟩, ⟨3, 1, 5, 3⟩]) (heap_alloc_new w12 (.cells (encXs [⟨0, 1, 5, 0⟩, ⟨1, 2, 7, 9⟩, ⟨3, 1, 5, 3⟩]).toArray 40)) (by simp)
  have hc2 := same_yes (HF12.later hbb) hY (by simp)
  have HB12 := hide (HB11.out.trans (hb12.mono HB11.out.size))
  have HBB := hide (HB12.out.trans (hbb.mono HB12.out.size))
  clear hc hb12 HF12 hY hbb HF9 HF10 HF11
  go_wp2_with fail
  refine hc2.mono ?_
  rintro e w13 ⟨rfl, hb13⟩
  have HB13 := hide (HBB.out.trans (hb13.mono HBB.out.size))
  clear hc2 hb13
  go_wp2
  go_ret
  exact ⟨rfl, HB13.out⟩

end Wi
end Go.Proofs.Ytjbgojccfkmlnaa
