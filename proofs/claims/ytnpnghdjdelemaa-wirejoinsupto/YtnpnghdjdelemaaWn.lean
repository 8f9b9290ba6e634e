/- A part of the proofs about package wire: what its functions answer, call by call. -/
import Derived.Test.YtnpnghdjdelemaaWb
namespace Go.Proofs.Ytnpnghdjdelemaa
open Go.RowKit
namespace Wi

/-- A reader lies in block b: these bytes, where it stands, what is wrong. -/
structure InAt (w : World) (b : Nat) (s : ByteArray) (at_ : Nat) (e : Int) : Prop where
  blk : w.heap[b]? = some (.cells #[.int .i64 e, .string s, .int .i64 (at_ : Nat)] 64 (0, 0))
section
variable {w w' : World} {b at_ : Nat} {s : ByteArray} {e : Int}
theorem InAt.lt (h : InAt w b s at_ e) : b < w.heap.size := lt_of_block h.blk
theorem InAt.c0 (h : InAt w b s at_ e) : w.cell? ⟨b, 0, none⟩ = some (.int .i64 e) := by simp [World.cell?, h.blk]
theorem InAt.c1 (h : InAt w b s at_ e) : w.cell? ⟨b, 1, none⟩ = some (.string s) := by simp [World.cell?, h.blk]
theorem InAt.c2 (h : InAt w b s at_ e) : w.cell? ⟨b, 2, none⟩ = some (.int .i64 (at_ : Nat)) := by simp [World.cell?, h.blk]
theorem InAt.f0 (h : InAt w b s at_ e) : w.frozen? ⟨b, 0, none⟩ = false := frozen_of_row _ _ _ _ _ h.blk
theorem InAt.f2 (h : InAt w b s at_ e) : w.frozen? ⟨b, 2, none⟩ = false := frozen_of_row _ _ _ _ _ h.blk
theorem InAt.later (h : InAt w b s at_ e) (hb : Below w.heap.size w w') : InAt w' b s at_ e := ⟨(hb.block b h.lt).trans h.blk⟩
theorem InAt.setE (h : InAt w b s at_ e) (e' : Int) : InAt (w.setCell ⟨b, 0, none⟩ (.int .i64 e')) b s at_ e' := ⟨by rw [heap_setCell_same w b 0 _ 64 _ h.blk]; rfl⟩
theorem InAt.setA (h : InAt w b s at_ e) (a' : Nat) : InAt (w.setCell ⟨b, 2, none⟩ (.int .i64 (a' : Nat))) b s a' e := ⟨by rw [heap_setCell_same w b 2 _ 64 _ h.blk]; rfl⟩
end
/-- What a reader's call leaves. -/
structure Did (w : World) (b : Nat) (s : ByteArray) (at_ : Nat) (e : Int) (w' : World) : Prop where
  inn : InAt w' b s at_ e
  keep : Keep (fun k => k = b) w w'
section
variable {w w' w1 w2 : World} {b at_ a2 : Nat} {s : ByteArray} {e e2 : Int}
theorem Did.refl (h : InAt w b s at_ e) : Did w b s at_ e w := ⟨h, Keep.refl _ _⟩
theorem Did.trans (h : Did w b s at_ e w1) (k : Did w1 b s a2 e2 w2) : Did w b s a2 e2 w2 := ⟨k.inn, h.keep.trans k.keep fun _ _ x => x⟩
theorem Did.of_below (h : InAt w b s at_ e) (hb : Below w.heap.size w w') : Did w b s at_ e w' := ⟨h.later hb, Keep.of_below hb⟩
theorem Did.later (h : Did w b s at_ e w1) (hb : Below w1.heap.size w1 w2) : Did w b s at_ e w2 := h.trans (Did.of_below h.inn hb)
theorem Did.setE (h : Did w b s at_ e w1) (e' : Int) : Did w b s at_ e' (w1.setCell ⟨b, 0, none⟩ (.int .i64 e')) := ⟨h.inn.setE e', h.keep.trans (Keep.setCell (X := fun k => k = b) w1 _ _ rfl) fun _ _ x => x⟩
theorem Did.setA (h : Did w b s at_ e w1) (a' : Nat) : Did w b s a' e (w1.setCell ⟨b, 2, none⟩ (.int .i64 (a' : Nat))) := ⟨h.inn.setA a', h.keep.trans (Keep.setCell (X := fun k => k = b) w1 _ _ rfl) fun _ _ x => x⟩
theorem Did.below {B : Nat} (h : Did w b s at_ e w') (hB : B ≤ w.heap.size) (hb : B ≤ b) : Below B w w' := h.keep.below hB fun k hk x => by omega
end
theorem read_any (s : ByteArray) (w : World) : Calls Try.prog 17 #[.string s] w fun e w' => e = .returned (.pointer (some ⟨w.heap.size, 0, none⟩)) ∧ InAt w' w.heap.size s 0 0 ∧ Below w.heap.size w w' := by
  have hn := heap_alloc_new w (.cells #[.int .i64 0, .string s, .int .i64 0] 64)
  go_enter Try.func17, Try.ntmps17
  go_wp2
  go_ret
  exact ⟨rfl, ⟨hn⟩, below_alloc _ _⟩
theorem well_ok {b at_ : Nat} {s : ByteArray} {w : World} (h : InAt w b s at_ 0) : Calls Try.prog 44 #[.pointer (some ⟨b, 0, none⟩)] w fun e w' => e = .returned (.bool true) ∧ w' = w := by
  have c0 := h.c0
  go_enter Try.func44, Try.ntmps44
  go_wp2
  go_ret
  exact ⟨rfl, rfl⟩
theorem well_no {b at_ : Nat} {s : ByteArray} {w : World} {e : Int} (h : InAt w b s at_ e) (he : (e == 0) = false) : Calls Try.prog 44 #[.pointer (some ⟨b, 0, none⟩)] w fun e w' => e = .returned (.bool false) ∧ w' = w := by
  have c0 := h.c0
  go_enter Try.func44, Try.ntmps44
  go_wp2
  go_ret
  exact ⟨rfl, rfl⟩
theorem keep_ok {b at_ : Nat} {s : ByteArray} {w : World} (h : InAt w b s at_ 0) (x : Int) : Calls Try.prog 41 #[.pointer (some ⟨b, 0, none⟩), .int .i64 x] w fun e w' => e = .returned (.tuple #[]) ∧ w' = w.setCell ⟨b, 0, none⟩ (.int .i64 x) := by
  have c0 := h.c0
  have f0 := h.f0
  have hw := well_ok h
  go_enter Try.func41, Try.ntmps41
  go_wp2_with fail
  refine hw.mono ?_
  rintro e w' ⟨rfl, rfl⟩
  go_wp2
  go_end0
  exact ⟨rfl, rfl⟩
theorem keep_no {b at_ : Nat} {s : ByteArray} {w : World} {e : Int} (h : InAt w b s at_ e) (he : (e == 0) = false) (x : Int) : Calls Try.prog 41 #[.pointer (some ⟨b, 0, none⟩), .int .i64 x] w fun e w' => e = .returned (.tuple #[]) ∧ w' = w := by
  have hw := well_no h he
  go_enter Try.func41, Try.ntmps41
  go_wp2_with fail
  refine hw.mono ?_
  rintro e w' ⟨rfl, rfl⟩
  go_wp2
  go_end0
  exact ⟨rfl, rfl⟩
theorem ready_ok {b at_ : Nat} {s : ByteArray} {w : World} (h : InAt w b s at_ 0) : Calls Try.prog 39 #[.pointer (some ⟨b, 0, none⟩)] w fun e w' => e = .returned (.bool true) ∧ w' = w := by
  have hw := well_ok h
  go_enter Try.func39, Try.ntmps39
  go_wp2_with fail
  refine hw.mono ?_
  rintro e w' ⟨rfl, rfl⟩
  go_wp2
  go_ret
  exact ⟨rfl, rfl⟩
theorem ready_no {b at_ : Nat} {s : ByteArray} {w : World} {e : Int} (h : InAt w b s at_ e) (he : (e == 0) = false) : Calls Try.prog 39 #[.pointer (some ⟨b, 0, none⟩)] w fun e w' => e = .returned (.bool false) ∧ w' = w := by
  have hw := well_no h he
  go_enter Try.func39, Try.ntmps39
  go_wp2_with fail
  refine hw.mono ?_
  rintro e w' ⟨rfl, rfl⟩
  go_wp2
  go_ret
  exact ⟨rfl, rfl⟩
theorem ready_nil (w : World) : Calls Try.prog 39 #[.pointer none] w fun e w' => e = .returned (.bool false) ∧ w' = w := by
  go_enter Try.func39, Try.ntmps39
  go_wp2
  go_ret
  exact ⟨rfl, rfl⟩
theorem at_any {b at_ : Nat} {s : ByteArray} {w : World} {e : Int} (h : InAt w b s at_ e) : Calls Try.prog 20 #[.pointer (some ⟨b, 0, none⟩)] w fun e w' => e = .returned (.int .i64 (at_ : Nat)) ∧ w' = w := by
  have c2 := h.c2
  go_enter Try.func20, Try.ntmps20
  go_wp2
  go_ret
  exact ⟨rfl, rfl⟩
theorem at_nil (w : World) : Calls Try.prog 20 #[.pointer none] w fun e w' => e = .returned (.int .i64 0) ∧ w' = w := by
  go_enter Try.func20, Try.ntmps20
  go_wp2
  go_ret
  exact ⟨rfl, rfl⟩
theorem err_any {b at_ : Nat} {s : ByteArray} {w : World} {e : Int} (h : InAt w b s at_ e) : Calls Try.prog 22 #[.pointer (some ⟨b, 0, none⟩)] w fun e' w' => e' = .returned (.int .i64 e) ∧ w' = w := by
  have c0 := h.c0
  go_enter Try.func22, Try.ntmps22
  go_wp2
  go_ret
  exact ⟨rfl, rfl⟩
theorem err_nil (w : World) : Calls Try.prog 22 #[.pointer none] w fun e w' => e = .returned (.int .i64 2) ∧ w' = w := by
  go_enter Try.func22, Try.ntmps22
  go_wp2
  go_ret
  exact ⟨rfl, rfl⟩
theorem left_any {b at_ : Nat} {s : ByteArray} {w : World} {e : Int} (h : InAt w b s at_ e) (hs : s.size ≤ 9223372036854775807) (ha : at_ ≤ s.size) : Calls Try.prog 21 #[.pointer (some ⟨b, 0, none⟩)] w fun e w' => e = .returned (.int .i64 ((s.size : Int) - (at_ : Int))) ∧ Below w.heap.size w w' := by
  have c1 : ∀ p : Later w, p.val.cell? ⟨b, 1, none⟩ = some (.string s) := fun p => (h.later p.below).c1
  have c2 : ∀ p : Later w, p.val.cell? ⟨b, 2, none⟩ = some (.int .i64 (at_ : Nat)) := fun p => (h.later p.below).c2
  have hne := later_ne w
  go_enter Try.func21, Try.ntmps21
  go_wp2
  refine wp_region_later (by kernel_rfl) (by kernel_rfl) ?_
  (repeat (first | go_big_quiet_skip | (go_big_quiet_want; go_big_quiet_op; go_big_quiet_on)))
  refine wpQuiet_nil ?_
  rintro _ ⟨p, rfl⟩
  go_wp2
  go_ret
  exact ⟨rfl, p.below⟩
theorem left_nil (w : World) : Calls Try.prog 21 #[.pointer none] w fun e w' => e = .returned (.int .i64 0) ∧ w' = w := by
  go_enter Try.func21, Try.ntmps21
  go_wp2
  go_ret
  exact ⟨rfl, rfl⟩
theorem done_no {b at_ : Nat} {s : ByteArray} {w : World} {e : Int} (h : InAt w b s at_ e) (he : (e == 0) = false) : Calls Try.prog 23 #[.pointer (some ⟨b, 0, none⟩)] w fun e' w' => e' = .returned (.int .i64 e) ∧ Below w.heap.size w w' := by
  have hr := ready_no h he
  have hx := err_any h
  go_enter Try.func23, Try.ntmps23
  go_wp2_with fail
  refine hr.mono ?_
  rintro e w' ⟨rfl, rfl⟩
  go_wp2_with fail
  refine hx.mono ?_
  rintro e w' ⟨rfl, rfl⟩
  go_wp2
  go_ret
  exact ⟨rfl, Below.refl _ _⟩
theorem done_left {b at_ : Nat} {s : ByteArray} {w : World} (h : InAt w b s at_ 0) (hs : s.size ≤ 9223372036854775807) (ha : at_ < s.size) : Calls Try.prog 23 #[.pointer (some ⟨b, 0, none⟩)] w fun e' w' => e' = .returned (.int .i64 11) ∧ Below w.heap.size w w' := by
  have hr := ready_ok h
  have hl := left_any h hs (by omega)
  go_enter Try.func23, Try.ntmps23
  go_wp2_with fail
  refine hr.mono ?_
  rintro e w' ⟨rfl, rfl⟩
  go_wp2_with fail
  refine hl.mono ?_
  rintro e w2 ⟨rfl, hb⟩
  go_wp2
  go_ret
  exact ⟨rfl, hb⟩
theorem done_all {b : Nat} {s : ByteArray} {w : World} (h : InAt w b s s.size 0) (hs : s.size ≤ 9223372036854775807) : Calls Try.prog 23 #[.pointer (some ⟨b, 0, none⟩)] w fun e' w' => e' = .returned (.int .i64 0) ∧ Below w.heap.size w w' := by
  have hr := ready_ok h
  have hl := left_any h hs (by omega)
  rw [Int.sub_self] at hl
  go_enter Try.func23, Try.ntmps23
  go_wp2_with fail
  refine hr.mono ?_
  rintro e w' ⟨rfl, rfl⟩
  go_wp2_with fail
  refine hl.mono ?_
  rintro e w2 ⟨rfl, hb⟩
  go_wp2_with fail
  refine (err_any (h.later hb)).mono ?_
  rintro e w' ⟨rfl, rfl⟩
  go_wp2
  go_ret
  exact ⟨rfl, hb⟩
theorem done_nil (w : World) : Calls Try.prog 23 #[.pointer none] w fun e' w' => e' = .returned (.int .i64 2) ∧ w' = w := by
  have hr := ready_nil w
  have hx := err_nil w
  go_enter Try.func23, Try.ntmps23
  go_wp2_with fail
  refine hr.mono ?_
  rintro e w' ⟨rfl, rfl⟩
  go_wp2_with fail
  refine hx.mono ?_
  rintro e w' ⟨rfl, rfl⟩
  go_wp2
  go_ret
  exact ⟨rfl, rfl⟩

end Wi
end Go.Proofs.Ytnpnghdjdelemaa
