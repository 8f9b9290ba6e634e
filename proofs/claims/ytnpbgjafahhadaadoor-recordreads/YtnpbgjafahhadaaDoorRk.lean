/- How many sectors a record has, and which. -/
import Derived.Test.YtnpbgjafahhadaaDoorRj
import Derived.Test.YtnpbgjafahhadaaDoorRp
namespace Go.Proofs.YtnpbgjafahhadaaDoor
open Go.RowKit
namespace Re
open Cr
open Su
/-- A record's bytes: its head, and its data. -/
def enc (r : Rc) : ByteArray := str (hdB (body r (more 0 (bs r.da)))) ++ r.da
/-- How many sectors a record has. -/
def sizeR (r : Rc) : Int := if chk r = 0 then ((hn (body r 0).length : Nat) : Int) + need r else 0
def encR (r : Rc) : ByteArray := if chk r = 0 then enc r else ⟨#[]⟩
theorem more_lt' (l : List Nat) : more 0 l < 4294967296 := more_lt 0 l
/-- A slice of one string in new memory. -/
def sOne (s : ByteArray) : Su.Spec := ⟨fun v w => ∃ g, v = .slice (some ⟨g, 0, none⟩) 1 1 ∧ g < w.heap.size ∧ Ss w (some ⟨g, 0, none⟩) 1 [s], fun _ _ _ ⟨g, h1, h2, h3⟩ hb => ⟨g, h1, Nat.lt_of_lt_of_le h2 hb.size, h3.later hb⟩⟩
set_option maxHeartbeats 4000000 in
set_option maxRecDepth 20000 in
theorem size_rec_any (ep nu ki : Int) (a : Option Addr) (n cap : Nat) (xs : List (Int × Int)) (da tx : ByteArray) (w : World) (T : Tab w) (h : Sl w a n xs) (ht : tx.size ≤ 9223372036854775807) (hd : da.size ≤ 9223372036854775807) :
    Calls Tryd.prog 15 #[.agg #[.int .i64 ep, .int .i64 nu, .int .i64 ki, .slice a n cap, .string da, .string tx]] w fun e w' => e = .returned (.int .i64 (sizeR ⟨ep, nu, ki, xs, da, tx⟩)) ∧ Below w.heap.size w w' := by
  by_cases hz : chk ⟨ep, nu, ki, xs, da, tx⟩ = 0
  · skip
    have hh := chk_head hz
    have hdt := chk_data hz
    simp only at hdt
    have hnl := need_le hh
    have e1 : Hid (sizeR ⟨ep, nu, ki, xs, da, tx⟩ = ((hn (body ⟨ep, nu, ki, xs, da, tx⟩ 0).length : Nat) : Int) + need ⟨ep, nu, ki, xs, da, tx⟩) := if_pos hz
    have hcl := fun w T (h : Sl w a n xs) => tellHead_any ep nu ki a n cap xs da tx 0 w T h hh (by omega)
    have hHs : (str (hdB (body ⟨ep, nu, ki, xs, da, tx⟩ 0))).size = 64 * hn (body ⟨ep, nu, ki, xs, da, tx⟩ 0).length := by rw [str_size, hdB_length]
    have hHn := body_hn hh 0
    obtain ⟨XF, hXF⟩ : ∃ X, Hid (X = sizeR ⟨ep, nu, ki, xs, da, tx⟩) := ⟨_, rfl⟩
    rw [← hXF.out]
    replace e1 : Hid (XF = ((hn (body ⟨ep, nu, ki, xs, da, tx⟩ 0).length : Nat) : Int) + need ⟨ep, nu, ki, xs, da, tx⟩) := hXF.out.trans e1.out
    clear hXF
    generalize str (hdB (body ⟨ep, nu, ki, xs, da, tx⟩ 0)) = H at *
    generalize hn (body ⟨ep, nu, ki, xs, da, tx⟩ 0).length = k at *
    generalize need ⟨ep, nu, ki, xs, da, tx⟩ = d at *
    have hc := fun w (h : Sl w a n xs) => check_any ep nu ki a n cap xs da tx w h ht hd
    have hS := h.later (below_alloc w (.cells #[.int .i64 ep, .int .i64 nu, .int .i64 ki, .slice a n cap, .string da, .string tx] 24))
    rw [hz] at hc
    go_enter Tryd.func15, Tryd.ntmps15
    go_wp2_with fail
    refine (hc _ hS).mono ?_
    rintro e w1 ⟨rfl, b1⟩
    have BB := (below_alloc w _).trans (b1.mono (by simp))
    have X0 := (boxR w ep nu ki (.slice a n cap) da tx 24).later (b1.mono (by simp))
    have hS1 := hS.later b1
    have T1 := T.later BB
    clear hc hS b1 h
    obtain ⟨d1, d2, _⟩ := hnl
    obtain ⟨d, rfl⟩ := Int.eq_ofNat_of_zero_le d1
    have hda : da.size = d * 64 := by omega
    have hsec : ∀ w, Calls Tryd.prog 30 #[.int .i64 ((H.size : Int) + (da.size : Int))] w fun e w' => e = .returned (.int .i64 XF) ∧ w' = w := fun w => by
      have h := sectors_any (H.size + da.size) (by omega) w
      rw [e1.out]
      rw [show (H.size + da.size + 63) / 64 = k + d by omega, show (((H.size + da.size : Nat)) : Int) = (H.size : Int) + (da.size : Int) by omega] at h
      exact h
    have hsec2 := fun w => same_b (hsec w)
    have hbd : H.size ≤ 100000 ∧ da.size ≤ 100000 := by omega
    obtain ⟨hbd1, hbd2⟩ := hbd
    have q0 : ∀ p : Later (w1), p.val.cell? ⟨w.heap.size, 0, none⟩ = some (.int .i64 ep) := fun p => (X0.later (p.below.mono X0.lt)).c0
    have q1 : ∀ p : Later (w1), p.val.cell? ⟨w.heap.size, 1, none⟩ = some (.int .i64 nu) := fun p => (X0.later (p.below.mono X0.lt)).c1
    have q2 : ∀ p : Later (w1), p.val.cell? ⟨w.heap.size, 2, none⟩ = some (.int .i64 ki) := fun p => (X0.later (p.below.mono X0.lt)).c2
    have q3 : ∀ p : Later (w1), p.val.cell? ⟨w.heap.size, 3, none⟩ = some (.slice a n cap) := fun p => (X0.later (p.below.mono X0.lt)).c3
    have q4 : ∀ p : Later (w1), p.val.cell? ⟨w.heap.size, 4, none⟩ = some (.string da) := fun p => (X0.later (p.below.mono X0.lt)).c4
    have q5 : ∀ p : Later (w1), p.val.cell? ⟨w.heap.size, 5, none⟩ = some (.string tx) := fun p => (X0.later (p.below.mono X0.lt)).c5
    have hne := later_ne w1
    clear X0 hz hh hHs hda hdt
    go_wp2
    refine wp_region_later (by kernel_rfl) (by kernel_rfl) ?_
    (repeat (first | go_big_quiet_skip | (go_big_quiet_want; go_big_quiet_op; go_big_quiet_on)))
    (go_big_quiet_want; go_big_quiet_op; apply Exists.intro; refine ⟨fun p => ?_, ?_⟩; (· exact later_of (hcl p.val (T1.later p.below) (hS1.later p.below))); go_big_quiet_on)
    (repeat (first | go_big_quiet_skip | (go_big_quiet_want; go_big_quiet_op; go_big_quiet_on)))
    (go_big_quiet_want; go_big_quiet_op; apply Exists.intro; refine ⟨fun p => ?_, ?_⟩; (· exact later_of (hsec2 p.val)); go_big_quiet_on)
    (repeat (first | go_big_quiet_skip | (go_big_quiet_want; go_big_quiet_op; go_big_quiet_on)))
    refine wpQuiet_nil ?_
    rintro _ ⟨p, rfl⟩
    have BF := BB.trans (p.below.mono BB.size)
    clear hcl hsec hsec2 q0 q1 q2 q3 q4 q5 hne
    go_wp2
    go_ret
    exact ⟨rfl, BF⟩
  · skip
    have e1 : sizeR ⟨ep, nu, ki, xs, da, tx⟩ = 0 := if_neg hz
    rw [e1]
    have hc := fun w (h : Sl w a n xs) => check_any ep nu ki a n cap xs da tx w h ht hd
    have hS := h.later (below_alloc w (.cells #[.int .i64 ep, .int .i64 nu, .int .i64 ki, .slice a n cap, .string da, .string tx] 24))
    clear e1
    generalize chk ⟨ep, nu, ki, xs, da, tx⟩ = c at *
    go_enter Tryd.func15, Tryd.ntmps15
    go_wp2_with fail
    refine (hc _ hS).mono ?_
    rintro e w1 ⟨rfl, b1⟩
    have BB := (below_alloc w _).trans (b1.mono (by simp))
    clear hc hS b1
    go_wp2
    go_ret
    exact ⟨rfl, BB⟩
end Re
end Go.Proofs.YtnpbgjafahhadaaDoor
