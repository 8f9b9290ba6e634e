/- A head, told. -/
import Derived.Test.YtnpbgjafahhadaaDoorRg
import Derived.Test.YtnpbgjafahhadaaDoorQw
namespace Go.Proofs.YtnpbgjafahhadaaDoor
open Go.RowKit
namespace Re
open Cr
theorem sl_off {w : World} {a : Option Addr} {n b : Nat} {v : Value} {xs : List (Int × Int)} (h : Sl w a n xs) (h1 : 1 ≤ n) (hb : w.heap.size ≤ b) (hv : From w.heap.size v) : Off a b v := by
  intro ad e x
  obtain ⟨g, off, ha, hg, _⟩ := h.cells 0 (by have := h.len; omega)
  rw [ha] at e
  simp only [Option.some.injEq] at e
  subst e
  rcases x with x | x
  · simp only at x; omega
  · have := hv _ x; simp only at this; omega
set_option maxHeartbeats 4000000 in
set_option maxRecDepth 20000 in
theorem tellHead_core50 (ep nu ki : Nat) (a : Option Addr) (n cap : Nat) (xs : List (Int × Int)) (da tx : ByteArray) (sum : Nat) (w : World) (T : Tab w) (hS : Sl w a n xs) (h1 : ep < 4294967296) (h2 : nu < 1099511627776) (h3 : ki < 4) (K : List Nat) (hK : K.length ≤ 5000) (hby : ∀ b ∈ vr ep ++ (vr nu ++ (vr ki ++ K)), b < 256) (u0 u1 u3 : Value)
    (hnd : ∀ w, Calls Tryd.prog 29 #[.int .i64 (ki : Int)] w fun e w' => e = .returned (.agg #[u0, u1, .func (.func 50) #[] #[], u3]) ∧ Below w.heap.size w w')
    (hcl : ∀ b v l w, OutAt w b v l → Sl w a n xs → (1 ≤ n → Off a b v) → l.length ≤ 1000 → Calls Tryd.prog 50 #[.pointer (some ⟨b, 0, none⟩), .agg #[.int .i64 (ep : Int), .int .i64 (nu : Int), .int .i64 (ki : Int), .slice a n cap, .string da, .string tx, .int .u32 (sum : Nat)]] w fun e w' => e = .returned (.tuple #[]) ∧ ∃ v', Wrote w b v (l ++ K) w' v') :
    Calls Tryd.prog 26 #[.agg #[.int .i64 (ep : Int), .int .i64 (nu : Int), .int .i64 (ki : Int), .slice a n cap, .string da, .string tx, .int .u32 (sum : Nat)]] w fun e w' => e = .returned (.string (str (hdB (vr ep ++ (vr nu ++ (vr ki ++ K)))))) ∧ Below w.heap.size w w' := by
  obtain ⟨XF, hXF⟩ : ∃ X, Hid (X = str (hdB (vr ep ++ (vr nu ++ (vr ki ++ K))))) := ⟨_, rfl⟩
  rw [← hXF.out]
  have X0 := boxH w ep nu ki (.slice a n cap) da tx sum
  have hz1 : Hid ((w.alloc (.cells #[.int .i64 (ep : Int), .int .i64 (nu : Int), .int .i64 (ki : Int), .slice a n cap, .string da, .string tx, .int .u32 (sum : Nat)] 61)).heap.size = w.heap.size + 1) := by simp [Hid]
  have B1 := below_alloc w (.cells #[.int .i64 (ep : Int), .int .i64 (nu : Int), .int .i64 (ki : Int), .slice a n cap, .string da, .string tx, .int .u32 (sum : Nat)] 61)
  generalize hW1 : w.alloc (.cells #[.int .i64 (ep : Int), .int .i64 (nu : Int), .int .i64 (ki : Int), .slice a n cap, .string da, .string tx, .int .u32 (sum : Nat)] 61) = W1 at *
  have B2 := below_alloc W1 (.cells #[.slice none 0 0] 82)
  have O0 := OutAt.new W1
  have X2 := X0.later (B2.mono (by have := hz1.out; omega))
  have hz2 : Hid ((W1.alloc (.cells #[.slice none 0 0] 82)).heap.size = W1.heap.size + 1) := by simp [Hid]
  generalize hW2 : W1.alloc (.cells #[.slice none 0 0] 82) = W2 at *
  have BB := B1.trans (B2.mono (by have := hz1.out; omega))
  have c0 := X2.r.c0
  have c1 := X2.r.c1
  have c2 := X2.r.c2
  have hv3 := var_three W1.heap.size (.slice none 0 0) [] ep nu ki (by omega) (by omega) (by omega) W2 O0 (by simp)
  have hF2 := hide (fun w => fld2 u0 u1 (.func (.func 50) #[] #[]) u3 w)
  clear X0 B1 B2
  go_enter Tryd.func26, Tryd.ntmps26
  go_wp2_with fail
  refine hv3.mono ?_
  rintro e w3 ⟨rfl, v3, hw3⟩
  have X3 := X2.keep hw3.keep (by
    intro x
    rcases x with x | x
    · have := hz1.out; omega
    · simp [Value.ownBlock] at x)
  have hb3 := hw3.below (B := w.heap.size) BB.size (by have := hz1.out; omega) (From.nil _ _ _)
  obtain ⟨hb3, hv3'⟩ := hb3
  have BB3 := BB.trans hb3
  have hS3 := hS.later BB3
  have hO3 := hw3.out
  clear hv3 c0 c1 c2 X2 hW1 hW2
  have q0 : ∀ p : Later (w3), p.val.cell? ⟨w.heap.size, 0, none⟩ = some (.int .i64 (ep : Int)) := fun p => (X3.later (p.below.mono X3.r.lt)).r.c0
  have q1 : ∀ p : Later (w3), p.val.cell? ⟨w.heap.size, 1, none⟩ = some (.int .i64 (nu : Int)) := fun p => (X3.later (p.below.mono X3.r.lt)).r.c1
  have q2 : ∀ p : Later (w3), p.val.cell? ⟨w.heap.size, 2, none⟩ = some (.int .i64 (ki : Int)) := fun p => (X3.later (p.below.mono X3.r.lt)).r.c2
  have q3 : ∀ p : Later (w3), p.val.cell? ⟨w.heap.size, 3, none⟩ = some (.slice a n cap) := fun p => (X3.later (p.below.mono X3.r.lt)).r.c3
  have q4 : ∀ p : Later (w3), p.val.cell? ⟨w.heap.size, 4, none⟩ = some (.string da) := fun p => (X3.later (p.below.mono X3.r.lt)).r.c4
  have q5 : ∀ p : Later (w3), p.val.cell? ⟨w.heap.size, 5, none⟩ = some (.string tx) := fun p => (X3.later (p.below.mono X3.r.lt)).r.c5
  have q6 : ∀ p : Later (w3), p.val.cell? ⟨w.heap.size, 6, none⟩ = some (.int .u32 (sum : Nat)) := fun p => (X3.later (p.below.mono X3.r.lt)).c6
  have hne := later_ne w3
  have hfi := hF2.out
  have ho3 : 1 ≤ n → Off a W1.heap.size v3 := fun hn => sl_off hS hn (by have := hz1.out; omega) hv3'
  go_wp2
  refine wp_region_later_tail 6 (by kernel_rfl) (by kernel_rfl) ?_
  simp only [List.take, List.drop]
  (repeat (first | go_big_quiet_skip | (go_big_quiet_want; go_big_quiet_op; go_big_quiet_on)))
  (go_big_quiet_want; go_big_quiet_op; apply Exists.intro; refine ⟨fun p => ?_, ?_⟩; (· exact later_of (hnd p.val)); go_big_quiet_on)
  (repeat (first | go_big_quiet_skip | (go_big_quiet_want; go_big_quiet_op; go_big_quiet_on)))
  refine wpQuiet_nil ?_
  rintro _ ⟨p, rfl⟩
  have hC := hcl W1.heap.size v3 _ p.val (hO3.later p.below) (hS3.later p.below) ho3 (by
    have e1 := vr_len9 ep
    have e2 := vr_len9 nu
    have e3 := vr_len9 ki
    simp only [List.nil_append, List.length_append]
    omega)
  clear q0 q1 q2 q3 q4 q5 q6 hne hfi
  go_wp2_with fail
  refine hC.mono ?_
  rintro e w4 ⟨rfl, v4, hw4⟩
  have hb4 := hw4.below (B := w.heap.size) (BB3.trans (p.below.mono BB3.size)).size (by have := hz1.out; omega) hv3'
  obtain ⟨hb4, _⟩ := hb4
  have BB4 := (BB3.trans (p.below.mono BB3.size)).trans hb4
  have T4 := T.later BB4
  have O4 := hw4.out
  have HLL : [] ++ (vr ep ++ (vr nu ++ vr ki)) ++ K = vr ep ++ (vr nu ++ (vr ki ++ K)) := by simp
  rw [HLL] at O4
  have hll : (vr ep ++ (vr nu ++ (vr ki ++ K))).length ≤ 6000 := by
    have e1 := vr_len9 ep
    have e2 := vr_len9 nu
    have e3 := vr_len9 ki
    simp only [List.length_append]
    omega
  clear hw4 hC hcl hnd hb4 BB3 BB X3 hw3 hb3 hv3' hS3 hO3 ho3 HLL hS T hF2 O0
  generalize vr ep ++ (vr nu ++ (vr ki ++ K)) = L at *
  have hst := string_any W1.heap.size v4 L w4 O4
  have hSL : Hid (bs (str L) = L) := bs_str hby
  have hSz : (str L).size ≤ 6000 := by rw [str_size]; exact hll
  have hSn : Hid ((str L).size = L.length) := str_size L
  have hfin : Hid (hdU L = [76, 82] ++ (be (hn (str L).size) 2 ++ (bs (str L) ++ List.replicate (64 * hn (str L).size - (8 + (str L).size)) 0))) := by rw [hSL.out, hSn.out]; rfl
  have hby2 : ∀ b ∈ hdU L, b < 256 := by
    intro b hb
    simp only [hdU, List.mem_append, List.mem_cons, List.not_mem_nil, or_false] at hb
    rcases hb with hb | hb | hb | hb
    · omega
    · exact be_lt _ _ b hb
    · exact hby b hb
    · rw [(List.mem_replicate.1 hb).2]; omega
  have hres : Hid (str (hdB L) = str (hdU L) ++ str (four (more 0 (bs (str (hdU L)))))) := by
    show _ = _
    rw [bs_str hby2, ← str_append]
    rfl
  have hUl : (hdU L).length ≤ 10000 := by
    rw [hdU_length]
    have := hn_le L.length
    omega
  have hXR : Hid (XF = str (hdU L) ++ str (four (more 0 (bs (str (hdU L)))))) := hXF.out.trans hres.out
  clear hSL hres hby hby2 hXF
  generalize str L = S at *
  have hk := hn_le S.size
  have HK : Hid ((S.size + 8 + 63) / 64 = hn S.size) := by unfold hn; show _ = _; omega
  generalize hn S.size = k at *
  clear hll hSn
  have hsec : ∀ w, Calls Tryd.prog 30 #[.int .i64 (4 + (S.size : Int) + 4)] w fun e w' => e = .returned (.int .i64 (k : Int)) ∧ w' = w := fun w => by
    have h := sectors_any (S.size + 8) (by omega) w
    rw [HK.out, show (((S.size + 8 : Nat)) : Int) = 4 + (S.size : Int) + 4 by omega] at h
    exact h
  obtain ⟨k1, k2, k3⟩ := hk
  go_wp2_with fail
  refine hst.mono ?_
  rintro e w5 ⟨rfl, rfl⟩
  clear hst
  go_wp2_with fail
  refine (hsec _).mono ?_
  rintro e w4 ⟨rfl, rfl⟩
  have O5 := OutAt.new w4
  have B5 := below_alloc w4 (.cells #[.slice none 0 0] 82)
  have hr1 := raw_one w4.heap.size (.slice none 0 0) [] ⟨#[76, 82]⟩ (by show 2 ≤ _; omega) _ O5 (by show 0 + 2 ≤ _; omega)
  simp only [World.size_alloc] at hr1
  have hB4 := BB4.size
  clear hsec O4 HK
  go_wp2_with fail
  refine hr1.mono ?_
  rintro e w6 ⟨rfl, v6, hw6⟩
  have hb6 := hw6.below (B := w4.heap.size) B5.size (by omega) (From.nil _ _ _)
  have BB6 := BB4.trans ((B5.trans hb6.1).mono BB4.size)
  have hfx := fixed_any w4.heap.size v6 ([] ++ bs ⟨#[76, 82]⟩) k 2 (by omega) (by omega) w6 hw6.out (by show 2 ≤ _; omega)
  clear hr1 O5
  go_wp2_with fail
  refine hfx.mono ?_
  rintro e w7 ⟨rfl, v7, hw7⟩
  have hb7 := hw7.below (B := w4.heap.size) (B5.trans hb6.1).size (by omega) hb6.2
  have BB7 := BB6.trans (hb7.1.mono BB4.size)
  have B5' := (B5.trans hb6.1).trans hb7.1
  have hzz : ∀ w, Calls Tryd.prog 45 #[.string ⟨#[0]⟩, .int .i64 ((k : Int) * 64 - (4 + (S.size : Int) + 4))] w fun e w' => e = .returned (.string (str (List.replicate (64 * k - (8 + S.size)) 0))) ∧ Below w.heap.size w w' := fun w => by
    have h := zeros_any (64 * k - (8 + S.size)) (by omega) w
    rw [show (((64 * k - (8 + S.size) : Nat)) : Int) = (k : Int) * 64 - (4 + (S.size : Int) + 4) by omega] at h
    exact h
  clear hfx hw6 B5
  have hbz : Hid (bs (str (List.replicate (64 * k - (8 + S.size)) 0)) = List.replicate (64 * k - (8 + S.size)) 0) := bs_str (by intro b hb; rw [(List.mem_replicate.1 hb).2]; omega)
  have hzs : (str (List.replicate (64 * k - (8 + S.size)) 0)).size ≤ 100 := by rw [str_size, List.length_replicate]; omega
  generalize hZ : str (List.replicate (64 * k - (8 + S.size)) 0) = Z at *
  clear hZ
  go_wp2_with fail
  refine (hzz _).mono ?_
  rintro e w8 ⟨rfl, b8⟩
  have BB4' := B5'.trans (b8.mono B5'.size)
  have BB8 := BB7.trans (b8.mono BB7.size)
  have O8 := hw7.out.later b8
  have hr2 := raw_two w4.heap.size v7 ([] ++ bs ⟨#[76, 82]⟩ ++ fixW k 2) S Z (by omega) (by omega) w8 O8 (by
    rw [fixW, if_pos (by omega)]
    show (2 + (be k 2).length) + S.size + Z.size ≤ _
    rw [be_length]
    omega)
  have hw8s := b8.size
  clear hzz hw7
  go_wp2_with fail
  refine hr2.mono ?_
  rintro e w9 ⟨rfl, v9, hw9⟩
  have hb9 := hw9.below (B := w4.heap.size) ((B5'.trans (b8.mono B5'.size)).size) (by omega) hb7.2
  have BB9 := BB8.trans (hb9.1.mono BB4.size)
  have T9 := T4.later (BB4'.trans hb9.1)
  have hfu : Hid ([] ++ bs ⟨#[76, 82]⟩ ++ fixW k 2 ++ (bs S ++ bs Z) = hdU L) := by
    show _ = _
    rw [hfin.out, hbz.out, fixW, if_pos (by omega)]
    rfl
  have O9 := hw9.out
  rw [hfu.out] at O9
  have hst := string_any w4.heap.size v9 (hdU L) w9 O9
  have hsb : (str (hdU L)).size ≤ 1000000 := by rw [str_size]; omega
  clear hr2 hw9 O8
  clear hfin hfu hUl
  generalize str (hdU L) = U at *
  have hse := seal_big U hsb w9 T9
  generalize U ++ str (four (more 0 (bs U))) = Y at *
  go_wp2_with fail
  refine hst.mono ?_
  rintro e w10 ⟨rfl, rfl⟩
  clear hst
  go_wp2_with fail
  refine hse.mono ?_
  rintro e w11 ⟨rfl, b11⟩
  have BF := BB9.trans (b11.mono BB9.size)
  clear hse
  go_wp2
  go_ret
  exact ⟨ret_str hXR.out.symm, BF⟩
set_option maxHeartbeats 4000000 in
set_option maxRecDepth 20000 in
theorem tellHead_core54 (ep nu ki : Nat) (a : Option Addr) (n cap : Nat) (xs : List (Int × Int)) (da tx : ByteArray) (sum : Nat) (w : World) (T : Tab w) (hS : Sl w a n xs) (h1 : ep < 4294967296) (h2 : nu < 1099511627776) (h3 : ki < 4) (K : List Nat) (hK : K.length ≤ 5000) (hby : ∀ b ∈ vr ep ++ (vr nu ++ (vr ki ++ K)), b < 256) (u0 u1 u3 : Value)
    (hnd : ∀ w, Calls Tryd.prog 29 #[.int .i64 (ki : Int)] w fun e w' => e = .returned (.agg #[u0, u1, .func (.func 54) #[] #[], u3]) ∧ Below w.heap.size w w')
    (hcl : ∀ b v l w, OutAt w b v l → Sl w a n xs → (1 ≤ n → Off a b v) → l.length ≤ 1000 → Calls Tryd.prog 54 #[.pointer (some ⟨b, 0, none⟩), .agg #[.int .i64 (ep : Int), .int .i64 (nu : Int), .int .i64 (ki : Int), .slice a n cap, .string da, .string tx, .int .u32 (sum : Nat)]] w fun e w' => e = .returned (.tuple #[]) ∧ ∃ v', Wrote w b v (l ++ K) w' v') :
    Calls Tryd.prog 26 #[.agg #[.int .i64 (ep : Int), .int .i64 (nu : Int), .int .i64 (ki : Int), .slice a n cap, .string da, .string tx, .int .u32 (sum : Nat)]] w fun e w' => e = .returned (.string (str (hdB (vr ep ++ (vr nu ++ (vr ki ++ K)))))) ∧ Below w.heap.size w w' := by
  obtain ⟨XF, hXF⟩ : ∃ X, Hid (X = str (hdB (vr ep ++ (vr nu ++ (vr ki ++ K))))) := ⟨_, rfl⟩
  rw [← hXF.out]
  have X0 := boxH w ep nu ki (.slice a n cap) da tx sum
  have hz1 : Hid ((w.alloc (.cells #[.int .i64 (ep : Int), .int .i64 (nu : Int), .int .i64 (ki : Int), .slice a n cap, .string da, .string tx, .int .u32 (sum : Nat)] 61)).heap.size = w.heap.size + 1) := by simp [Hid]
  have B1 := below_alloc w (.cells #[.int .i64 (ep : Int), .int .i64 (nu : Int), .int .i64 (ki : Int), .slice a n cap, .string da, .string tx, .int .u32 (sum : Nat)] 61)
  generalize hW1 : w.alloc (.cells #[.int .i64 (ep : Int), .int .i64 (nu : Int), .int .i64 (ki : Int), .slice a n cap, .string da, .string tx, .int .u32 (sum : Nat)] 61) = W1 at *
  have B2 := below_alloc W1 (.cells #[.slice none 0 0] 82)
  have O0 := OutAt.new W1
  have X2 := X0.later (B2.mono (by have := hz1.out; omega))
  have hz2 : Hid ((W1.alloc (.cells #[.slice none 0 0] 82)).heap.size = W1.heap.size + 1) := by simp [Hid]
  generalize hW2 : W1.alloc (.cells #[.slice none 0 0] 82) = W2 at *
  have BB := B1.trans (B2.mono (by have := hz1.out; omega))
  have c0 := X2.r.c0
  have c1 := X2.r.c1
  have c2 := X2.r.c2
  have hv3 := var_three W1.heap.size (.slice none 0 0) [] ep nu ki (by omega) (by omega) (by omega) W2 O0 (by simp)
  have hF2 := hide (fun w => fld2 u0 u1 (.func (.func 54) #[] #[]) u3 w)
  clear X0 B1 B2
  go_enter Tryd.func26, Tryd.ntmps26
  go_wp2_with fail
  refine hv3.mono ?_
  rintro e w3 ⟨rfl, v3, hw3⟩
  have X3 := X2.keep hw3.keep (by
    intro x
    rcases x with x | x
    · have := hz1.out; omega
    · simp [Value.ownBlock] at x)
  have hb3 := hw3.below (B := w.heap.size) BB.size (by have := hz1.out; omega) (From.nil _ _ _)
  obtain ⟨hb3, hv3'⟩ := hb3
  have BB3 := BB.trans hb3
  have hS3 := hS.later BB3
  have hO3 := hw3.out
  clear hv3 c0 c1 c2 X2 hW1 hW2
  have q0 : ∀ p : Later (w3), p.val.cell? ⟨w.heap.size, 0, none⟩ = some (.int .i64 (ep : Int)) := fun p => (X3.later (p.below.mono X3.r.lt)).r.c0
  have q1 : ∀ p : Later (w3), p.val.cell? ⟨w.heap.size, 1, none⟩ = some (.int .i64 (nu : Int)) := fun p => (X3.later (p.below.mono X3.r.lt)).r.c1
  have q2 : ∀ p : Later (w3), p.val.cell? ⟨w.heap.size, 2, none⟩ = some (.int .i64 (ki : Int)) := fun p => (X3.later (p.below.mono X3.r.lt)).r.c2
  have q3 : ∀ p : Later (w3), p.val.cell? ⟨w.heap.size, 3, none⟩ = some (.slice a n cap) := fun p => (X3.later (p.below.mono X3.r.lt)).r.c3
  have q4 : ∀ p : Later (w3), p.val.cell? ⟨w.heap.size, 4, none⟩ = some (.string da) := fun p => (X3.later (p.below.mono X3.r.lt)).r.c4
  have q5 : ∀ p : Later (w3), p.val.cell? ⟨w.heap.size, 5, none⟩ = some (.string tx) := fun p => (X3.later (p.below.mono X3.r.lt)).r.c5
  have q6 : ∀ p : Later (w3), p.val.cell? ⟨w.heap.size, 6, none⟩ = some (.int .u32 (sum : Nat)) := fun p => (X3.later (p.below.mono X3.r.lt)).c6
  have hne := later_ne w3
  have hfi := hF2.out
  have ho3 : 1 ≤ n → Off a W1.heap.size v3 := fun hn => sl_off hS hn (by have := hz1.out; omega) hv3'
  go_wp2
  refine wp_region_later_tail 6 (by kernel_rfl) (by kernel_rfl) ?_
  simp only [List.take, List.drop]
  (repeat (first | go_big_quiet_skip | (go_big_quiet_want; go_big_quiet_op; go_big_quiet_on)))
  (go_big_quiet_want; go_big_quiet_op; apply Exists.intro; refine ⟨fun p => ?_, ?_⟩; (· exact later_of (hnd p.val)); go_big_quiet_on)
  (repeat (first | go_big_quiet_skip | (go_big_quiet_want; go_big_quiet_op; go_big_quiet_on)))
  refine wpQuiet_nil ?_
  rintro _ ⟨p, rfl⟩
  have hC := hcl W1.heap.size v3 _ p.val (hO3.later p.below) (hS3.later p.below) ho3 (by
    have e1 := vr_len9 ep
    have e2 := vr_len9 nu
    have e3 := vr_len9 ki
    simp only [List.nil_append, List.length_append]
    omega)
  clear q0 q1 q2 q3 q4 q5 q6 hne hfi
  go_wp2_with fail
  refine hC.mono ?_
  rintro e w4 ⟨rfl, v4, hw4⟩
  have hb4 := hw4.below (B := w.heap.size) (BB3.trans (p.below.mono BB3.size)).size (by have := hz1.out; omega) hv3'
  obtain ⟨hb4, _⟩ := hb4
  have BB4 := (BB3.trans (p.below.mono BB3.size)).trans hb4
  have T4 := T.later BB4
  have O4 := hw4.out
  have HLL : [] ++ (vr ep ++ (vr nu ++ vr ki)) ++ K = vr ep ++ (vr nu ++ (vr ki ++ K)) := by simp
  rw [HLL] at O4
  have hll : (vr ep ++ (vr nu ++ (vr ki ++ K))).length ≤ 6000 := by
    have e1 := vr_len9 ep
    have e2 := vr_len9 nu
    have e3 := vr_len9 ki
    simp only [List.length_append]
    omega
  clear hw4 hC hcl hnd hb4 BB3 BB X3 hw3 hb3 hv3' hS3 hO3 ho3 HLL hS T hF2 O0
  generalize vr ep ++ (vr nu ++ (vr ki ++ K)) = L at *
  have hst := string_any W1.heap.size v4 L w4 O4
  have hSL : Hid (bs (str L) = L) := bs_str hby
  have hSz : (str L).size ≤ 6000 := by rw [str_size]; exact hll
  have hSn : Hid ((str L).size = L.length) := str_size L
  have hfin : Hid (hdU L = [76, 82] ++ (be (hn (str L).size) 2 ++ (bs (str L) ++ List.replicate (64 * hn (str L).size - (8 + (str L).size)) 0))) := by rw [hSL.out, hSn.out]; rfl
  have hby2 : ∀ b ∈ hdU L, b < 256 := by
    intro b hb
    simp only [hdU, List.mem_append, List.mem_cons, List.not_mem_nil, or_false] at hb
    rcases hb with hb | hb | hb | hb
    · omega
    · exact be_lt _ _ b hb
    · exact hby b hb
    · rw [(List.mem_replicate.1 hb).2]; omega
  have hres : Hid (str (hdB L) = str (hdU L) ++ str (four (more 0 (bs (str (hdU L)))))) := by
    show _ = _
    rw [bs_str hby2, ← str_append]
    rfl
  have hUl : (hdU L).length ≤ 10000 := by
    rw [hdU_length]
    have := hn_le L.length
    omega
  have hXR : Hid (XF = str (hdU L) ++ str (four (more 0 (bs (str (hdU L)))))) := hXF.out.trans hres.out
  clear hSL hres hby hby2 hXF
  generalize str L = S at *
  have hk := hn_le S.size
  have HK : Hid ((S.size + 8 + 63) / 64 = hn S.size) := by unfold hn; show _ = _; omega
  generalize hn S.size = k at *
  clear hll hSn
  have hsec : ∀ w, Calls Tryd.prog 30 #[.int .i64 (4 + (S.size : Int) + 4)] w fun e w' => e = .returned (.int .i64 (k : Int)) ∧ w' = w := fun w => by
    have h := sectors_any (S.size + 8) (by omega) w
    rw [HK.out, show (((S.size + 8 : Nat)) : Int) = 4 + (S.size : Int) + 4 by omega] at h
    exact h
  obtain ⟨k1, k2, k3⟩ := hk
  go_wp2_with fail
  refine hst.mono ?_
  rintro e w5 ⟨rfl, rfl⟩
  clear hst
  go_wp2_with fail
  refine (hsec _).mono ?_
  rintro e w4 ⟨rfl, rfl⟩
  have O5 := OutAt.new w4
  have B5 := below_alloc w4 (.cells #[.slice none 0 0] 82)
  have hr1 := raw_one w4.heap.size (.slice none 0 0) [] ⟨#[76, 82]⟩ (by show 2 ≤ _; omega) _ O5 (by show 0 + 2 ≤ _; omega)
  simp only [World.size_alloc] at hr1
  have hB4 := BB4.size
  clear hsec O4 HK
  go_wp2_with fail
  refine hr1.mono ?_
  rintro e w6 ⟨rfl, v6, hw6⟩
  have hb6 := hw6.below (B := w4.heap.size) B5.size (by omega) (From.nil _ _ _)
  have BB6 := BB4.trans ((B5.trans hb6.1).mono BB4.size)
  have hfx := fixed_any w4.heap.size v6 ([] ++ bs ⟨#[76, 82]⟩) k 2 (by omega) (by omega) w6 hw6.out (by show 2 ≤ _; omega)
  clear hr1 O5
  go_wp2_with fail
  refine hfx.mono ?_
  rintro e w7 ⟨rfl, v7, hw7⟩
  have hb7 := hw7.below (B := w4.heap.size) (B5.trans hb6.1).size (by omega) hb6.2
  have BB7 := BB6.trans (hb7.1.mono BB4.size)
  have B5' := (B5.trans hb6.1).trans hb7.1
  have hzz : ∀ w, Calls Tryd.prog 45 #[.string ⟨#[0]⟩, .int .i64 ((k : Int) * 64 - (4 + (S.size : Int) + 4))] w fun e w' => e = .returned (.string (str (List.replicate (64 * k - (8 + S.size)) 0))) ∧ Below w.heap.size w w' := fun w => by
    have h := zeros_any (64 * k - (8 + S.size)) (by omega) w
    rw [show (((64 * k - (8 + S.size) : Nat)) : Int) = (k : Int) * 64 - (4 + (S.size : Int) + 4) by omega] at h
    exact h
  clear hfx hw6 B5
  have hbz : Hid (bs (str (List.replicate (64 * k - (8 + S.size)) 0)) = List.replicate (64 * k - (8 + S.size)) 0) := bs_str (by intro b hb; rw [(List.mem_replicate.1 hb).2]; omega)
  have hzs : (str (List.replicate (64 * k - (8 + S.size)) 0)).size ≤ 100 := by rw [str_size, List.length_replicate]; omega
  generalize hZ : str (List.replicate (64 * k - (8 + S.size)) 0) = Z at *
  clear hZ
  go_wp2_with fail
  refine (hzz _).mono ?_
  rintro e w8 ⟨rfl, b8⟩
  have BB4' := B5'.trans (b8.mono B5'.size)
  have BB8 := BB7.trans (b8.mono BB7.size)
  have O8 := hw7.out.later b8
  have hr2 := raw_two w4.heap.size v7 ([] ++ bs ⟨#[76, 82]⟩ ++ fixW k 2) S Z (by omega) (by omega) w8 O8 (by
    rw [fixW, if_pos (by omega)]
    show (2 + (be k 2).length) + S.size + Z.size ≤ _
    rw [be_length]
    omega)
  have hw8s := b8.size
  clear hzz hw7
  go_wp2_with fail
  refine hr2.mono ?_
  rintro e w9 ⟨rfl, v9, hw9⟩
  have hb9 := hw9.below (B := w4.heap.size) ((B5'.trans (b8.mono B5'.size)).size) (by omega) hb7.2
  have BB9 := BB8.trans (hb9.1.mono BB4.size)
  have T9 := T4.later (BB4'.trans hb9.1)
  have hfu : Hid ([] ++ bs ⟨#[76, 82]⟩ ++ fixW k 2 ++ (bs S ++ bs Z) = hdU L) := by
    show _ = _
    rw [hfin.out, hbz.out, fixW, if_pos (by omega)]
    rfl
  have O9 := hw9.out
  rw [hfu.out] at O9
  have hst := string_any w4.heap.size v9 (hdU L) w9 O9
  have hsb : (str (hdU L)).size ≤ 1000000 := by rw [str_size]; omega
  clear hr2 hw9 O8
  clear hfin hfu hUl
  generalize str (hdU L) = U at *
  have hse := seal_big U hsb w9 T9
  generalize U ++ str (four (more 0 (bs U))) = Y at *
  go_wp2_with fail
  refine hst.mono ?_
  rintro e w10 ⟨rfl, rfl⟩
  clear hst
  go_wp2_with fail
  refine hse.mono ?_
  rintro e w11 ⟨rfl, b11⟩
  have BF := BB9.trans (b11.mono BB9.size)
  clear hse
  go_wp2
  go_ret
  exact ⟨ret_str hXR.out.symm, BF⟩
set_option maxHeartbeats 4000000 in
set_option maxRecDepth 20000 in
theorem tellHead_core57 (ep nu ki : Nat) (a : Option Addr) (n cap : Nat) (xs : List (Int × Int)) (da tx : ByteArray) (sum : Nat) (w : World) (T : Tab w) (hS : Sl w a n xs) (h1 : ep < 4294967296) (h2 : nu < 1099511627776) (h3 : ki < 4) (K : List Nat) (hK : K.length ≤ 5000) (hby : ∀ b ∈ vr ep ++ (vr nu ++ (vr ki ++ K)), b < 256) (u0 u1 u3 : Value)
    (hnd : ∀ w, Calls Tryd.prog 29 #[.int .i64 (ki : Int)] w fun e w' => e = .returned (.agg #[u0, u1, .func (.func 57) #[] #[], u3]) ∧ Below w.heap.size w w')
    (hcl : ∀ b v l w, OutAt w b v l → Sl w a n xs → (1 ≤ n → Off a b v) → l.length ≤ 1000 → Calls Tryd.prog 57 #[.pointer (some ⟨b, 0, none⟩), .agg #[.int .i64 (ep : Int), .int .i64 (nu : Int), .int .i64 (ki : Int), .slice a n cap, .string da, .string tx, .int .u32 (sum : Nat)]] w fun e w' => e = .returned (.tuple #[]) ∧ ∃ v', Wrote w b v (l ++ K) w' v') :
    Calls Tryd.prog 26 #[.agg #[.int .i64 (ep : Int), .int .i64 (nu : Int), .int .i64 (ki : Int), .slice a n cap, .string da, .string tx, .int .u32 (sum : Nat)]] w fun e w' => e = .returned (.string (str (hdB (vr ep ++ (vr nu ++ (vr ki ++ K)))))) ∧ Below w.heap.size w w' := by
  obtain ⟨XF, hXF⟩ : ∃ X, Hid (X = str (hdB (vr ep ++ (vr nu ++ (vr ki ++ K))))) := ⟨_, rfl⟩
  rw [← hXF.out]
  have X0 := boxH w ep nu ki (.slice a n cap) da tx sum
  have hz1 : Hid ((w.alloc (.cells #[.int .i64 (ep : Int), .int .i64 (nu : Int), .int .i64 (ki : Int), .slice a n cap, .string da, .string tx, .int .u32 (sum : Nat)] 61)).heap.size = w.heap.size + 1) := by simp [Hid]
  have B1 := below_alloc w (.cells #[.int .i64 (ep : Int), .int .i64 (nu : Int), .int .i64 (ki : Int), .slice a n cap, .string da, .string tx, .int .u32 (sum : Nat)] 61)
  generalize hW1 : w.alloc (.cells #[.int .i64 (ep : Int), .int .i64 (nu : Int), .int .i64 (ki : Int), .slice a n cap, .string da, .string tx, .int .u32 (sum : Nat)] 61) = W1 at *
  have B2 := below_alloc W1 (.cells #[.slice none 0 0] 82)
  have O0 := OutAt.new W1
  have X2 := X0.later (B2.mono (by have := hz1.out; omega))
  have hz2 : Hid ((W1.alloc (.cells #[.slice none 0 0] 82)).heap.size = W1.heap.size + 1) := by simp [Hid]
  generalize hW2 : W1.alloc (.cells #[.slice none 0 0] 82) = W2 at *
  have BB := B1.trans (B2.mono (by have := hz1.out; omega))
  have c0 := X2.r.c0
  have c1 := X2.r.c1
  have c2 := X2.r.c2
  have hv3 := var_three W1.heap.size (.slice none 0 0) [] ep nu ki (by omega) (by omega) (by omega) W2 O0 (by simp)
  have hF2 := hide (fun w => fld2 u0 u1 (.func (.func 57) #[] #[]) u3 w)
  clear X0 B1 B2
  go_enter Tryd.func26, Tryd.ntmps26
  go_wp2_with fail
  refine hv3.mono ?_
  rintro e w3 ⟨rfl, v3, hw3⟩
  have X3 := X2.keep hw3.keep (by
    intro x
    rcases x with x | x
    · have := hz1.out; omega
    · simp [Value.ownBlock] at x)
  have hb3 := hw3.below (B := w.heap.size) BB.size (by have := hz1.out; omega) (From.nil _ _ _)
  obtain ⟨hb3, hv3'⟩ := hb3
  have BB3 := BB.trans hb3
  have hS3 := hS.later BB3
  have hO3 := hw3.out
  clear hv3 c0 c1 c2 X2 hW1 hW2
  have q0 : ∀ p : Later (w3), p.val.cell? ⟨w.heap.size, 0, none⟩ = some (.int .i64 (ep : Int)) := fun p => (X3.later (p.below.mono X3.r.lt)).r.c0
  have q1 : ∀ p : Later (w3), p.val.cell? ⟨w.heap.size, 1, none⟩ = some (.int .i64 (nu : Int)) := fun p => (X3.later (p.below.mono X3.r.lt)).r.c1
  have q2 : ∀ p : Later (w3), p.val.cell? ⟨w.heap.size, 2, none⟩ = some (.int .i64 (ki : Int)) := fun p => (X3.later (p.below.mono X3.r.lt)).r.c2
  have q3 : ∀ p : Later (w3), p.val.cell? ⟨w.heap.size, 3, none⟩ = some (.slice a n cap) := fun p => (X3.later (p.below.mono X3.r.lt)).r.c3
  have q4 : ∀ p : Later (w3), p.val.cell? ⟨w.heap.size, 4, none⟩ = some (.string da) := fun p => (X3.later (p.below.mono X3.r.lt)).r.c4
  have q5 : ∀ p : Later (w3), p.val.cell? ⟨w.heap.size, 5, none⟩ = some (.string tx) := fun p => (X3.later (p.below.mono X3.r.lt)).r.c5
  have q6 : ∀ p : Later (w3), p.val.cell? ⟨w.heap.size, 6, none⟩ = some (.int .u32 (sum : Nat)) := fun p => (X3.later (p.below.mono X3.r.lt)).c6
  have hne := later_ne w3
  have hfi := hF2.out
  have ho3 : 1 ≤ n → Off a W1.heap.size v3 := fun hn => sl_off hS hn (by have := hz1.out; omega) hv3'
  go_wp2
  refine wp_region_later_tail 6 (by kernel_rfl) (by kernel_rfl) ?_
  simp only [List.take, List.drop]
  (repeat (first | go_big_quiet_skip | (go_big_quiet_want; go_big_quiet_op; go_big_quiet_on)))
  (go_big_quiet_want; go_big_quiet_op; apply Exists.intro; refine ⟨fun p => ?_, ?_⟩; (· exact later_of (hnd p.val)); go_big_quiet_on)
  (repeat (first | go_big_quiet_skip | (go_big_quiet_want; go_big_quiet_op; go_big_quiet_on)))
  refine wpQuiet_nil ?_
  rintro _ ⟨p, rfl⟩
  have hC := hcl W1.heap.size v3 _ p.val (hO3.later p.below) (hS3.later p.below) ho3 (by
    have e1 := vr_len9 ep
    have e2 := vr_len9 nu
    have e3 := vr_len9 ki
    simp only [List.nil_append, List.length_append]
    omega)
  clear q0 q1 q2 q3 q4 q5 q6 hne hfi
  go_wp2_with fail
  refine hC.mono ?_
  rintro e w4 ⟨rfl, v4, hw4⟩
  have hb4 := hw4.below (B := w.heap.size) (BB3.trans (p.below.mono BB3.size)).size (by have := hz1.out; omega) hv3'
  obtain ⟨hb4, _⟩ := hb4
  have BB4 := (BB3.trans (p.below.mono BB3.size)).trans hb4
  have T4 := T.later BB4
  have O4 := hw4.out
  have HLL : [] ++ (vr ep ++ (vr nu ++ vr ki)) ++ K = vr ep ++ (vr nu ++ (vr ki ++ K)) := by simp
  rw [HLL] at O4
  have hll : (vr ep ++ (vr nu ++ (vr ki ++ K))).length ≤ 6000 := by
    have e1 := vr_len9 ep
    have e2 := vr_len9 nu
    have e3 := vr_len9 ki
    simp only [List.length_append]
    omega
  clear hw4 hC hcl hnd hb4 BB3 BB X3 hw3 hb3 hv3' hS3 hO3 ho3 HLL hS T hF2 O0
  generalize vr ep ++ (vr nu ++ (vr ki ++ K)) = L at *
  have hst := string_any W1.heap.size v4 L w4 O4
  have hSL : Hid (bs (str L) = L) := bs_str hby
  have hSz : (str L).size ≤ 6000 := by rw [str_size]; exact hll
  have hSn : Hid ((str L).size = L.length) := str_size L
  have hfin : Hid (hdU L = [76, 82] ++ (be (hn (str L).size) 2 ++ (bs (str L) ++ List.replicate (64 * hn (str L).size - (8 + (str L).size)) 0))) := by rw [hSL.out, hSn.out]; rfl
  have hby2 : ∀ b ∈ hdU L, b < 256 := by
    intro b hb
    simp only [hdU, List.mem_append, List.mem_cons, List.not_mem_nil, or_false] at hb
    rcases hb with hb | hb | hb | hb
    · omega
    · exact be_lt _ _ b hb
    · exact hby b hb
    · rw [(List.mem_replicate.1 hb).2]; omega
  have hres : Hid (str (hdB L) = str (hdU L) ++ str (four (more 0 (bs (str (hdU L)))))) := by
    show _ = _
    rw [bs_str hby2, ← str_append]
    rfl
  have hUl : (hdU L).length ≤ 10000 := by
    rw [hdU_length]
    have := hn_le L.length
    omega
  have hXR : Hid (XF = str (hdU L) ++ str (four (more 0 (bs (str (hdU L)))))) := hXF.out.trans hres.out
  clear hSL hres hby hby2 hXF
  generalize str L = S at *
  have hk := hn_le S.size
  have HK : Hid ((S.size + 8 + 63) / 64 = hn S.size) := by unfold hn; show _ = _; omega
  generalize hn S.size = k at *
  clear hll hSn
  have hsec : ∀ w, Calls Tryd.prog 30 #[.int .i64 (4 + (S.size : Int) + 4)] w fun e w' => e = .returned (.int .i64 (k : Int)) ∧ w' = w := fun w => by
    have h := sectors_any (S.size + 8) (by omega) w
    rw [HK.out, show (((S.size + 8 : Nat)) : Int) = 4 + (S.size : Int) + 4 by omega] at h
    exact h
  obtain ⟨k1, k2, k3⟩ := hk
  go_wp2_with fail
  refine hst.mono ?_
  rintro e w5 ⟨rfl, rfl⟩
  clear hst
  go_wp2_with fail
  refine (hsec _).mono ?_
  rintro e w4 ⟨rfl, rfl⟩
  have O5 := OutAt.new w4
  have B5 := below_alloc w4 (.cells #[.slice none 0 0] 82)
  have hr1 := raw_one w4.heap.size (.slice none 0 0) [] ⟨#[76, 82]⟩ (by show 2 ≤ _; omega) _ O5 (by show 0 + 2 ≤ _; omega)
  simp only [World.size_alloc] at hr1
  have hB4 := BB4.size
  clear hsec O4 HK
  go_wp2_with fail
  refine hr1.mono ?_
  rintro e w6 ⟨rfl, v6, hw6⟩
  have hb6 := hw6.below (B := w4.heap.size) B5.size (by omega) (From.nil _ _ _)
  have BB6 := BB4.trans ((B5.trans hb6.1).mono BB4.size)
  have hfx := fixed_any w4.heap.size v6 ([] ++ bs ⟨#[76, 82]⟩) k 2 (by omega) (by omega) w6 hw6.out (by show 2 ≤ _; omega)
  clear hr1 O5
  go_wp2_with fail
  refine hfx.mono ?_
  rintro e w7 ⟨rfl, v7, hw7⟩
  have hb7 := hw7.below (B := w4.heap.size) (B5.trans hb6.1).size (by omega) hb6.2
  have BB7 := BB6.trans (hb7.1.mono BB4.size)
  have B5' := (B5.trans hb6.1).trans hb7.1
  have hzz : ∀ w, Calls Tryd.prog 45 #[.string ⟨#[0]⟩, .int .i64 ((k : Int) * 64 - (4 + (S.size : Int) + 4))] w fun e w' => e = .returned (.string (str (List.replicate (64 * k - (8 + S.size)) 0))) ∧ Below w.heap.size w w' := fun w => by
    have h := zeros_any (64 * k - (8 + S.size)) (by omega) w
    rw [show (((64 * k - (8 + S.size) : Nat)) : Int) = (k : Int) * 64 - (4 + (S.size : Int) + 4) by omega] at h
    exact h
  clear hfx hw6 B5
  have hbz : Hid (bs (str (List.replicate (64 * k - (8 + S.size)) 0)) = List.replicate (64 * k - (8 + S.size)) 0) := bs_str (by intro b hb; rw [(List.mem_replicate.1 hb).2]; omega)
  have hzs : (str (List.replicate (64 * k - (8 + S.size)) 0)).size ≤ 100 := by rw [str_size, List.length_replicate]; omega
  generalize hZ : str (List.replicate (64 * k - (8 + S.size)) 0) = Z at *
  clear hZ
  go_wp2_with fail
  refine (hzz _).mono ?_
  rintro e w8 ⟨rfl, b8⟩
  have BB4' := B5'.trans (b8.mono B5'.size)
  have BB8 := BB7.trans (b8.mono BB7.size)
  have O8 := hw7.out.later b8
  have hr2 := raw_two w4.heap.size v7 ([] ++ bs ⟨#[76, 82]⟩ ++ fixW k 2) S Z (by omega) (by omega) w8 O8 (by
    rw [fixW, if_pos (by omega)]
    show (2 + (be k 2).length) + S.size + Z.size ≤ _
    rw [be_length]
    omega)
  have hw8s := b8.size
  clear hzz hw7
  go_wp2_with fail
  refine hr2.mono ?_
  rintro e w9 ⟨rfl, v9, hw9⟩
  have hb9 := hw9.below (B := w4.heap.size) ((B5'.trans (b8.mono B5'.size)).size) (by omega) hb7.2
  have BB9 := BB8.trans (hb9.1.mono BB4.size)
  have T9 := T4.later (BB4'.trans hb9.1)
  have hfu : Hid ([] ++ bs ⟨#[76, 82]⟩ ++ fixW k 2 ++ (bs S ++ bs Z) = hdU L) := by
    show _ = _
    rw [hfin.out, hbz.out, fixW, if_pos (by omega)]
    rfl
  have O9 := hw9.out
  rw [hfu.out] at O9
  have hst := string_any w4.heap.size v9 (hdU L) w9 O9
  have hsb : (str (hdU L)).size ≤ 1000000 := by rw [str_size]; omega
  clear hr2 hw9 O8
  clear hfin hfu hUl
  generalize str (hdU L) = U at *
  have hse := seal_big U hsb w9 T9
  generalize U ++ str (four (more 0 (bs U))) = Y at *
  go_wp2_with fail
  refine hst.mono ?_
  rintro e w10 ⟨rfl, rfl⟩
  clear hst
  go_wp2_with fail
  refine hse.mono ?_
  rintro e w11 ⟨rfl, b11⟩
  have BF := BB9.trans (b11.mono BB9.size)
  clear hse
  go_wp2
  go_ret
  exact ⟨ret_str hXR.out.symm, BF⟩
end Re
end Go.Proofs.YtnpbgjafahhadaaDoor
