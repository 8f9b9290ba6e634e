/- The chapter's examples. -/
import Derived.Test.YtnpbgjafahhadaaDoorSb
import Derived.Test.YtnpbgjafahhadaaDoorSd
import Derived.Test.YtnpbgjafahhadaaDoorRl
namespace Go.Proofs.YtnpbgjafahhadaaDoor
open Go.RowKit
namespace Re
open Cr
def zs (n : Nat) : Array Value := Array.replicate n (.int .u8 0)
theorem zs_get {n i : Nat} (h : i < n) : (zs n)[i]? = some (.int .u8 0) := by simp [zs, h]
theorem madeCells_u8 (N : Nat) : madeCells (Value.int .u8 0).cells N = Array.replicate N (.int .u8 0) := by
  apply Array.toList_inj.1
  rw [show (Value.int .u8 0).cells = #[.int .u8 0] from rfl, toList_madeCells_one]
  simp
theorem make_bytes {N : Nat} (h : N ≤ 1000000) (w : World) : (Instr.makeSlice 52 (.int .i64 (N : Int)) (.int .i64 (N : Int))).run Tryd.prog w = .ok (.slice (some ⟨w.heap.size, 0, none⟩) N N) (w.alloc (.cells (zs N) 5)) := by
  obtain ⟨i0, hi, hz0, hz1, hz2⟩ := info_parts info5
  have hr := run_make (P := Tryd.prog) w 52 5 i0 (.int .u8 0) Tryd.underlying52 hi hz0 .i64 .i64 (N : Int) (N : Int) (by omega) (by omega) (by rw [hz2]; omega) (by omega)
  rw [hz1] at hr
  simpa [zs, madeCells_u8] using hr
theorem conv_rep {w : World} {g N : Nat} (h : ∀ i, i < N → w.cell? ⟨g, i, none⟩ = some (.int .u8 0)) : (convert 52 9 (.slice (some ⟨g, 0, none⟩) N N)).run Tryd.prog w = .ok (.string (str (List.replicate N 0))) w :=
  conv_bytes _ _ 0 N N (List.replicate N 0) (by simp) fun i x hx => by
    have hi : i < N := by simpa using (List.getElem?_eq_some_iff.1 hx).1
    simp [hi] at hx
    subst hx
    rw [Nat.zero_add]
    exact h i hi
/-- The chapter's two examples. -/
def rA : Rc := ⟨1, 2, 3, [], ⟨#[]⟩, ⟨#[104, 105]⟩⟩
def rZ : Rc := ⟨0, 0, 1, [(3, 1)], str (List.replicate 64 0), ⟨#[]⟩⟩
theorem rA_chk : chk rA = 0 := by decide +kernel
theorem rA_body : body rA 0 = [1, 2, 3, 2, 104, 105] := by decide +kernel
theorem rA_enc : bs (encR rA) = hdB [1, 2, 3, 2, 104, 105] := by
  rw [encR, if_pos rA_chk, enc, show bs rA.da = [] from rfl, more_nil, rA_body, bs_append, show bs rA.da = [] from rfl, List.append_nil, bs_str]
  rw [← rA_body]
  exact hdB_lt (chk_head rA_chk) 0
theorem rA_size : (encR rA).size = 64 := by
  rw [← bs_length, rA_enc, hdB_length]
  decide +kernel
theorem rA_ten : (encR rA).extract 0 10 = ⟨#[76, 82, 0, 1, 1, 2, 3, 2, 104, 105]⟩ := by
  apply bs_inj
  rw [bs_cut, rA_enc, hdB]
  rfl
theorem rZ_chk : chk rZ = 0 := by decide +kernel
theorem rZ_size : sizeR rZ = 2 := by
  rw [sizeR, if_pos rZ_chk]
  decide +kernel
theorem sl_one (w : World) (x y : Int) (h : Fit (x, y)) : Sl (w.alloc (.cells #[.int .i64 x, .int .i64 y] 39)) (some ⟨w.heap.size, 0, none⟩) 1 [(x, y)] :=
  ⟨rfl, by omega, by simpa using h, fun i hi => by
    simp only [List.length_cons, List.length_nil] at hi
    obtain rfl : i = 0 := by omega
    exact ⟨_, 0, rfl, by simp, by simp [nth], by simp [nth]⟩⟩
set_option maxHeartbeats 4000000 in
theorem awake_any (w : World) (T : Tab w) : Calls Tryd.prog 10 #[] w fun e w' => e = .returned (.bool true) ∧ Below w.heap.size w w' := by
  have hE := encode_rec_any 1 2 3 none 0 0 [] ⟨#[]⟩ ⟨#[104, 105]⟩ w T (sl_nil w 0) (by decide +kernel) (by decide +kernel)
  rw [show (⟨1, 2, 3, [], ⟨#[]⟩, ⟨#[104, 105]⟩⟩ : Rc) = rA from rfl, rA_chk] at hE
  have hS := fun (w : World) (T : Tab w) (g : Nat) (h : Sl w (some ⟨g, 0, none⟩) 1 [(3, 1)]) => size_rec_any 0 0 1 (some ⟨g, 0, none⟩) 1 1 [(3, 1)] (str (List.replicate 64 0)) ⟨#[]⟩ w T h (by decide +kernel) (by rw [str_size]; decide +kernel)
  rw [show (⟨0, 0, 1, [(3, 1)], str (List.replicate 64 0), ⟨#[]⟩⟩ : Rc) = rZ from rfl, rZ_size] at hS
  have h64 := rA_size
  have h10 := rA_ten
  generalize encR rA = E at *
  have hz : Hid (str (List.replicate 64 0) = str (List.replicate 64 0)) := rfl
  obtain ⟨Z, hZ⟩ : ∃ Z, Hid (str (List.replicate 64 0) = Z) := ⟨_, rfl⟩
  rw [hZ.out] at hS
  have h64' : (E.size : Int) = 64 := by omega
  have h10b := beq_lists h10
  go_enter Tryd.func10, Tryd.ntmps10
  go_wp2_with fail
  refine hE.mono ?_
  rintro e w1 ⟨rfl, b1⟩
  have T1 := T.later b1
  have b2 := below_alloc w1 (.cells #[.int .i64 3, .int .i64 1] 39)
  have S2 := sl_one w1 3 1 ⟨by omega, by omega⟩
  generalize hW2 : w1.alloc (.cells #[.int .i64 3, .int .i64 1] 39) = W2 at *
  have b3 := below_alloc W2 (.cells (zs 64) 5)
  have S3 := S2.later b3
  have hmk : (Instr.makeSlice 52 (.int .i64 64) (.int .i64 64)).run Tryd.prog W2 = .ok (.slice (some ⟨W2.heap.size, 0, none⟩) 64 64) (W2.alloc (.cells (zs 64) 5)) := make_bytes (N := 64) (by omega) _
  have hcv : (convert 52 9 (.slice (some ⟨W2.heap.size, 0, none⟩) 64 64)).run Tryd.prog (W2.alloc (.cells (zs 64) 5)) = .ok (.string Z) (W2.alloc (.cells (zs 64) 5)) := by rw [← hZ.out]; exact conv_rep (fun i hi => by simp [zs_get hi])
  have BB := (b1.trans (b2.mono b1.size)).trans (b3.mono (b1.trans (b2.mono b1.size)).size)
  generalize hW3 : W2.alloc (.cells (zs 64) 5) = W3 at *
  have hc := hS W3 (T.later BB) w1.heap.size S3
  clear hS hE b1 b2 b3 S2 S3 hz hZ T1
  go_wp2_with fail
  refine hc.mono ?_
  rintro e w4 ⟨rfl, b4⟩
  have BF := BB.trans (b4.mono BB.size)
  clear hc hmk hcv
  go_wp2
  go_ret
  exact ⟨rfl, BF⟩
end Re
end Go.Proofs.YtnpbgjafahhadaaDoor
