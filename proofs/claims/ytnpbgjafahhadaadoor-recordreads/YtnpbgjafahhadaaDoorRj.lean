/- A head that may be, told. -/
import Derived.Test.YtnpbgjafahhadaaDoorRh
namespace Go.Proofs.YtnpbgjafahhadaaDoor
open Go.RowKit
namespace Re
open Cr
/-- A head that may be, told. -/
theorem tellHead_any (ep nu ki : Int) (a : Option Addr) (n cap : Nat) (xs : List (Int × Int)) (da tx : ByteArray) (sum : Nat) (w : World) (T : Tab w) (hS : Sl w a n xs) (hz : hB ⟨ep, nu, ki, xs, da, tx⟩ = 0) (hs : sum < 4294967296) :
    Calls Tryd.prog 26 #[.agg #[.int .i64 ep, .int .i64 nu, .int .i64 ki, .slice a n cap, .string da, .string tx, .int .u32 (sum : Nat)]] w fun e w' => e = .returned (.string (str (hdB (body ⟨ep, nu, ki, xs, da, tx⟩ sum)))) ∧ Below w.heap.size w w' := by
  obtain ⟨h1, h2, h3, h4, h5⟩ := hB_ok hz
  simp only at h1 h2 h3 h4 h5
  have hby := body_lt hz sum (by simp only; omega)
  have hK := kd_length hz sum
  have hL := hS.len
  obtain ⟨p, rfl⟩ := Int.eq_ofNat_of_zero_le h1
  obtain ⟨q, rfl⟩ := Int.eq_ofNat_of_zero_le h3
  simp only [body, Int.toNat_natCast] at hby ⊢
  rcases h5 with h5 | h5 | h5
  · obtain ⟨rfl, t0, n1, n2, al, _⟩ := h5
    have hk : kd ⟨(p : Int), (q : Int), 1, xs, da, tx⟩ sum = vr n ++ (spB xs ++ be sum 4) := by
      rw [kd, if_neg (by simp), if_pos rfl, hL]
    rw [hk] at hby hK ⊢
    exact tellHead_core50 p q 1 a n cap xs da tx sum w T hS (by omega) (by omega) (by omega) _ (by omega) hby _ _ _ needs1 (fun b v l w' ho hs' hoff hl => tellWrite_any b v l p q 1 a n cap xs da tx sum w' ho hs' (hoff (by omega)) al (by omega) (by omega) hs)
  · obtain ⟨rfl, t0, n1, n2, al⟩ := h5
    have hk : kd ⟨(p : Int), (q : Int), 2, xs, da, tx⟩ sum = vr n ++ spB xs := by
      rw [kd, if_neg (by simp), if_neg (by simp), List.append_nil, hL]
    rw [hk] at hby hK ⊢
    exact tellHead_core54 p q 2 a n cap xs da tx sum w T hS (by omega) (by omega) (by omega) _ (by omega) hby _ _ _ needs2 (fun b v l w' ho hs' hoff hl => tellSpans_any b v l p q 2 a n cap xs da tx sum w' ho hs' (hoff (by omega)) al (by omega) (by omega))
  · obtain ⟨rfl, n0, t1⟩ := h5
    have hk : kd ⟨(p : Int), (q : Int), 3, xs, da, tx⟩ sum = Cr.tx tx := by
      rw [kd, if_pos rfl]
    rw [hk] at hby hK ⊢
    exact tellHead_core57 p q 3 a n cap xs da tx sum w T hS (by omega) (by omega) (by omega) _ (by omega) hby _ _ _ needs3 (fun b v l w' ho hs' hoff hl => tellText_any b v l p q 3 a n cap da tx sum w' ho (by omega) (by omega))
end Re
end Go.Proofs.YtnpbgjafahhadaaDoor
