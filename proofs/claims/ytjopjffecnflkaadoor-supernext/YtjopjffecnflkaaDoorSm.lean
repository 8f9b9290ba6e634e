/- A part of the proofs about package super: the document's answer, call by call. -/
import Derived.Test.YtjopjffecnflkaaDoorSl
namespace Go.Proofs.YtjopjffecnflkaaDoor
open Go.RowKit
namespace Su
open Cr
set_option maxHeartbeats 1000000 in
theorem rpick_any (a b : ByteArray) (ha : a.size ≤ 1000) (hb : b.size ≤ 1000) (w : World) : Calls Tryd.prog 19 #[.string a, .string b] w fun e w' => e = .returned (.tuple #[(pickS a b).1.val, .int .i64 (pickS a b).2.1, .int .i64 (pickS a b).2.2]) ∧ Below w.heap.size w w' := by
  have hA := fun w => rdecode_any a ha w
  have hB := fun w => rdecode_any b hb w
  have xs := fun h => dec_ser (s := a) h
  have ys := fun h => dec_ser (s := b) h
  rw [pick_ref]
  generalize decS a = A at *
  generalize decS b = B at *
  obtain ⟨⟨xk, xe, xr, xz, xt, xn⟩, e1⟩ := A
  obtain ⟨⟨yk, ye, yr, yz, yt, yn⟩, e2⟩ := B
  simp only [Sb.val] at hA hB xs ys
  unfold rpick
  simp only
  by_cases x0 : e1 = 0
  · have x1 := (xs x0).1
    by_cases x2 : xr % 2 = 0
    · by_cases y0 : e2 = 0
      · have y1 := (ys y0).1
        by_cases y2 : yr % 2 = 1
        · by_cases hlt : yr < xr
          · rw [if_pos ⟨⟨x0, x2⟩, .inr hlt⟩]
            exact pk_eo1 a b xk yk xe xr xz xt xn ye yr yz yt yn e1 e2 hA hB w x0 x1 x2 y0 y1 y2 hlt
          · rw [if_neg (fun h => by rcases h.2 with h | h; exact h ⟨y0, y2⟩; exact hlt h), if_pos ⟨y0, y2⟩]
            exact pk_eo2 a b xk yk xe xr xz xt xn ye yr yz yt yn e1 e2 hA hB w x0 x1 x2 y0 y1 y2 hlt
        · rw [if_pos ⟨⟨x0, x2⟩, .inl (fun h => y2 h.2)⟩]
          exact pk_ee a b xk yk xe xr xz xt xn ye yr yz yt yn e1 e2 hA hB w x0 x1 x2 y0 y1 (by omega)
      · rw [if_pos ⟨⟨x0, x2⟩, .inl (fun h => y0 h.1)⟩]
        exact pk_en a b xk yk xe xr xz xt xn ye yr yz yt yn e1 e2 hA hB w x0 x1 x2 y0
    · rw [if_neg (fun h => x2 h.1.2)]
      by_cases y0 : e2 = 0
      · have y1 := (ys y0).1
        by_cases y2 : yr % 2 = 1
        · rw [if_pos ⟨y0, y2⟩]
          exact pk_oo a b xk yk xe xr xz xt xn ye yr yz yt yn e1 e2 hA hB w x0 x1 (by omega) y0 y1 y2
        · rw [if_neg (fun h => y2 h.2)]
          exact pk_oe a b xk yk xe xr xz xt xn ye yr yz yt yn e1 e2 hA hB w x0 x1 (by omega) y0 y1 (by omega)
      · rw [if_neg (fun h => y0 h.1)]
        exact pk_on a b xk yk xe xr xz xt xn ye yr yz yt yn e1 e2 hA hB w x0 x1 (by omega) y0
  · rw [if_neg (fun h => x0 h.1.1)]
    by_cases y0 : e2 = 0
    · have y1 := (ys y0).1
      by_cases y2 : yr % 2 = 1
      · rw [if_pos ⟨y0, y2⟩]
        exact pk_no a b xk yk xe xr xz xt xn ye yr yz yt yn e1 e2 hA hB w x0 y0 y1 y2
      · rw [if_neg (fun h => y2 h.2)]
        exact pk_ne a b xk yk xe xr xz xt xn ye yr yz yt yn e1 e2 hA hB w x0 y0 y1 (by omega)
    · rw [if_neg (fun h => y0 h.1)]
      exact pk_nn a b xk yk xe xr xz xt xn ye yr yz yt yn e1 e2 hA hB w x0 y0
set_option maxHeartbeats 1000000 in
theorem plain_any (s : Sb) (w : World) : Calls Tryd.prog 10 #[s.val] w fun e w' => e = .returned s.val ∧ Below w.heap.size w w' := by
  obtain ⟨key, ep, ser, siz, tail, num⟩ := s
  have Y := boxC (w.alloc (.cells #[.int .u64 (key : Nat), .int .i64 ep, .int .i64 ser, .int .i64 siz, .int .i64 tail, .int .i64 num] 24)) key ep ser siz tail num 27
  have B := (below_alloc w (.cells #[.int .u64 (key : Nat), .int .i64 ep, .int .i64 ser, .int .i64 siz, .int .i64 tail, .int .i64 num] 24)).trans ((below_alloc (w.alloc (.cells #[.int .u64 (key : Nat), .int .i64 ep, .int .i64 ser, .int .i64 siz, .int .i64 tail, .int .i64 num] 24)) (.cells #[.int .u64 (key : Nat), .int .i64 ep, .int .i64 ser, .int .i64 siz, .int .i64 tail, .int .i64 num] 27)).mono (by simp))
  rw [World.size_alloc] at Y
  simp only [Sb.val]
  go_enter Tryd.func10, Tryd.ntmps10
  go_wp2
  have d0 := Y.c0
  have d1 := Y.c1
  have d2 := Y.c2
  have d3 := Y.c3
  have d4 := Y.c4
  have d5 := Y.c5
  generalize World.alloc (World.alloc _ _) _ = wz at *
  refine bodyPost_ret (v := .agg #[.int .u64 (key : Nat), .int .i64 ep, .int .i64 ser, .int .i64 siz, .int .i64 tail, .int .i64 num]) (by simp [results, Tryd.results10, go_sem, d0, d1, d2, d3, d4, d5]) rfl ⟨rfl, B⟩
end Su
end Go.Proofs.YtjopjffecnflkaaDoor
