/- The law NamesParses: which texts are names, and of what. -/
import Derived.Test.YtnfakgdgjkgekaaDoorRc
import Derived.Test.YtnfakgdgjkgekaaDoorLw
namespace Go.Proofs.YtnfakgdgjkgekaaDoor
open Go.RowKit
namespace Wi

set_option maxHeartbeats 8000000 in
theorem namesParses_walk (s : ByteArray) (W : World) (T : Tz W) (hs : s.size ≤ 9223372036854775807) : Calls Tryd.prog 4 #[.string s] W fun e w' => e = .returned (.bool true) ∧ Below W.heap.size W w' := by
  by_cases h1 : 100 < s.size
  · have HB := hide (Below.refl W.heap.size W)
    go_enter Tryd.func4, Tryd.ntmps4
    go_wp2_with fail
    refine (awake_any _ (T.later HB.out)).mono ?_
    rintro e w9 ⟨rfl, hb9⟩
    go_wp2
    go_ret
    exact ⟨rfl, HB.out.trans (hb9.mono HB.out.size)⟩
  · have hpa := parse_any s hs W
    have HRP := hide fun w => rparse_any s hs w
    cases hok : okP s with
    | true =>
      rw [hok] at HRP
      rw [show parE s = 0 by simp [parE, hok]] at hpa
      have v1 : ((parS s).toList == (parS s).toList) = true := beq_lists rfl
      clear hok
      generalize parS s = PS at *
      generalize parK s = PK at *
      generalize parQ s = PQ at *
      go_enter Tryd.func4, Tryd.ntmps4
      go_wp2_with fail
      refine hpa.mono ?_
      rintro e w1 ⟨rfl, hb1⟩
      have hb2 := below_alloc w1 (.cells #[.string PS, .int .i64 (PK : Nat), .int .i64 (PQ : Nat)] 23)
      have HB := hide (hb1.trans (hb2.mono hb1.size))
      have hrp := HRP.out (w1.alloc (.cells #[.string PS, .int .i64 (PK : Nat), .int .i64 (PQ : Nat)] 23))
      clear hpa hb1 hb2 HRP
      go_wp2_with fail
      refine hrp.mono ?_
      rintro e w2 ⟨rfl, hww⟩
      subst hww
      clear hrp
      go_wp2_with fail
      refine (awake_any _ (T.later HB.out)).mono ?_
      rintro e w9 ⟨rfl, hb9⟩
      go_wp2
      go_ret
      exact ⟨rfl, HB.out.trans (hb9.mono HB.out.size)⟩
    | false =>
      rw [hok, show parS s = { data := #[] } by simp [parS, hok], show parK s = 0 by simp [parK, hok], show parQ s = 0 by simp [parQ, hok]] at HRP
      rw [show parE s = 12 by simp [parE, hok], show parS s = { data := #[] } by simp [parS, hok], show parK s = 0 by simp [parK, hok], show parQ s = 0 by simp [parQ, hok]] at hpa
      clear hok
      go_enter Tryd.func4, Tryd.ntmps4
      go_wp2_with fail
      refine hpa.mono ?_
      rintro e w1 ⟨rfl, hb1⟩
      have hb2 := below_alloc w1 (.cells #[.string { data := #[] }, .int .i64 0, .int .i64 0] 23)
      have HB := hide (hb1.trans (hb2.mono hb1.size))
      have hrp := HRP.out (w1.alloc (.cells #[.string { data := #[] }, .int .i64 0, .int .i64 0] 23))
      clear hpa hb1 hb2 HRP
      go_wp2_with fail
      refine hrp.mono ?_
      rintro e w2 ⟨rfl, hww⟩
      subst hww
      clear hrp
      go_wp2_with fail
      refine (awake_any _ (T.later HB.out)).mono ?_
      rintro e w9 ⟨rfl, hb9⟩
      go_wp2
      go_ret
      exact ⟨rfl, HB.out.trans (hb9.mono HB.out.size)⟩

end Wi
end Go.Proofs.YtnfakgdgjkgekaaDoor
