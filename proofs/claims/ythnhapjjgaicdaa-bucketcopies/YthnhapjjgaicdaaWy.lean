/- Package bucket: Names and List. -/
import Derived.Test.YthnhapjjgaicdaaWx
namespace Go.Proofs.Ythnhapjjgaicdaa
open Go.RowKit
namespace Wi

def Bk.listE (d : Bk) : Int := if d.fate0 = 0 then 0 else 34
def Bk.listL (d : Bk) (p : ByteArray) : List ByteArray := if d.fate0 = 0 then namesOf d.objs p else []
section
variable {w : World} {b : Nat} {X : Nat → Prop} {d : Bk}
theorem names_any (h : bkT b d w X) (ho : d.objs.length ≤ 1000000) (hz : ∀ o ∈ d.objs, o.1.size ≤ 9223372036854775807) : Calls Try.prog 24 #[.pointer (some ⟨b, 0, none⟩)] w fun e w' => ∃ v, e = .returned v ∧ NewSs w (d.objs.map (·.1)) w' v := by
  obtain ⟨ov, fv, lv, h, _⟩ := h
  have hc := begin_any h.raw h.ok.rise ho hz { data := #[] } (by show 0 ≤ _; omega)
  rw [namesOf_all] at hc
  clear h
  go_enter Try.func24, Try.ntmps24
  go_wp2_with fail
  refine hc.mono ?_
  rintro e w2 ⟨v, rfl, hN⟩
  have HN := hide hN
  clear hc hN
  go_wp2
  go_ret
  exact ⟨_, rfl, HN.out⟩
set_option maxHeartbeats 2000000 in
theorem list_any (h : bkT b d w X) (ho : d.objs.length ≤ 1000000) (hf : d.fates.length ≤ 1000000) (hz : ∀ o ∈ d.objs, o.1.size ≤ 9223372036854775807) (p : ByteArray) (hp : p.size ≤ 9223372036854775807) : Calls Try.prog 28 #[.pointer (some ⟨b, 0, none⟩), .string p] w fun e w' => ∃ v w1, e = .returned (.tuple #[v, .int .i64 d.listE]) ∧ LeftT (bkT b d.next) w X w1 ∧ NewSs w1 (d.listL p) w' v := by
  have hft := fate_any h hf
  have hok : d.Ok := by obtain ⟨_, _, _, h, _⟩ := h; exact h.ok
  have hlt4 := fate_lt hok
  by_cases e0 : d.fate0 = 0
  · rw [show d.listE = 0 by simp [Bk.listE, e0], show d.listL p = namesOf d.objs p by simp [Bk.listL, e0]]
    rw [e0] at hft
    clear e0 h hlt4
    go_enter Try.func28, Try.ntmps28
    go_wp2_with fail
    refine hft.mono ?_
    rintro e w2 ⟨rfl, hl2⟩
    have HL := hide hl2
    obtain ⟨X2, ⟨ov, fv, lv, h2, _⟩, _⟩ := hl2
    have hc := begin_any h2.raw h2.ok.rise ho hz p hp
    rw [show d.next.objs = d.objs from rfl] at hc
    clear hft h2
    go_wp2_with fail
    refine hc.mono ?_
    rintro e w3 ⟨v, rfl, hN⟩
    have HN := hide hN
    clear hc hN
    go_wp2
    go_ret2
    exact ⟨_, _, rfl, HL.out, HN.out⟩
  · rw [show d.listE = 34 by simp [Bk.listE, e0], show d.listL p = [] by simp [Bk.listL, e0]]
    obtain ⟨f, hf0⟩ : ∃ f, d.fate0 = f := ⟨_, rfl⟩
    rw [hf0] at hft e0 hlt4
    have b0 : ((f : Int) == 0) = false := by simp; omega
    have b1 : ((f : Int) != 0) = true := by simp; omega
    clear hf0 h
    go_enter Try.func28, Try.ntmps28
    go_wp2_with fail
    refine hft.mono ?_
    rintro e w2 ⟨rfl, hl2⟩
    have HL := hide hl2
    clear hft hl2
    go_wp2
    go_ret2
    exact ⟨_, _, rfl, HL.out, ⟨Rw.nil _ _ _, From.nil _ _ _, Below.refl _ _⟩⟩
end

end Wi
end Go.Proofs.Ythnhapjjgaicdaa
