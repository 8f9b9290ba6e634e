/- Lists of texts in memory: the laws' function texts, at two lists that are the same; the order of texts. -/
import Derived.Test.YthnhapjjgaicdaaWy
import Derived.Test.YthnhapjjgaicdaaWz
namespace Go.Proofs.Ythnhapjjgaicdaa
open Go.RowKit
namespace Wi

theorem less_of_cmp : ∀ x y : List UInt8, Lib.compareBytes x y < 0 → Op.bytesLess x y = true
  | [], [], h => by simp [Lib.compareBytes] at h
  | [], _ :: _, _ => by simp [Op.bytesLess]
  | _ :: _, [], h => by simp [Lib.compareBytes] at h
  | a :: x, b :: y, h => by
    unfold Lib.compareBytes at h
    unfold Op.bytesLess
    by_cases h1 : a < b
    · simp [h1]
    · rw [if_neg h1] at h
      by_cases h2 : b < a
      · rw [if_pos h2] at h
        omega
      · rw [if_neg h2] at h
        obtain rfl : a = b := UInt8.le_antisymm (UInt8.not_lt.1 h2) (UInt8.not_lt.1 h1)
        have := less_of_cmp x y h
        simp [this]
theorem less_cmpB {a b : ByteArray} (h : cmpB a b < 0) : Op.bytesLess a.toList b.toList = true := by
  rw [ByteArray.toList_eq, ByteArray.toList_eq]
  exact less_of_cmp _ _ h
/-- A list of texts in memory, and its block. -/
def lsT (v : Value) (l : List ByteArray) : Th := fun w X => Rw w 9 1 v l.length (encN l) ∧ X = fun k => v.ownBlock = some k
theorem lsT_good (v : Value) (l : List ByteArray) : (lsT v l).Good :=
  ⟨fun ⟨h1, h2⟩ k hx => by subst h2; exact ⟨h1.keep k hx, rfl⟩, fun ⟨h1, h2⟩ k hk => by subst h2; exact h1.lt k hk⟩
theorem NewSs.ls {w w' : World} {l : List ByteArray} {v : Value} (h : NewSs w l w' v) : ∃ X, lsT v l w' X ∧ ∀ k, X k → w.heap.size ≤ k := ⟨_, ⟨h.row, rfl⟩, fun k hk => h.new k hk⟩
theorem Mine.ls {W w : World} {v : Value} {l : List ByteArray} {A : Th} (h : Mine W w ((lsT v l).and A)) : Rw w 9 1 v l.length (encN l) := let ⟨_, ⟨_, _, h1, _⟩, _⟩ := h; h1.1
set_option maxHeartbeats 4000000 in
theorem texts_same {w : World} {a b : Option Addr} {c d n : Nat} {l : List ByteArray} (h1 : Rw w 9 1 (.slice a n c) l.length (encN l)) (h2 : Rw w 9 1 (.slice b n d) l.length (encN l)) (hn : Hid (n = l.length)) (hl : n ≤ 1000000) : Calls Try.prog 29 #[.slice a n c, .slice b n d] w fun e w' => e = .returned (.bool true) ∧ Below w.heap.size w w' := by
  have HB0 : Hid (Below w.heap.size w w) := Below.refl _ _
  rw [← hn.out] at h1 h2
  go_enter Try.func29, Try.ntmps29
  go_wp2
  go_loopw [5] (fun i wr => ∃ k : Nat, k ≤ n ∧ i = .int .i64 k ∧ Below w.heap.size w wr) (fun i _ => n - (intOf i).toNat)
  case atStart => exact ⟨0, Nat.zero_le _, rfl, HB0.out⟩
  case round =>
    obtain ⟨k, hk, rfl, hb⟩ := hrel
    by_cases hlt : k < n
    · obtain ⟨s, hs⟩ : ∃ s, l[k]? = some s := ⟨_, List.getElem?_eq_getElem (by rw [← hn.out]; exact hlt)⟩
      have he : (encN l)[k]? = some (.string s) := by simp [encN, hs]
      have q1 := h1.later hb
      have q2 := h2.later hb
      obtain ⟨g1, o1, c1, e1, hg1, _⟩ := q1.pos (by omega)
      obtain ⟨g2, o2, c2, e2, hg2, _⟩ := q2.pos (by omega)
      injection e1 with x1 _ x3
      injection e2 with y1 _ y3
      subst x1 x3 y1 y3
      have r1 := (q1.cell he).1
      have r2 := (q2.cell he).1
      have k1 : ∀ p : Later wr, p.val.cell? ⟨g1, o1 + k, none⟩ = some (.string s) := fun p => (p.below.cell (p := ⟨g1, o1 + k, none⟩) hg1).trans r1
      have k2 : ∀ p : Later wr, p.val.cell? ⟨g2, o2 + k, none⟩ = some (.string s) := fun p => (p.below.cell (p := ⟨g2, o2 + k, none⟩) hg2).trans r2
      have hne := later_ne wr
      have v : (s.toList == s.toList) = true := beq_lists rfl
      have HB := hide hb
      clear q1 q2 r1 r2 hs he h1 h2 hb
      go_wp2
      refine wp_region_later (by kernel_rfl) (by kernel_rfl) ?_
      (repeat (first | go_big_quiet_skip | (go_big_quiet_want; go_big_quiet_op; go_big_quiet_on)))
      refine wpQuiet_nil ?_
      rintro _ ⟨p, rfl⟩
      have HB2 := hide (HB.out.trans (p.below.mono HB.out.size))
      clear k1 k2 hne
      generalize p.val = w3 at *
      go_wp2
      go_roundw
      case rel => exact ⟨k + 1, by omega, by go_num, HB2.out⟩
      case measure => simp [intOf]; omega
    · have HB := hide hb
      clear hb
      go_wp2
      go_ret
      exact ⟨rfl, HB.out⟩

end Wi
end Go.Proofs.Ythnhapjjgaicdaa
