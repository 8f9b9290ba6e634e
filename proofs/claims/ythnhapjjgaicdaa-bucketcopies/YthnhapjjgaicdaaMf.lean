/- What a call keeps of a bucket: how long names are, how many objects there are; no program. -/
import Derived.Test.YthnhapjjgaicdaaMe
namespace Go.Proofs.Ythnhapjjgaicdaa
namespace Wi

/-- Names have up to 64 bytes. -/
structure Nm (d : Bk) : Prop where
  names : ∀ o ∈ d.objs, o.1.size ≤ 64
  lates : ∀ c ∈ d.late, c.2.1.size ≤ 64
theorem Nm.act {d : Bk} (h : Nm d) {c : Ch} (hn : c.2.1.size ≤ 64) : Nm (d.act c) := by
  obtain ⟨p, t, y⟩ := c
  simp only at hn
  cases p with
  | true =>
    show Nm (d.add t y)
    unfold Bk.add
    split
    · exact h
    · split
      · exact h
      · exact ⟨fun o ho => (of_put ho).elim (h.names o) fun e => by rw [e]; exact hn, h.lates⟩
  | false =>
    show Nm (d.remove t)
    unfold Bk.remove
    split
    · exact ⟨fun o ho => h.names o ((cut_sublist _ _).subset ho), h.lates⟩
    · exact h
theorem Nm.next {d : Bk} (h : Nm d) : Nm d.next := ⟨h.names, h.lates⟩
theorem Nm.call {d : Bk} (h : Nm d) {c : Ch} (hn : c.2.1.size ≤ 64) : Nm (d.call c) := by
  unfold Bk.call
  split
  · exact h.next.act hn
  · split
    · refine ⟨h.names, fun c' hc' => ?_⟩
      rcases List.mem_append.1 hc' with h1 | h1
      · exact h.lates c' h1
      · rw [List.mem_singleton.1 h1]; exact hn
    · exact h.next
theorem Nm.acts : ∀ (l : List Ch) {d : Bk}, Nm d → (∀ c ∈ l, c.2.1.size ≤ 64) → Nm (d.acts l)
  | [], _, h, _ => h
  | c :: r, _, h, hl => Nm.acts r (h.act (hl c (by simp))) fun c' hc' => hl c' (by simp [hc'])
theorem Nm.drop {d : Bk} (h : Nm d) (k : Nat) : Nm (d.drop k) := ⟨h.names, fun c hc => h.lates c (List.mem_of_mem_drop hc)⟩
theorem Nm.land {d : Bk} (h : Nm d) (n : Int) : Nm (d.land n) := (Nm.acts _ h fun c hc => h.lates c (List.mem_of_mem_take hc)).drop _


end Wi
end Go.Proofs.Ythnhapjjgaicdaa
