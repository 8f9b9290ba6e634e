/- What stays of an object, call by call. -/
import Derived.Test.YthnhapjjgaicdaaMc
namespace Go.Proofs.Ythnhapjjgaicdaa
namespace Wi

/-- An object that is there, and no late call takes it away; names have up to 64 bytes. -/
structure Stay (s x : ByteArray) (d : Bk) : Prop where
  mem : (s, x) ∈ d.objs
  late : ∀ c ∈ d.late, c.1 = false → c.2.1 ≠ s
  names : ∀ o ∈ d.objs, o.1.size ≤ 64
  lates : ∀ c ∈ d.late, c.2.1.size ≤ 64
theorem mem_put {l : List Ob} {o : Ob} (h : o ∈ l) (s x : ByteArray) : o ∈ put l s x := by
  rw [← List.take_append_drop (place l s) l] at h
  rcases List.mem_append.1 h with h | h
  · exact List.mem_append.2 (.inl h)
  · exact List.mem_append.2 (.inr (List.mem_cons_of_mem _ h))
theorem of_put {l : List Ob} {o : Ob} {s x : ByteArray} (h : o ∈ put l s x) : o ∈ l ∨ o = (s, x) := by
  rcases List.mem_append.1 h with h | h
  · exact .inl (List.mem_of_mem_take h)
  · rcases List.mem_cons.1 h with h | h
    · exact .inr h
    · exact .inl (List.mem_of_mem_drop h)
theorem mem_cut {l : List Ob} {o p : Ob} {s : ByteArray} (h : o ∈ l) (hp : l[place l s]? = some p) (hne : o ≠ p) : o ∈ cut l s := by
  obtain ⟨h1, h2⟩ := List.getElem?_eq_some_iff.1 hp
  rw [← List.take_append_drop (place l s) l, List.drop_eq_getElem_cons h1, h2] at h
  rcases List.mem_append.1 h with h | h
  · exact List.mem_append.2 (.inl h)
  · rcases List.mem_cons.1 h with h | h
    · exact absurd h hne
    · exact List.mem_append.2 (.inr h)
theorem Stay.act {s x : ByteArray} {d : Bk} (h : Stay s x d) {c : Ch} (hc : c.1 = false → c.2.1 ≠ s) (hn : c.2.1.size ≤ 64) : Stay s x (d.act c) := by
  obtain ⟨p, t, y⟩ := c
  simp only at hc hn
  cases p with
  | true =>
    show Stay s x (d.add t y)
    unfold Bk.add
    split
    · exact h
    · split
      · exact h
      · exact ⟨mem_put h.mem t y, h.late, fun o ho => (of_put ho).elim (h.names o) fun e => by rw [e]; exact hn, h.lates⟩
  | false =>
    show Stay s x (d.remove t)
    unfold Bk.remove
    split
    · rename_i hf
      obtain ⟨p, hp, hps⟩ := foundB_some hf
      refine ⟨mem_cut h.mem hp fun e => hc rfl ?_, h.late, fun o ho => h.names o ((cut_sublist _ _).subset ho), h.lates⟩
      rw [← hps, ← e]
    · exact h
theorem Stay.next {s x : ByteArray} {d : Bk} (h : Stay s x d) : Stay s x d.next := ⟨h.mem, h.late, h.names, h.lates⟩
theorem Stay.call {s x : ByteArray} {d : Bk} (h : Stay s x d) {c : Ch} (hc : c.1 = false → c.2.1 ≠ s) (hn : c.2.1.size ≤ 64) : Stay s x (d.call c) := by
  unfold Bk.call
  split
  · exact h.next.act hc hn
  · split
    · refine ⟨h.mem, fun c' hc' => ?_, h.names, fun c' hc' => ?_⟩
      · rcases List.mem_append.1 hc' with h1 | h1
        · exact h.late c' h1
        · rw [List.mem_singleton.1 h1]; exact hc
      · rcases List.mem_append.1 hc' with h1 | h1
        · exact h.lates c' h1
        · rw [List.mem_singleton.1 h1]; exact hn
    · exact h.next
theorem Stay.acts {s x : ByteArray} : ∀ (l : List Ch) {d : Bk}, Stay s x d → (∀ c ∈ l, (c.1 = false → c.2.1 ≠ s) ∧ c.2.1.size ≤ 64) → Stay s x (d.acts l)
  | [], _, h, _ => h
  | c :: r, _, h, hl => Stay.acts r (h.act (hl c (by simp)).1 (hl c (by simp)).2) fun c' hc' => hl c' (by simp [hc'])
theorem Stay.drop {s x : ByteArray} {d : Bk} (h : Stay s x d) (k : Nat) : Stay s x (d.drop k) := ⟨h.mem, fun c hc => h.late c (List.mem_of_mem_drop hc), h.names, fun c hc => h.lates c (List.mem_of_mem_drop hc)⟩
theorem Stay.land {s x : ByteArray} {d : Bk} (h : Stay s x d) (n : Int) : Stay s x (d.land n) :=
  (Stay.acts _ h fun c hc => ⟨h.late c (List.mem_of_mem_take hc), h.lates c (List.mem_of_mem_take hc)⟩).drop _
theorem Stay.got {s x : ByteArray} {d : Bk} (h : Stay s x d) (hr : Rise d.objs) : got d.objs s = some x ∧ foundB d.objs s = true := by
  have hf : foundB d.objs s = true := by
    cases hf : foundB d.objs s with
    | true => rfl
    | false =>
      have hg := got_none hr (foundB_none hf)
      unfold Wi.got at hg
      rw [Option.map_eq_none_iff, List.find?_eq_none] at hg
      exact absurd (decide_eq_true rfl) (hg (s, x) h.mem)
  obtain ⟨o, ho, hos⟩ := foundB_some hf
  refine ⟨?_, hf⟩
  rw [got_some hr ho hos]
  obtain ⟨k, hk⟩ := List.getElem?_of_mem h.mem
  rcases Nat.lt_trichotomy k (place d.objs s) with h1 | h1 | h1
  · have := place_ahead _ _ _ _ h1 hk
    rw [cmpB_self] at this
    omega
  · rw [h1, ho] at hk
    cases hk
    rfl
  · have := hr.at ho hk h1
    rw [hos, cmpB_self] at this
    omega
theorem load_call (d : Bk) (c : Ch) : (d.call c).objs.length + (d.call c).late.length ≤ d.objs.length + d.late.length + 1 ∧ (d.call c).fates.length ≤ d.fates.length := by
  unfold Bk.call
  have ht : d.next.fates.length ≤ d.fates.length := by show d.fates.tail.length ≤ _; rw [List.length_tail]; omega
  split
  · have h1 := act_size d.next c
    obtain ⟨h2, h3, _⟩ := act_same d.next c
    rw [h2, h3]
    rw [show d.next.objs = d.objs from rfl] at h1
    exact ⟨by rw [show d.next.late = d.late from rfl]; omega, ht⟩
  · split
    · exact ⟨by show d.objs.length + (d.late ++ [c]).length ≤ _; rw [List.length_append]; simp; omega, ht⟩
    · exact ⟨by show d.objs.length + d.late.length ≤ _; omega, ht⟩

end Wi
end Go.Proofs.Ythnhapjjgaicdaa
