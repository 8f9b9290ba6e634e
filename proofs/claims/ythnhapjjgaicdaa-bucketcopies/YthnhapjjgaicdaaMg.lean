/- Where a search from the first object on ends, and how great objects are; no program. -/
import Derived.Test.YthnhapjjgaicdaaMf
import Derived.Test.YthnhapjjgaicdaaMc
namespace Go.Proofs.Ythnhapjjgaicdaa
namespace Wi

theorem place_of_eq {l : List Ob} (hr : Rise l) {s : ByteArray} {k : Nat} {o : Ob} (h : l[k]? = some o) (e : o.1 = s) : place l s = k :=
  place_eq l s k (Nat.le_of_lt (List.getElem?_eq_some_iff.1 h).1) (fun _ p hj hp => by rw [← e]; exact hr.at hp h hj) fun p hp => by
    rw [h] at hp
    cases hp
    rw [e, cmpB_self]
    omega
theorem found_of_eq {l : List Ob} (hr : Rise l) {s : ByteArray} {k : Nat} {o : Ob} (h : l[k]? = some o) (e : o.1 = s) : foundB l s = true := by
  unfold foundB
  rw [place_of_eq hr h e, h]
  simp [e]
theorem found_of_none {l : List Ob} {s : ByteArray} (h : ∀ o ∈ l, o.1 ≠ s) : foundB l s = false := by
  cases hf : foundB l s with
  | false => rfl
  | true =>
    obtain ⟨o, ho, e⟩ := foundB_some hf
    exact absurd e (h o (List.mem_of_getElem? ho))
/-- The place of a name; -1: it is not there. -/
def idxOf (l : List Ob) (s : ByteArray) : Int := if foundB l s then (place l s : Nat) else -1
theorem idxOf_eq {l : List Ob} (hr : Rise l) {s : ByteArray} {k : Nat} {o : Ob} (h : l[k]? = some o) (e : o.1 = s) : idxOf l s = (k : Nat) := by
  rw [idxOf, found_of_eq hr h e, place_of_eq hr h e]
  rfl
theorem idxOf_none {l : List Ob} {s : ByteArray} (h : ∀ o ∈ l, o.1 ≠ s) : idxOf l s = -1 := by
  rw [idxOf, found_of_none h]
  rfl
/-- Objects have up to 65536 bytes. -/
def Fd (d : Bk) : Prop := ∀ o ∈ d.objs, o.2.size ≤ 65536
theorem Fd.act {d : Bk} (h : Fd d) {c : Ch} (hc : c.2.2.size ≤ 65536) : Fd (d.act c) := by
  obtain ⟨p, t, y⟩ := c
  simp only at hc
  cases p with
  | true =>
    show Fd (d.add t y)
    unfold Bk.add
    split
    · exact h
    · split
      · exact h
      · exact fun o ho => (of_put ho).elim (h o) fun e => by rw [e]; exact hc
  | false =>
    show Fd (d.remove t)
    unfold Bk.remove
    split
    · exact fun o ho => h o ((cut_sublist _ _).subset ho)
    · exact h
theorem Fd.acts : ∀ (l : List Ch) {d : Bk}, Fd d → (∀ c ∈ l, c.2.2.size ≤ 65536) → Fd (d.acts l)
  | [], _, h, _ => h
  | c :: r, _, h, hl => Fd.acts r (Fd.act h (hl c (by simp))) fun c' hc' => hl c' (by simp [hc'])
theorem Fd.call {d : Bk} (h : Fd d) {c : Ch} (hc : c.2.2.size ≤ 65536) : Fd (d.call c) := by
  unfold Bk.call
  split
  · exact Fd.act (d := d.next) h hc
  · split
    · exact h
    · exact h
theorem total_fd : ∀ {l : List Ob}, (∀ o ∈ l, o.2.size ≤ 65536) → total l ≤ 65536 * l.length
  | [], _ => by simp [total]
  | x :: r, h => by
    have e : total (x :: r) = x.2.size + total r := by simp [total]
    have h1 := total_fd (l := r) fun o ho => h o (by simp [ho])
    have h2 := h x (by simp)
    rw [e, List.length_cons]
    omega
theorem Fd.total {d : Bk} (h : Fd d) (hn : d.objs.length ≤ 1000000) : total d.objs ≤ 100000000000 := by
  have := total_fd h
  omega
theorem total_take {l : List Ob} {k : Nat} {o : Ob} (h : l[k]? = some o) : total (l.take (k + 1)) = total (l.take k) + o.2.size := by
  have e : l.take (k + 1) = l.take k ++ [o] := by
    obtain ⟨h1, rfl⟩ := List.getElem?_eq_some_iff.1 h
    rw [List.take_succ_eq_append_getElem h1]
  rw [e, total_append]
  simp [total]
theorem total_take_le (l : List Ob) (k : Nat) : total (l.take k) ≤ total l := by
  have e : total l = total (l.take k) + total (l.drop k) := by rw [← total_append, List.take_append_drop]
  omega

end Wi
end Go.Proofs.Ythnhapjjgaicdaa
