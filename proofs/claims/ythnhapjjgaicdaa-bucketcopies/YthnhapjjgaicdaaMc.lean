/- A bucket as a plain machine: its calls; no program. -/
import Derived.Test.YthnhapjjgaicdaaMb
namespace Go.Proofs.Ythnhapjjgaicdaa
namespace Wi

abbrev Ch : Type := Bool × ByteArray × ByteArray
def foundB (l : List Ob) (s : ByteArray) : Bool := match l[place l s]? with
  | some o => decide (o.1 = s)
  | none => false
theorem foundB_some {l : List Ob} {s : ByteArray} (h : foundB l s = true) : ∃ o, l[place l s]? = some o ∧ o.1 = s := by
  unfold foundB at h
  split at h
  · rename_i o ho
    exact ⟨o, ho, of_decide_eq_true h⟩
  · cases h
theorem foundB_none {l : List Ob} {s : ByteArray} (h : foundB l s = false) : ∀ o, l[place l s]? = some o → o.1 ≠ s := fun o ho e => by
  unfold foundB at h
  rw [ho] at h
  simp [e] at h
theorem got_found {l : List Ob} (hr : Rise l) (s : ByteArray) : (got l s).isSome = foundB l s := by
  cases h : foundB l s with
  | true => obtain ⟨o, ho, e⟩ := foundB_some h; rw [got_some hr ho e]; rfl
  | false => rw [got_none hr (foundB_none h)]; rfl
/-- An object among others. -/
def put (l : List Ob) (s x : ByteArray) : List Ob := l.take (place l s) ++ (s, x) :: l.drop (place l s)
def cut (l : List Ob) (s : ByteArray) : List Ob := l.take (place l s) ++ l.drop (place l s + 1)
theorem put_length (l : List Ob) (s x : ByteArray) : (put l s x).length = l.length + 1 := by
  have := place_le l s
  simp [put]
  omega
theorem cut_length {l : List Ob} {s : ByteArray} (h : foundB l s = true) : (cut l s).length = l.length - 1 := by
  obtain ⟨o, ho, _⟩ := foundB_some h
  have := (List.getElem?_eq_some_iff.1 ho).1
  simp [cut]
  omega
theorem Rise.put {l : List Ob} (h : Rise l) {s : ByteArray} (hf : foundB l s = false) (x : ByteArray) : Rise (put l s x) := by
  have ha : ∀ a ∈ l.take (place l s), cmpB a.1 s < 0 := fun a ha => by
    obtain ⟨k, hk⟩ := List.getElem?_of_mem ha
    have hl := (List.getElem?_eq_some_iff.1 hk).1
    rw [List.length_take] at hl
    rw [List.getElem?_take_of_lt (by omega)] at hk
    exact place_ahead l s k a (by omega) hk
  have hb : ∀ o ∈ l.drop (place l s), cmpB s o.1 < 0 := fun o ho => by
    obtain ⟨k, hk⟩ := List.getElem?_of_mem ho
    rw [List.getElem?_drop] at hk
    have hfirst : ∀ q, l[place l s]? = some q → cmpB s q.1 < 0 := fun q hq => by
      have h1 := place_at l s q hq
      have h2 := foundB_none hf q hq
      have h3 : cmpB q.1 s ≠ 0 := fun e => h2 (cmpB_zero.1 e)
      exact cmpB_pos (by omega)
    cases k with
    | zero => exact hfirst o (by simpa using hk)
    | succ k =>
      obtain ⟨q, hq⟩ : ∃ q, l[place l s]? = some q := ⟨_, List.getElem?_eq_getElem (by have := (List.getElem?_eq_some_iff.1 hk).1; omega)⟩
      exact cmpB_trans (hfirst q hq) (h.at hq hk (by omega))
  unfold Wi.put Rise
  rw [List.pairwise_append]
  refine ⟨List.Pairwise.sublist (List.take_sublist _ _) h, List.pairwise_cons.2 ⟨hb, List.Pairwise.sublist (List.drop_sublist _ _) h⟩, fun a h1 b h2 => ?_⟩
  rcases List.mem_cons.1 h2 with rfl | h2
  · exact ha a h1
  · exact cmpB_trans (ha a h1) (hb b h2)
theorem cut_sublist (l : List Ob) (s : ByteArray) : (cut l s).Sublist l := by
  have e : l = l.take (place l s) ++ l.drop (place l s) := (List.take_append_drop _ _).symm
  have h1 : (l.drop (place l s + 1)).Sublist (l.drop (place l s)) := by
    rw [← List.drop_drop]
    exact List.drop_sublist _ _
  have h2 := List.Sublist.append (List.Sublist.refl (l.take (place l s))) h1
  rw [← e] at h2
  exact h2
theorem Rise.cut {l : List Ob} (h : Rise l) (s : ByteArray) : Rise (cut l s) := List.Pairwise.sublist (cut_sublist l s) h
/-- How many bytes objects have. -/
def total (l : List Ob) : Nat := (l.map fun o => o.2.size).sum
theorem total_append (l m : List Ob) : total (l ++ m) = total l + total m := by simp [total]
theorem total_put (l : List Ob) (s x : ByteArray) : total (put l s x) = total l + x.size := by
  have e : total l = total (l.take (place l s)) + total (l.drop (place l s)) := by rw [← total_append, List.take_append_drop]
  rw [put, total_append, e]
  simp only [total, List.map_cons, List.sum_cons]
  omega
theorem total_cut {l : List Ob} {s : ByteArray} {o : Ob} (ho : l[place l s]? = some o) : total (cut l s) + o.2.size = total l := by
  have e : total l = total (l.take (place l s)) + total (l.drop (place l s)) := by rw [← total_append, List.take_append_drop]
  have hd : l.drop (place l s) = o :: l.drop (place l s + 1) := by
    obtain ⟨h1, rfl⟩ := List.getElem?_eq_some_iff.1 ho
    exact List.drop_eq_getElem_cons h1
  rw [cut, total_append, e, hd]
  simp only [total, List.map_cons, List.sum_cons]
  omega
structure Bk where
  objs : List Ob
  quota : Nat
  fates : List Nat
  late : List Ch
structure Bk.Ok (d : Bk) : Prop where
  rise : Rise d.objs
  room : total d.objs ≤ d.quota
  most : d.quota ≤ 9223372036854775807
  fate : ∀ x ∈ d.fates, x < 4
  late : ∀ c ∈ d.late, c.2.2.size ≤ 65536
def Bk.add (d : Bk) (s x : ByteArray) : Bk := if foundB d.objs s then d else if d.quota < total d.objs + x.size then d else { d with objs := put d.objs s x }
def Bk.addE (d : Bk) (s x : ByteArray) : Int := if foundB d.objs s then 16 else if d.quota < total d.objs + x.size then 33 else 0
def Bk.remove (d : Bk) (s : ByteArray) : Bk := if foundB d.objs s then { d with objs := cut d.objs s } else d
def Bk.removeE (d : Bk) (s : ByteArray) : Int := if foundB d.objs s then 0 else 15
def Bk.act (d : Bk) (c : Ch) : Bk := if c.1 then d.add c.2.1 c.2.2 else d.remove c.2.1
def Bk.actE (d : Bk) (c : Ch) : Int := if c.1 then d.addE c.2.1 c.2.2 else d.removeE c.2.1
def Bk.fate0 (d : Bk) : Nat := d.fates.headD 0
def Bk.next (d : Bk) : Bk := { d with fates := d.fates.tail }
def Bk.call (d : Bk) (c : Ch) : Bk := if d.fate0 = 0 ∨ d.fate0 = 2 then d.next.act c else if d.fate0 = 3 then { d.next with late := d.late ++ [c] } else d.next
def Bk.callE (d : Bk) (c : Ch) : Int := if d.fate0 = 0 then d.next.actE c else 34
theorem Bk.Ok.add {d : Bk} (h : d.Ok) (s x : ByteArray) : (d.add s x).Ok := by
  unfold Bk.add
  split
  · exact h
  · split
    · exact h
    · rename_i h1 h2
      refine ⟨h.rise.put (by simpa using h1) x, ?_, h.most, h.fate, h.late⟩
      show total (put d.objs s x) ≤ d.quota
      rw [total_put]
      omega
theorem Bk.Ok.remove {d : Bk} (h : d.Ok) (s : ByteArray) : (d.remove s).Ok := by
  unfold Bk.remove
  split
  · rename_i h1
    obtain ⟨o, ho, _⟩ := foundB_some h1
    refine ⟨h.rise.cut s, ?_, h.most, h.fate, h.late⟩
    have := total_cut ho
    have := h.room
    show total (cut d.objs s) ≤ d.quota
    omega
  · exact h
theorem Bk.Ok.act {d : Bk} (h : d.Ok) (c : Ch) : (d.act c).Ok := by
  unfold Bk.act
  split
  · exact h.add _ _
  · exact h.remove _
theorem Bk.Ok.next {d : Bk} (h : d.Ok) : d.next.Ok := ⟨h.rise, h.room, h.most, fun x hx => h.fate x (List.mem_of_mem_tail hx), h.late⟩
theorem Bk.Ok.call {d : Bk} (h : d.Ok) (c : Ch) (hc : c.2.2.size ≤ 65536) : (d.call c).Ok := by
  unfold Bk.call
  split
  · exact h.next.act c
  · split
    · refine ⟨h.rise, h.room, h.most, h.next.fate, fun x hx => ?_⟩
      rcases List.mem_append.1 hx with h1 | h1
      · exact h.late x h1
      · rw [List.mem_singleton.1 h1]; exact hc
    · exact h.next
theorem act_size (d : Bk) (c : Ch) : (d.act c).objs.length ≤ d.objs.length + 1 := by
  unfold Bk.act Bk.add Bk.remove
  repeat' split
  all_goals first | omega | (show (put _ _ _).length ≤ _; rw [put_length]; omega) | (have := (cut_sublist d.objs c.2.1).length_le; show (cut _ _).length ≤ _; omega)
theorem act_same (d : Bk) (c : Ch) : (d.act c).fates = d.fates ∧ (d.act c).late = d.late ∧ (d.act c).quota = d.quota := by
  unfold Bk.act Bk.add Bk.remove
  repeat' split
  all_goals exact ⟨rfl, rfl, rfl⟩
/-- Late calls that are done, one by one. -/
def Bk.acts (d : Bk) (l : List Ch) : Bk := l.foldl Bk.act d
def upTo (n : Int) (k : Nat) : Nat := (max 0 (min n (k : Int))).toNat
def Bk.drop (d : Bk) (k : Nat) : Bk := { d with late := d.late.drop k }
def Bk.land (d : Bk) (n : Int) : Bk := (d.acts (d.late.take (upTo n d.late.length))).drop (upTo n d.late.length)

end Wi
end Go.Proofs.Ythnhapjjgaicdaa
