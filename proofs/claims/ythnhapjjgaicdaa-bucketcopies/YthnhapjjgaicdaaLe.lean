/- A bucket behind k calls: what is kept of it, call by call; what is refused turns nothing. -/
import Derived.Test.YthnhapjjgaicdaaMf
import Derived.Test.YthnhapjjgaicdaaLd
namespace Go.Proofs.Ythnhapjjgaicdaa
open Go.RowKit
namespace Wi

/-- The bucket behind k calls. -/
structure Fine (k : Nat) (d : Bk) : Prop where
  nm : Nm d
  ok : d.Ok
  few : d.objs.length + d.late.length ≤ k
  fates : d.fates.length ≤ 20 * k
theorem Fine.sizes {k : Nat} {d : Bk} (h : Fine k d) : ∀ o ∈ d.objs, o.1.size ≤ 9223372036854775807 := fun o ho => Nat.le_trans (h.nm.names o ho) (by omega)
theorem Fine.skip {k : Nat} {d : Bk} (h : Fine k d) : Fine (k + 1) d := ⟨h.nm, h.ok, by have := h.few; omega, by have := h.fates; omega⟩
theorem Fine.step {k : Nat} {d : Bk} (h : Fine k d) {W : World} {o : OpV} (ho : OpOk W (fun _ => False) o) (hb : ¬ badO o) : Fine (k + 1) (d.step o) := by
  have hs := h.skip
  have hlen := ho.l.len
  have hfe := h.fates
  have hfw := h.few
  have hnext : Fine (k + 1) d.next := ⟨h.nm.next, h.ok.next, hs.few, by have := hs.fates; show d.fates.tail.length ≤ _; rw [List.length_tail]; omega⟩
  have hask : ∀ b, Fine (k + 1) (d.ask b) := fun b => by cases b; exact hs; exact hnext
  have hcall : ∀ c : Ch, c.2.1.size ≤ 64 → c.2.2.size ≤ 65536 → Fine (k + 1) (d.call c) := fun c h2 h3 => by
    obtain ⟨l1, l2⟩ := load_call d c
    exact ⟨h.nm.call h2, h.ok.call c h3, by omega, by omega⟩
  unfold Bk.step
  split
  · unfold Bk.put
    split
    · rename_i hp
      simp only [Bool.and_eq_true, decide_eq_true_eq] at hp
      exact hcall _ (name_size hp.1) hp.2
    · exact hs
  · split
    · exact hask _
    · split
      · exact hask _
      · split
        · exact hnext
        · split
          · unfold Bk.del
            split
            · rename_i hp
              exact hcall _ (name_size hp) (by show 0 ≤ _; omega)
            · exact hs
          · split
            · refine ⟨⟨h.nm.names, h.nm.lates⟩, h.ok.tell _, hs.few, ?_⟩
              show (d.fates ++ o.l.map fateOf).length ≤ _
              rw [List.length_append, List.length_map, ← hlen]
              unfold badO at hb
              omega
            · split
              · obtain ⟨l1, l2⟩ := land_few d o.n
                exact ⟨h.nm.land _, (Bk.Ok.acts _ h.ok).drop _, by omega, by rw [l2]; omega⟩
              · exact ⟨h.nm.drop _, h.ok.drop _, by show d.objs.length + (d.late.drop _).length ≤ _; rw [List.length_drop]; omega, hs.fates⟩
theorem call_quota (d : Bk) (c : Ch) : (d.call c).quota = d.quota := by
  unfold Bk.call
  split
  · exact (act_same d.next c).2.2
  · split <;> rfl
theorem acts_quota : ∀ (l : List Ch) (d : Bk), (d.acts l).quota = d.quota
  | [], _ => rfl
  | c :: r, d => (acts_quota r (d.act c)).trans (act_same d c).2.2
theorem ask_same (d : Bk) (b : Bool) : (d.ask b).quota = d.quota ∧ (d.ask b).objs = d.objs := by cases b <;> exact ⟨rfl, rfl⟩
theorem step_quota (d : Bk) (o : OpV) : (d.step o).quota = d.quota := by
  unfold Bk.step
  split
  · unfold Bk.put
    split
    · exact call_quota _ _
    · rfl
  · split
    · exact (ask_same _ _).1
    · split
      · exact (ask_same _ _).1
      · split
        · rfl
        · split
          · unfold Bk.del
            split
            · exact call_quota _ _
            · rfl
          · split
            · rfl
            · split
              · exact acts_quota _ _
              · rfl
def refused (e : Int) : Prop := e = 33 ∨ e = 16 ∨ e = 15 ∨ e = 1 ∨ e = 31
theorem call_refused {d : Bk} {c : Ch} (h : refused (d.callE c)) : (d.call c).objs = d.objs := by
  unfold Bk.callE at h
  split at h
  · rename_i h0
    unfold Bk.call
    rw [if_pos (.inl h0)]
    unfold Bk.actE Bk.addE Bk.removeE at h
    unfold Bk.act Bk.add Bk.remove
    split
    · split
      · rfl
      · split
        · rfl
        · rename_i h1 h2 h3
          rw [if_pos h1, if_neg h2, if_neg h3] at h
          unfold refused at h
          omega
    · split
      · rename_i h1 h2
        rw [if_neg h1, if_pos h2] at h
        unfold refused at h
        omega
      · rfl
  · unfold refused at h
    omega
theorem step_refused {d : Bk} {o : OpV} (h : refused (d.stepE o)) : (d.step o).objs = d.objs := by
  unfold Bk.stepE at h
  unfold Bk.step
  split
  · rename_i h0
    rw [if_pos h0] at h
    unfold Bk.putE at h
    unfold Bk.put
    split
    · rename_i h1
      rw [if_pos h1] at h
      exact call_refused h
    · rfl
  · rename_i h0
    rw [if_neg h0] at h
    split
    · exact (ask_same _ _).2
    · rename_i h1
      rw [if_neg h1] at h
      split
      · exact (ask_same _ _).2
      · rename_i h2
        rw [if_neg h2] at h
        split
        · rfl
        · rename_i h3
          rw [if_neg h3] at h
          split
          · rename_i h4
            rw [if_pos h4] at h
            unfold Bk.delE at h
            unfold Bk.del
            split
            · rename_i h5
              rw [if_pos h5] at h
              exact call_refused h
            · rfl
          · rename_i h4
            rw [if_neg h4] at h
            unfold refused at h
            omega
theorem call_full {d : Bk} {c : Ch} (h : d.callE c = 33) : c.1 = true ∧ d.quota < total d.objs + c.2.2.size := by
  unfold Bk.callE at h
  split at h
  · unfold Bk.actE Bk.addE Bk.removeE at h
    split at h
    · rename_i h1
      split at h
      · omega
      · split at h
        · rename_i h2
          exact ⟨h1, h2⟩
        · omega
    · split at h <;> omega
  · omega
theorem fetch_not_full (d : Bk) (s : ByteArray) : d.fetchE s ≠ 33 := by
  unfold Bk.fetchE
  repeat' split
  all_goals omega
theorem step_full {d : Bk} {o : OpV} (h : d.stepE o = 33) : d.quota < total d.objs + o.data.size ∧ o.data.size ≤ 65536 := by
  unfold Bk.stepE at h
  split at h
  · unfold Bk.putE at h
    split at h
    · rename_i hp
      simp only [Bool.and_eq_true, decide_eq_true_eq] at hp
      exact ⟨(call_full h).2, hp.2⟩
    · omega
  · split at h
    · unfold Bk.getE at h
      have := fetch_not_full d o.name
      repeat' split at h
      all_goals omega
    · split at h
      · unfold Bk.sizeE at h
        have := fetch_not_full d o.name
        split at h <;> omega
      · split at h
        · unfold Bk.listE at h
          split at h <;> omega
        · split at h
          · unfold Bk.delE at h
            split at h
            · have := (call_full h).1
              cases this
            · omega
          · omega
theorem fine_start {q : Nat} (hq : q ≤ 9223372036854775807) : Fine 0 (bk0 q) := ⟨⟨by simp [bk0], by simp [bk0]⟩, bk0_ok hq, by show 0 ≤ _; omega, by show 0 ≤ _; omega⟩
theorem new_neg (q : Int) (hq : q < 0) (h2 : Num q) (w : World) : Calls Try.prog 13 #[.int .i64 q] w fun e w' => e = .returned (.tuple #[.pointer none, .int .i64 1]) ∧ w' = w := by
  obtain ⟨n1, n2⟩ := h2
  go_enter Try.func13, Try.ntmps13
  go_wp2
  all_goals first | (go_ret2; exact ⟨rfl, rfl⟩) | (exfalso; omega)

end Wi
end Go.Proofs.Ythnhapjjgaicdaa
