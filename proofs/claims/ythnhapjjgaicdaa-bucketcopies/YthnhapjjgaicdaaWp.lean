/- Package bucket: what is told of it, and what is got. -/
import Derived.Test.YthnhapjjgaicdaaWo
namespace Go.Proofs.Ythnhapjjgaicdaa
open Go.RowKit
namespace Wi

def Num (z : Int) : Prop := -9223372036854775808 ≤ z ∧ z ≤ 9223372036854775807
def bk0 (q : Nat) : Bk := ⟨[], q, [], []⟩
theorem bk0_ok {q : Nat} (h : q ≤ 9223372036854775807) : (bk0 q).Ok := ⟨List.Pairwise.nil, Nat.zero_le _, h, by simp [bk0], by simp [bk0]⟩
theorem new_any (q : Nat) (hq : q ≤ 9223372036854775807) (w : World) : Calls Try.prog 13 #[.int .i64 (q : Nat)] w fun e w' => e = .returned (.tuple #[.pointer (some ⟨w.heap.size, 0, none⟩), .int .i64 0]) ∧ (∃ X, bkT w.heap.size (bk0 q) w' X ∧ ∀ k, X k → w.heap.size ≤ k) ∧ Below w.heap.size w w' := by
  have HF : Hid ((∃ X, bkT w.heap.size (bk0 q) (w.alloc (.cells #[.slice none 0 0, .int .i64 0, .int .i64 (q : Nat), .slice none 0 0, .slice none 0 0] 69)) X ∧ ∀ k, X k → w.heap.size ≤ k) ∧ Below w.heap.size w (w.alloc (.cells #[.slice none 0 0, .int .i64 0, .int .i64 (q : Nat), .slice none 0 0, .slice none 0 0] 69))) := by
    refine ⟨⟨xB w.heap.size (.slice none 0 0) (.slice none 0 0) (.slice none 0 0), ⟨_, _, _, ⟨⟨heap_alloc_new w _, Rw.nil _ _ _, Rw.nil _ _ _, Rw.nil _ _ _, by simp [Value.ownBlock], by simp [Value.ownBlock], by simp [Value.ownBlock], by simp [Value.ownBlock], by simp [Value.ownBlock], by simp [Value.ownBlock]⟩, bk0_ok hq⟩, rfl⟩, fun k hk => ?_⟩, below_alloc _ _⟩
    rcases hk with e | e | e | e
    · omega
    all_goals simp [Value.ownBlock] at e
  go_enter Try.func13, Try.ntmps13
  go_wp2
  go_ret2
  exact ⟨rfl, HF.out⟩
theorem new_no (q : Int) (hq : q < 0) (w : World) : Calls Try.prog 13 #[.int .i64 q] w fun e w' => e = .returned (.tuple #[.pointer none, .int .i64 1]) ∧ w' = w := by
  go_enter Try.func13, Try.ntmps13
  go_wp2
  go_ret2
  exact ⟨rfl, rfl⟩
section
variable {w : World} {b : Nat} {X : Nat → Prop} {d : Bk}
theorem used_any (h : bkT b d w X) : Calls Try.prog 23 #[.pointer (some ⟨b, 0, none⟩)] w fun e w' => e = .returned (.int .i64 (total d.objs : Nat)) ∧ w' = w := by
  obtain ⟨ov, fv, lv, h, _⟩ := h
  obtain ⟨c0, c1, c2, c3, c4⟩ := h.raw.c
  go_enter Try.func23, Try.ntmps23
  go_wp2
  go_ret
  exact ⟨rfl, rfl⟩
theorem quota_any (h : bkT b d w X) : Calls Try.prog 25 #[.pointer (some ⟨b, 0, none⟩)] w fun e w' => e = .returned (.int .i64 (d.quota : Nat)) ∧ w' = w := by
  obtain ⟨ov, fv, lv, h, _⟩ := h
  obtain ⟨c0, c1, c2, c3, c4⟩ := h.raw.c
  go_enter Try.func25, Try.ntmps25
  go_wp2
  go_ret
  exact ⟨rfl, rfl⟩
theorem waits_any (h : bkT b d w X) : Calls Try.prog 26 #[.pointer (some ⟨b, 0, none⟩)] w fun e w' => e = .returned (.int .i64 (d.late.length : Nat)) ∧ w' = w := by
  obtain ⟨ov, fv, lv, h, _⟩ := h
  obtain ⟨c0, c1, c2, c3, c4⟩ := h.raw.c
  obtain ⟨a, cap, rfl⟩ := h.raw.ls.form
  go_enter Try.func26, Try.ntmps26
  go_wp2
  go_ret
  exact ⟨rfl, rfl⟩
theorem tells_nil (w : World) : Calls Try.prog 23 #[.pointer none] w (fun e w' => e = .returned (.int .i64 0) ∧ w' = w) ∧ Calls Try.prog 25 #[.pointer none] w (fun e w' => e = .returned (.int .i64 0) ∧ w' = w) ∧ Calls Try.prog 26 #[.pointer none] w (fun e w' => e = .returned (.int .i64 0) ∧ w' = w) ∧ Calls Try.prog 24 #[.pointer none] w (fun e w' => e = .returned (.slice none 0 0) ∧ w' = w) ∧ Calls Try.prog 18 #[.pointer none] w (fun e w' => e = .returned (.pointer none) ∧ w' = w) := by
  refine ⟨?_, ?_, ?_, ?_, ?_⟩
  · go_enter Try.func23, Try.ntmps23
    go_wp2
    go_ret
    exact ⟨rfl, rfl⟩
  · go_enter Try.func25, Try.ntmps25
    go_wp2
    go_ret
    exact ⟨rfl, rfl⟩
  · go_enter Try.func26, Try.ntmps26
    go_wp2
    go_ret
    exact ⟨rfl, rfl⟩
  · go_enter Try.func24, Try.ntmps24
    go_wp2
    go_ret
    exact ⟨rfl, rfl⟩
  · go_enter Try.func18, Try.ntmps18
    go_wp2
    go_ret
    exact ⟨rfl, rfl⟩
/-- What a call that only asks meets. -/
def Bk.fetchE (d : Bk) (s : ByteArray) : Int := if d.fate0 = 0 then (if foundB d.objs s then 0 else 15) else 34
def Bk.fetchS (d : Bk) (s : ByteArray) : ByteArray := if d.fate0 = 0 then (got d.objs s).getD { data := #[] } else { data := #[] }
theorem mem_total {o : Ob} : ∀ {l : List Ob}, o ∈ l → o.2.size ≤ total l
  | [], h => by cases h
  | x :: r, h => by
    have e : total (x :: r) = x.2.size + total r := by simp [total]
    rcases List.mem_cons.1 h with rfl | h
    · omega
    · have := mem_total h
      omega
theorem got_le {l : List Ob} {s x : ByteArray} (h : got l s = some x) : x.size ≤ total l := by
  unfold got at h
  obtain ⟨o, ho, rfl⟩ := Option.map_eq_some_iff.1 h
  exact mem_total (List.mem_of_find?_eq_some ho)
set_option maxHeartbeats 2000000 in
theorem fetch_any (h : bkT b d w X) (ho : d.objs.length ≤ 1000000) (hf : d.fates.length ≤ 1000000) (s : ByteArray) : Calls Try.prog 45 #[.pointer (some ⟨b, 0, none⟩), .string s] w fun e w' => e = .returned (.tuple #[.string (d.fetchS s), .int .i64 (d.fetchE s)]) ∧ LeftT (bkT b d.next) w X w' := by
  have hft := fate_any h hf
  have hok : d.Ok := by obtain ⟨_, _, _, h, _⟩ := h; exact h.ok
  have hlt4 := fate_lt hok
  by_cases e0 : d.fate0 = 0
  · have hE : d.fetchE s = if foundB d.objs s then 0 else 15 := by simp [Bk.fetchE, e0]
    have hS : d.fetchS s = (got d.objs s).getD { data := #[] } := by simp [Bk.fetchS, e0]
    rw [hE, hS]
    rw [e0] at hft
    clear hE hS e0 h hlt4
    cases hfd : foundB d.objs s with
    | false =>
      have hg := got_none hok.rise (foundB_none hfd)
      rw [hg]
      simp only [Bool.false_eq_true, if_false, Option.getD_none]
      clear hg
      go_enter Try.func45, Try.ntmps45
      go_wp2_with fail
      refine hft.mono ?_
      rintro e w2 ⟨rfl, hl2⟩
      have HL := hide hl2
      obtain ⟨X2, ⟨ov, fv, lv, h2, _⟩, _⟩ := hl2
      have hfi := find_any (s := s) h2.raw h2.ok.rise ho
      rw [show d.next.objs = d.objs from rfl, hfd] at hfi
      have hpl := place_le d.objs s
      clear hft h2
      generalize place d.objs s = P at *
      go_wp2_with fail
      refine hfi.mono ?_
      rintro e w3 ⟨rfl, hb3⟩
      clear hfi
      go_wp2
      go_ret2
      exact ⟨rfl, HL.out.later (bkT_good _ _) hb3⟩
    | true =>
      obtain ⟨o, hoo, hos⟩ := foundB_some hfd
      have hg := got_some hok.rise hoo hos
      rw [hg]
      simp only [if_true, Option.getD_some]
      clear hg
      go_enter Try.func45, Try.ntmps45
      go_wp2_with fail
      refine hft.mono ?_
      rintro e w2 ⟨rfl, hl2⟩
      have HL := hide hl2
      obtain ⟨X2, ⟨ov, fv, lv, h2, _⟩, _⟩ := hl2
      have hfi := find_any (s := s) h2.raw h2.ok.rise ho
      rw [show d.next.objs = d.objs from rfl, hfd] at hfi
      have hlt : place d.objs s < d.objs.length := (List.getElem?_eq_some_iff.1 hoo).1
      obtain ⟨g, off, cap, rfl, hgl, hnc, hcm⟩ := h2.raw.os.pos (show 0 < d.next.objs.length by show 0 < d.objs.length; omega)
      have HC : Hid (∀ w', Below w2.heap.size w2 w' → w'.cell? ⟨g, off + place d.objs s * 2 + 1, none⟩ = some (.string o.2) ∧ w'.cell? ⟨b, 0, none⟩ = some (.slice (some ⟨g, off, none⟩) d.objs.length cap)) := fun w' hb => ⟨(ob_cells (h2.raw.later hb).os hoo).2, (h2.raw.later hb).c.1⟩
      clear hft h2 hfd hoo hos
      generalize place d.objs s = P at *
      generalize d.objs.length = N at *
      obtain ⟨O1, O2⟩ := o
      simp only at *
      go_wp2_with fail
      refine hfi.mono ?_
      rintro e w3 ⟨rfl, hb3⟩
      obtain ⟨k1, k0⟩ := HC.out _ hb3
      clear hfi HC
      go_wp2
      go_ret2
      exact ⟨rfl, HL.out.later (bkT_good _ _) hb3⟩
  · have hE : d.fetchE s = 34 := by simp [Bk.fetchE, e0]
    have hS : d.fetchS s = { data := #[] } := by simp [Bk.fetchS, e0]
    rw [hE, hS]
    clear hE hS h
    obtain ⟨f, hf0⟩ : ∃ f, d.fate0 = f := ⟨_, rfl⟩
    rw [hf0] at hft e0 hlt4
    have b0 : ((f : Int) == 0) = false := by simp; omega
    have b1 : ((f : Int) != 0) = true := by simp; omega
    clear hf0
    go_enter Try.func45, Try.ntmps45
    go_wp2_with fail
    refine hft.mono ?_
    rintro e w2 ⟨rfl, hl2⟩
    have HL := hide hl2
    clear hft hl2
    go_wp2
    go_ret2
    exact ⟨rfl, HL.out⟩
end

end Wi
end Go.Proofs.Ythnhapjjgaicdaa
