/- Package bucket: names that begin so. -/
import Derived.Test.YthnhapjjgaicdaaWv
import Derived.Test.YthnhapjjgaicdaaMd
namespace Go.Proofs.Ythnhapjjgaicdaa
open Go.RowKit
namespace Wi

theorem begins_eq (s p : ByteArray) : begins s p = decide (p.size ≤ s.size ∧ s.extract 0 p.size = p) := by
  unfold begins
  rw [decide_eq_decide, List.prefix_iff_eq_take]
  have e : (s.extract 0 p.size).data.toList = s.data.toList.take p.data.toList.length := by
    rw [show p.data.toList.length = p.size from rfl]
    simp [ByteArray.data_extract]
  constructor
  · intro h
    rw [h.symm] at e
    have e2 : s.extract 0 p.size = p := key_inj e
    refine ⟨?_, e2⟩
    have h3 := congrArg ByteArray.size e2
    rw [ByteArray.size_extract] at h3
    omega
  · rintro ⟨_, h⟩
    rw [h] at e
    exact e
theorem prefix_any (s p : ByteArray) (_hs : s.size ≤ 9223372036854775807) (hp : p.size ≤ 9223372036854775807) (w : World) : Calls Try.prog 65 #[.string s, .string p] w fun e w' => e = .returned (.bool (begins s p)) ∧ w' = w := by
  rw [begins_eq]
  by_cases h : p.size ≤ s.size
  · obtain ⟨T, hT⟩ : ∃ T, s.extract 0 p.size = T := ⟨_, rfl⟩
    by_cases h2 : T = p
    · rw [decide_eq_true ⟨h, hT.trans h2⟩]
      subst h2
      have v1 : (T.toList == T.toList) = true := beq_lists rfl
      go_enter Try.func65, Try.ntmps65
      go_wp2
      go_ret
      exact ⟨rfl, rfl⟩
    · rw [decide_eq_false fun hh => h2 (hT.symm.trans hh.2)]
      have v1 : (T.toList == p.toList) = false := bne_lists h2
      clear h2
      go_enter Try.func65, Try.ntmps65
      go_wp2
      go_ret
      exact ⟨rfl, rfl⟩
  · rw [decide_eq_false fun hh => h hh.1]
    go_enter Try.func65, Try.ntmps65
    go_wp2
    go_ret
    exact ⟨rfl, rfl⟩
theorem hasprefix_any (s p : ByteArray) (hs : s.size ≤ 9223372036854775807) (hp : p.size ≤ 9223372036854775807) (w : World) : Calls Try.prog 58 #[.string s, .string p] w fun e w' => e = .returned (.bool (begins s p)) ∧ w' = w := by
  have hc := prefix_any s p hs hp w
  generalize begins s p = B at *
  go_enter Try.func58, Try.ntmps58
  go_wp2_with fail
  refine hc.mono ?_
  rintro e w' ⟨rfl, rfl⟩
  go_wp2
  go_ret
  exact ⟨rfl, rfl⟩
def encN (l : List ByteArray) : List Value := l.map fun s => .string s
theorem encN_append (l m : List ByteArray) : encN (l ++ m) = encN l ++ encN m := List.map_append
/-- New memory that holds these texts. -/
structure NewSs (w : World) (l : List ByteArray) (w' : World) (v : Value) : Prop where
  row : Rw w' 9 1 v l.length (encN l)
  new : From w.heap.size v
  below : Below w.heap.size w w'
theorem NewSs.later {w w1 w2 : World} {l : List ByteArray} {v : Value} (h : NewSs w l w1 v) (hb : Below w1.heap.size w1 w2) : NewSs w l w2 v := ⟨h.row.later hb, h.new, h.below.trans (hb.mono h.below.size)⟩
theorem NewSs.push {w w1 w2 w3 : World} {l : List ByteArray} {v v2 : Value} {s : ByteArray} (h : NewSs w l w1 v) (hb : Below w1.heap.size w1 w2) (g1 : Rw w3 9 1 v2 (l.length + 1) (encN l ++ [.string s])) (g2 : w2.grownBy w3 v.ownBlock) (g3 : Moved w2 v v2) : NewSs w (l ++ [s]) w3 v2 := by
  have hb2 : Below w.heap.size w w2 := h.below.trans (hb.mono h.below.size)
  refine ⟨by rw [encN_append, List.length_append]; exact g1, h.new.moved g3 hb2.size, below_grown hb2 g2 hb2.size h.new⟩
theorem take_pre {l : List Ob} {p : ByteArray} {k : Nat} (h : ∀ o ∈ l.take k, begins o.1 p = true) (hn : ∀ o, l[k]? = some o → begins o.1 p = false) : l.takeWhile (fun o => begins o.1 p) = l.take k := by
  induction l generalizing k with
  | nil => simp
  | cons x r ih =>
    cases k with
    | zero =>
      have := hn x rfl
      simp [this]
    | succ k =>
      have hx := h x (by simp)
      rw [List.takeWhile_cons, hx, List.take_succ_cons]
      simp only [if_true]
      rw [ih (k := k) (fun o ho => h o (by simp [ho])) (fun o ho => hn o (by simpa using ho))]
theorem info9 : (Try.prog.info? 9).map (fun i => (i.zero, i.size, i.bytes)) = some (some (.string { data := #[] }), 1, 16) := by kernel_rfl
set_option maxHeartbeats 8000000 in
theorem begin_any {w : World} {b : Nat} {ov fv lv : Value} {used quota : Int} {objs : List Ob} {fates : List Nat} {late : List Ch} (h : RawB w b ov fv lv used quota objs fates late) (hr : Rise objs) (hn : objs.length ≤ 1000000) (hz : ∀ o ∈ objs, o.1.size ≤ 9223372036854775807) (p : ByteArray) (hp : p.size ≤ 9223372036854775807) :
    Calls Try.prog 47 #[.pointer (some ⟨b, 0, none⟩), .string p] w fun e w' => ∃ v, e = .returned v ∧ NewSs w (namesOf objs p) w' v := by
  obtain ⟨i0, hi, hz0, hz1, hz2⟩ := info_parts info9
  have hf := find_any h hr hn p
  have hpl := place_le objs p
  have HRUN := hide (begins_run p objs hr)
  obtain ⟨P, hP⟩ : ∃ P, P = place objs p := ⟨_, rfl⟩
  rw [← hP] at hf hpl HRUN
  generalize foundB objs p = F at *
  obtain ⟨a, cap, hov⟩ := h.os.form
  have hcap : objs.length ≤ cap ∧ cap ≤ 9223372036854775807 := by
    rcases h.os.2 with ⟨hv, h0⟩ | ⟨g, off, cap', cur, hv, _, h1, h2, _⟩
    · rw [hov] at hv
      injection hv with e1 e2 e3
      omega
    · rw [hov] at hv
      injection hv with e1 e2 e3
      unfold maxLen at h2
      omega
  have hdr := h.os
  rw [hov] at hdr
  have hdr := hdr.drop (k := P) hpl
  rw [(encOs_take objs P hpl).2] at hdr
  obtain ⟨a2, ha2⟩ : ∃ a2, a2 = (if cap = P then a else a.map (·.add (P * 2))) := ⟨_, rfl⟩
  rw [← ha2] at hdr
  have hsl : ∀ w, (Instr.slice 66 (.slice a objs.length cap) (some (.int .i64 (P : Nat))) none none).run Try.prog w = .ok (.slice a2 (objs.length - P) (cap - P)) w := fun w => by
    have b2 : ¬ objs.length < P := by omega
    simp [Instr.slice, Instr.sliceBounds, Instr.sliceBound, run_underlying Try.underlying66, asIntOf, b2, ha2]
  have HDR := hide hdr
  have HH := hide h
  obtain ⟨c0, c1, c2, c3, c4⟩ := h.c
  rw [hov] at c0
  obtain ⟨M, hM⟩ : ∃ M, M = objs.length - P := ⟨_, rfl⟩
  rw [← hM] at hsl
  have HM := hide hM
  have hMl : M ≤ 1000000 := by omega
  have HZ := hide hz
  have HNS : Hid (∀ k, (objs.drop P).takeWhile (fun o => begins o.1 p) = (objs.drop P).take k → ((objs.drop P).take k).map (·.1) = namesOf objs p) := fun k hk => by
    rw [namesOf, ← HRUN.out, hk]
  clear hdr h hr hz hM ha2 hP
  go_enter Try.func47, Try.ntmps47
  go_wp2_with fail
  refine hf.mono ?_
  rintro e w1 ⟨rfl, hb1⟩
  have k0 := (hb1.cell (p := ⟨b, 0, none⟩) HH.out.lt).trans c0
  have HB1 := hide hb1
  clear hf c0 c1 c2 c3 c4 hb1
  have HS : Hid (NewSs w (((objs.drop P).take 0).map (·.1)) w1 (.slice none 0 0)) := ⟨Rw.nil _ _ _, From.nil _ _ _, HB1.out⟩
  go_wp2
  go_loopw [5, 23] (fun v i wr => ∃ k : Nat, k ≤ M ∧ i = .int .i64 k ∧ NewSs w (((objs.drop P).take k).map (·.1)) wr v ∧ Hid (∀ o ∈ (objs.drop P).take k, begins o.1 p = true)) (fun _ i _ => M - (intOf i).toNat)
  case atStart => exact ⟨0, Nat.zero_le _, rfl, HS.out, by show ∀ o ∈ _, _; simp⟩
  case round =>
    clear HS
    obtain ⟨k, hk, rfl, hN, hA⟩ := hrel
    by_cases hlt : k < M
    · obtain ⟨o, ho⟩ : ∃ o, (objs.drop P)[k]? = some o := ⟨_, List.getElem?_eq_getElem (by rw [List.length_drop, ← HM.out]; exact hlt)⟩
      have hoz := HZ.out o (List.mem_of_mem_drop (List.mem_of_getElem? ho))
      have hD := HDR.out.later hN.below
      rw [← List.length_drop] at hD
      obtain ⟨g, off, cap', hv, hgl, _⟩ := hD.pos (by rw [List.length_drop, ← HM.out]; omega)
      rw [hv] at hD
      injection hv with e1 e2 e3
      subst e1
      obtain ⟨q0, q1⟩ := ob_cells hD ho
      have hb3 := below_alloc wr (.cells #[.string o.1, .string o.2] 76)
      have hc := hasprefix_any o.1 p hoz hp (wr.alloc (.cells #[.string o.1, .string o.2] 76))
      have HO := hide ho
      have HT := hide (snoc_take _ _ _ ho)
      clear hD e2 e3 ho
      obtain ⟨O1, O2⟩ := o
      simp only at *
      cases hbg : begins O1 p with
      | true =>
        rw [hbg] at hc
        have hb4 := below_alloc (wr.alloc (.cells #[.string O1, .string O2] 76)) (.cells #[.string O1] 9)
        have hN4 := hN.later (hb3.trans (hb4.mono hb3.size))
        have hrow := hide hN4.row
        have HN4 := hide hN4
        have hcn := cell_one_new (wr.alloc (.cells #[.string O1, .string O2] 76)) (.string O1) 9
        rw [show (wr.alloc (.cells #[.string O1, .string O2] 76)).heap.size = wr.heap.size + 1 by simp] at hcn
        have HCN := hide hcn
        have HON : Hid (∀ u ∈ [Value.string O1], u.oneCell' = true) := fun u hu => by rw [List.mem_singleton.1 hu]; rfl
        have hlen : (((objs.drop P).take k).map (·.1)).length = k := by
          rw [List.length_map, List.length_take, List.length_drop, ← HM.out]
          omega
        have hmx : (((objs.drop P).take k).map (·.1)).length + 1 ≤ maxLen := by rw [hlen]; unfold maxLen; omega
        have hby : ((((objs.drop P).take k).map (·.1)).length + 1) * 16 ≤ 140737488355328 := by rw [hlen]; omega
        have HA2 : Hid (∀ o ∈ (objs.drop P).take (k + 1), begins o.1 p = true) := fun o ho => by
          rw [HT.out] at ho
          rcases List.mem_append.1 ho with h1 | h1
          · exact hA.out o h1
          · rw [List.mem_singleton.1 h1]; exact hbg
        clear hN hN4 hcn hb4 hA hbg hlen
        go_wp2_with fail
        refine hc.mono ?_
        rintro e w' ⟨rfl, rfl⟩
        clear hc
        go_wp2_with (at_builtin; refine wpList_append_rw rfl (.tmp 32) (.tmp 35) 36 rfl 9 i0 _ 1 16 Try.underlying36 hi hz0 hz1 hz2 rfl (by decide) _ _ _ rfl hrow.out ⟨wr.heap.size + 1, 0, none⟩ 1 1 [.string O1] rfl rfl HCN.out HON.out hmx hby ?_; intro v2 w3 g1 g2 g3; replace g1 := hide g1; replace g2 := hide g2; replace g3 := hide g3)
        have HF : Hid (NewSs w (((objs.drop P).take (k + 1)).map (·.1)) w3 v2) := by
          have := HN4.out.push (Below.refl _ _) g1.out g2.out g3.out
          show NewSs _ _ _ _
          rw [HT.out, List.map_append]
          exact this
        clear g1 g2 g3
        go_roundw
        case rel => exact ⟨k + 1, by omega, by go_num, HF.out, HA2⟩
        case measure => simp [intOf]; omega
      | false =>
        rw [hbg] at hc
        have HF : Hid (NewSs w (namesOf objs p) (wr.alloc (.cells #[.string O1, .string O2] 76)) u5) := by
          have e := HNS.out k (take_pre hA.out fun o ho => by rw [HO.out] at ho; cases ho; exact hbg)
          have := hN.later hb3
          rw [e] at this
          exact this
        clear hN hA hbg
        go_wp2_with fail
        refine hc.mono ?_
        rintro e w' ⟨rfl, rfl⟩
        clear hc
        go_wp2
        go_ret
        exact ⟨_, rfl, HF.out⟩
    · obtain rfl : k = M := by omega
      have HF : Hid (NewSs w (namesOf objs p) wr u5) := by
        have e := HNS.out k (take_pre hA.out fun o ho => by
          have := (List.getElem?_eq_some_iff.1 ho).1
          rw [List.length_drop, ← HM.out] at this
          omega)
        rw [e] at hN
        exact hN
      clear hN hA
      go_wp2
      go_ret
      exact ⟨_, rfl, HF.out⟩

end Wi
end Go.Proofs.Ythnhapjjgaicdaa
