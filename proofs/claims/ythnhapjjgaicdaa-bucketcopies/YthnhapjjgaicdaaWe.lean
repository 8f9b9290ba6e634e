/- A bucket in memory, and where a name is found in it. -/
import Derived.Test.YthnhapjjgaicdaaWd
import Derived.Test.YthnhapjjgaicdaaMc
namespace Go.Proofs.Ythnhapjjgaicdaa
open Go.RowKit
namespace Wi

def encO (o : Ob) : List Value := [.string o.1, .string o.2]
def encOs (l : List Ob) : List Value := l.flatMap encO
/-- What does a late call. -/
def fnOf (p : Bool) : Value := .func (.func (if p then 44 else 49)) #[] #[]
def encCh (c : Ch) : List Value := [fnOf c.1, .string c.2.1, .string c.2.2]
def encLs (l : List Ch) : List Value := l.flatMap encCh
def encF (l : List Nat) : List Value := l.map fun x => .int .i64 (x : Nat)
theorem encOs_length (l : List Ob) : (encOs l).length = l.length * 2 := flat_len (k := 2) l fun _ _ => rfl
theorem encLs_length (l : List Ch) : (encLs l).length = l.length * 3 := flat_len (k := 3) l fun _ _ => rfl
theorem encOs_append (l m : List Ob) : encOs (l ++ m) = encOs l ++ encOs m := List.flatMap_append
theorem encLs_append (l m : List Ch) : encLs (l ++ m) = encLs l ++ encLs m := List.flatMap_append
theorem encF_append (l m : List Nat) : encF (l ++ m) = encF l ++ encF m := List.map_append
theorem encOs_one (l : List Ob) : ∀ u ∈ encOs l, u.oneCell' = true := by
  intro u hu
  obtain ⟨o, _, ho⟩ := List.mem_flatMap.1 hu
  simp only [encO, List.mem_cons, List.not_mem_nil, or_false] at ho
  rcases ho with rfl | rfl <;> rfl
theorem encLs_one (l : List Ch) : ∀ u ∈ encLs l, u.oneCell' = true := by
  intro u hu
  obtain ⟨o, _, ho⟩ := List.mem_flatMap.1 hu
  simp only [encCh, List.mem_cons, List.not_mem_nil, or_false] at ho
  rcases ho with rfl | rfl | rfl <;> rfl
theorem encF_one (l : List Nat) : ∀ u ∈ encF l, u.oneCell' = true := by
  intro u hu
  obtain ⟨o, _, rfl⟩ := List.mem_map.1 hu
  rfl
structure RawB (w : World) (b : Nat) (ov fv lv : Value) (used quota : Int) (objs : List Ob) (fates : List Nat) (late : List Ch) : Prop where
  blk : w.heap[b]? = some (.cells #[ov, .int .i64 used, .int .i64 quota, fv, lv] 69 (0, 0))
  os : Rw w 76 2 ov objs.length (encOs objs)
  fs : Rw w 3 1 fv fates.length (encF fates)
  ls : Rw w 81 3 lv late.length (encLs late)
  no : ov.ownBlock ≠ some b
  nf : fv.ownBlock ≠ some b
  nl : lv.ownBlock ≠ some b
  nof : ∀ k, ov.ownBlock = some k → fv.ownBlock ≠ some k
  nol : ∀ k, ov.ownBlock = some k → lv.ownBlock ≠ some k
  nfl : ∀ k, fv.ownBlock = some k → lv.ownBlock ≠ some k
/-- What a bucket's calls may turn. -/
def xB (b : Nat) (ov fv lv : Value) (k : Nat) : Prop := k = b ∨ ov.ownBlock = some k ∨ fv.ownBlock = some k ∨ lv.ownBlock = some k
section
variable {w w' : World} {b : Nat} {ov fv lv : Value} {used quota : Int} {objs : List Ob} {fates : List Nat} {late : List Ch}
theorem RawB.lt (h : RawB w b ov fv lv used quota objs fates late) : b < w.heap.size := lt_of_block h.blk
theorem RawB.c (h : RawB w b ov fv lv used quota objs fates late) : w.cell? ⟨b, 0, none⟩ = some ov ∧ w.cell? ⟨b, 1, none⟩ = some (.int .i64 used) ∧ w.cell? ⟨b, 2, none⟩ = some (.int .i64 quota) ∧ w.cell? ⟨b, 3, none⟩ = some fv ∧ w.cell? ⟨b, 4, none⟩ = some lv :=
  ⟨by rw [cell_of_row w b 0 _ _ _ h.blk]; rfl, by rw [cell_of_row w b 1 _ _ _ h.blk]; rfl, by rw [cell_of_row w b 2 _ _ _ h.blk]; rfl, by rw [cell_of_row w b 3 _ _ _ h.blk]; rfl, by rw [cell_of_row w b 4 _ _ _ h.blk]; rfl⟩
theorem RawB.fr (h : RawB w b ov fv lv used quota objs fates late) (i : Nat) : w.frozen? ⟨b, i, none⟩ = false := frozen_of_row w _ _ _ _ h.blk
theorem RawB.keep {X : Nat → Prop} (h : RawB w b ov fv lv used quota objs fates late) (k : Keep X w w') (hx : ∀ i, xB b ov fv lv i → ¬ X i) : RawB w' b ov fv lv used quota objs fates late :=
  ⟨(k.block b h.lt (hx b (.inl rfl))).trans h.blk, h.os.keep k fun i hi => hx i (.inr (.inl hi)), h.fs.keep k fun i hi => hx i (.inr (.inr (.inl hi))), h.ls.keep k fun i hi => hx i (.inr (.inr (.inr hi))), h.no, h.nf, h.nl, h.nof, h.nol, h.nfl⟩
theorem RawB.later (h : RawB w b ov fv lv used quota objs fates late) (hb : Below w.heap.size w w') : RawB w' b ov fv lv used quota objs fates late :=
  h.keep (X := fun _ => False) (Keep.of_below hb) fun _ _ => id
theorem RawB.xlt (h : RawB w b ov fv lv used quota objs fates late) : ∀ k, xB b ov fv lv k → k < w.heap.size := fun k hk => by
  rcases hk with rfl | hk | hk | hk
  · exact h.lt
  · exact h.os.lt k hk
  · exact h.fs.lt k hk
  · exact h.ls.lt k hk
end
/-- An object's cells. -/
theorem ob_cells {w : World} {g off cap : Nat} {objs : List Ob} (h : Rw w 76 2 (.slice (some ⟨g, off, none⟩) objs.length cap) objs.length (encOs objs)) {i : Nat} {o : Ob} (hi : objs[i]? = some o) : w.cell? ⟨g, off + i * 2, none⟩ = some (.string o.1) ∧ w.cell? ⟨g, off + i * 2 + 1, none⟩ = some (.string o.2) := by
  have hp := flat_part (f := encO) (k := 2) objs i o (fun _ _ => rfl) hi
  have h0 : (encOs objs)[i * 2]? = some (.string o.1) := by
    have : ((encOs objs).drop (i * 2)).take 2 = encO o := hp
    have e := congrArg (fun l : List Value => l[0]?) this
    simpa [encO] using e
  have h1 : (encOs objs)[i * 2 + 1]? = some (.string o.2) := by
    have : ((encOs objs).drop (i * 2)).take 2 = encO o := hp
    have e := congrArg (fun l : List Value => l[1]?) this
    simpa [encO] using e
  exact ⟨(h.cell h0).1, (h.cell h1).1⟩
theorem mid_lt {i j : Nat} (h : i < j) : i ≤ (i + j) / 2 ∧ (i + j) / 2 < j := by omega
set_option maxHeartbeats 4000000 in
theorem search_any {w : World} {v : Value} {objs : List Ob} (h : Rw w 76 2 v objs.length (encOs objs)) (hr : Rise objs) (hn : objs.length ≤ 1000000) (s : ByteArray) :
    Calls Try.prog 60 #[v, .string s, .func (.func 61) #[] #[]] w fun e w' => e = .returned (.tuple #[.int .i64 (place objs s : Nat), .bool (foundB objs s)]) ∧ Below w.heap.size w w' := by
  obtain ⟨a, cap, rfl⟩ := h.form
  have HR := hide h
  have HI := hide hr
  clear h hr
  go_enter Try.func60, Try.ntmps60
  go_wp2
  go_loopw [9, 10] (fun x y wr => ∃ i j : Nat, i ≤ j ∧ j ≤ objs.length ∧ x = .int .i64 i ∧ y = .int .i64 j ∧ Hid (∀ k o, k < i → objs[k]? = some o → cmpB o.1 s < 0) ∧ Hid (∀ k o, j ≤ k → objs[k]? = some o → 0 ≤ cmpB o.1 s) ∧ Below w.heap.size w wr) (fun x y _ => (intOf y).toNat - (intOf x).toNat)
  case atStart => exact ⟨0, objs.length, Nat.zero_le _, Nat.le_refl _, rfl, rfl, fun k _ hk => by omega, fun k o hk ho => by have := (List.getElem?_eq_some_iff.1 ho).1; omega, Below.refl _ _⟩
  case round =>
    obtain ⟨i, j, hij, hj, rfl, rfl, hA, hB, hb⟩ := hrel
    by_cases hlt : i < j
    · obtain ⟨m1, m2⟩ := mid_lt hlt
      obtain ⟨m, hm⟩ : ∃ m, (i + j) / 2 = m := ⟨_, rfl⟩
      rw [hm] at m1 m2
      have HM := hide hm
      obtain ⟨o, ho⟩ : ∃ o, objs[m]? = some o := ⟨_, List.getElem?_eq_getElem (by omega)⟩
      obtain ⟨g, off, cap', hv, hgl, _⟩ := HR.out.pos (by omega)
      simp only [Value.slice.injEq] at hv
      obtain ⟨rfl, _, rfl⟩ := hv
      obtain ⟨c0, c1⟩ := ob_cells (HR.out.later hb) ho
      have hc := closure_any o.1 o.2 s wr
      obtain ⟨n1, n2⟩ := cmpB_num o.1 s
      have w1 : ((i : Int) + (j : Int)) / 2 = (m : Int) := by omega
      have hmb : m ≤ 1000000 := by omega
      have HO := hide ho
      obtain ⟨O1, O2⟩ := o
      simp only at *
      generalize hC : cmpB O1 s = C at *
      have HC := hide hC
      clear ho hC hm
      go_wp2_with fail
      refine hc.mono ?_
      rintro e w2 ⟨rfl, hb2⟩
      have hb3 := hide (hb.trans (hb2.mono hb.size))
      clear hc c0 c1 hb hb2
      by_cases hneg : C < 0
      · have HA : Hid (∀ k o, k < m + 1 → objs[k]? = some o → cmpB o.1 s < 0) := fun k o hk ho => by
          rcases Nat.lt_or_ge k m with h1 | h1
          · have := HI.out.at ho HO.out h1
            have h2 : cmpB O1 s < 0 := by rw [HC.out]; exact hneg
            exact cmpB_trans this h2
          · obtain rfl : k = m := by omega
            rw [HO.out] at ho
            cases ho
            show cmpB O1 s < 0
            rw [HC.out]
            exact hneg
        go_wp2
        go_roundw
        case rel => exact ⟨m + 1, j, by omega, hj, by go_num, rfl, HA, hB, hb3.out⟩
        case measure => simp [intOf]; omega
      · have HB : Hid (∀ k o, m ≤ k → objs[k]? = some o → 0 ≤ cmpB o.1 s) := fun k o hk ho => Int.not_lt.1 fun h => by
          rcases Nat.lt_or_ge m k with h1 | h1
          · have := HI.out.at HO.out ho h1
            have h2 := cmpB_trans this h
            rw [HC.out] at h2
            exact hneg h2
          · obtain rfl : k = m := by omega
            rw [HO.out] at ho
            cases ho
            have h2 : cmpB O1 s < 0 := h
            rw [HC.out] at h2
            exact hneg h2
        go_wp2
        go_roundw
        case rel => exact ⟨i, m, by omega, by omega, rfl, rfl, hA, HB, hb3.out⟩
        case measure => simp [intOf]; omega
    · obtain rfl : i = j := by omega
      have hpl : place objs s = i := place_eq objs s i hj hA.out fun o ho => Int.not_lt.2 (hB.out i o (Nat.le_refl _) ho)
      by_cases hin : i < objs.length
      · obtain ⟨o, ho⟩ : ∃ o, objs[i]? = some o := ⟨_, List.getElem?_eq_getElem hin⟩
        obtain ⟨g, off, cap', hv, hgl, _⟩ := HR.out.pos (by omega)
        simp only [Value.slice.injEq] at hv
        obtain ⟨rfl, _, rfl⟩ := hv
        obtain ⟨c0, c1⟩ := ob_cells (HR.out.later hb) ho
        have hc := closure_any o.1 o.2 s wr
        obtain ⟨n1, n2⟩ := cmpB_num o.1 s
        have HF : Hid (foundB objs s = decide (cmpB o.1 s = 0)) := by
          show _ = _
          rw [foundB, hpl, ho]
          simp only [cmpB_zero]
        have HP := hide hpl
        obtain ⟨O1, O2⟩ := o
        simp only at *
        generalize cmpB O1 s = C at *
        clear ho hpl
        go_wp2_with fail
        refine hc.mono ?_
        rintro e w2 ⟨rfl, hb2⟩
        have hb3 := hide (hb.trans (hb2.mono hb.size))
        clear hc c0 c1 hb hb2
        by_cases h0 : C = 0
        · subst h0
          go_wp2
          go_ret2
          exact ⟨by rw [HF.out, HP.out]; rfl, hb3.out⟩
        · have hz : (C == 0) = false := by simpa using h0
          have hz2 : Hid (decide (C = 0) = false) := decide_eq_false h0
          clear h0
          go_wp2
          go_ret2
          exact ⟨by rw [HF.out, HP.out, hz2.out]; rfl, hb3.out⟩
      · have HF : Hid (foundB objs s = false) := by
          show _ = _
          rw [foundB, hpl, List.getElem?_eq_none (by omega)]
        have HP := hide hpl
        clear hpl
        go_wp2
        go_ret2
        exact ⟨by rw [HF.out, HP.out]; rfl, hb⟩
theorem find_any {w : World} {b : Nat} {ov fv lv : Value} {used quota : Int} {objs : List Ob} {fates : List Nat} {late : List Ch} (h : RawB w b ov fv lv used quota objs fates late) (hr : Rise objs) (hn : objs.length ≤ 1000000) (s : ByteArray) :
    Calls Try.prog 56 #[.pointer (some ⟨b, 0, none⟩), .string s] w fun e w' => e = .returned (.tuple #[.int .i64 (place objs s : Nat), .bool (foundB objs s)]) ∧ Below w.heap.size w w' := by
  obtain ⟨c0, c1, c2, c3, c4⟩ := h.c
  have hc := search_any h.os hr hn s
  clear h
  generalize place objs s = P at *
  generalize foundB objs s = F at *
  go_enter Try.func56, Try.ntmps56
  go_wp2_with fail
  refine hc.mono ?_
  rintro e w2 ⟨rfl, hb2⟩
  clear hc
  go_wp2
  go_ret2
  exact ⟨rfl, hb2⟩

end Wi
end Go.Proofs.Ythnhapjjgaicdaa
