/- Calls that are handed in, and calls of a nil bucket. -/
import Derived.Test.YthnhapjjgaicdaaWu
namespace Go.Proofs.Ythnhapjjgaicdaa
open Go.RowKit
namespace Wi

/-- A call: what is asked, its name, bytes, place, number and numbers. -/
structure OpV where
  ask : Int
  name : ByteArray
  data : ByteArray
  place : Int
  n : Int
  la : Option Addr
  ln : Nat
  lc : Nat
  l : List Int
def OpV.cells (o : OpV) : List Value := [.int .i64 o.ask, .string o.name, .string o.data, .int .i64 o.place, .int .i64 o.n, .slice o.la o.ln o.lc]
structure OpOk (w : World) (X : Nat → Prop) (o : OpV) : Prop where
  ask : Num o.ask
  name : o.name.size ≤ 9223372036854775807
  data : o.data.size ≤ 9223372036854775807
  place : Num o.place
  n : Num o.n
  l : Is w X o.la o.ln o.l
theorem Is.later {w w' : World} {X : Nat → Prop} {a : Option Addr} {n : Nat} {l : List Int} (h : Is w X a n l) (hb : Below w.heap.size w w') : Is w' X a n l :=
  ⟨h.len, h.most, h.num, fun i x hi => by
    obtain ⟨g, off, ha, hg, hx, c0⟩ := h.cells i x hi
    exact ⟨g, off, ha, Nat.lt_of_lt_of_le hg hb.size, hx, (hb.cell (p := ⟨g, off + i, none⟩) hg).trans c0⟩⟩
theorem Is.to {W w : World} {X : Nat → Prop} {a : Option Addr} {n : Nat} {l : List Int} (h : Is W (fun _ => False) a n l) (hb : Below W.heap.size W w) (hx : ∀ k, X k → W.heap.size ≤ k) : Is w X a n l :=
  ⟨h.len, h.most, h.num, fun i x hi => by
    obtain ⟨g, off, ha, hg, _, c0⟩ := h.cells i x hi
    exact ⟨g, off, ha, Nat.lt_of_lt_of_le hg hb.size, fun e => by have := hx g e; omega, (hb.cell (p := ⟨g, off + i, none⟩) hg).trans c0⟩⟩
theorem OpOk.later {w w' : World} {X : Nat → Prop} {o : OpV} (h : OpOk w X o) (hb : Below w.heap.size w w') : OpOk w' X o := ⟨h.ask, h.name, h.data, h.place, h.n, h.l.later hb⟩
theorem OpOk.to {W w : World} {X : Nat → Prop} {o : OpV} (h : OpOk W (fun _ => False) o) (hb : Below W.heap.size W w) (hx : ∀ k, X k → W.heap.size ≤ k) : OpOk w X o := ⟨h.ask, h.name, h.data, h.place, h.n, h.l.to hb hx⟩
structure Os (w : World) (a : Option Addr) (n : Nat) (xs : List OpV) : Prop where
  len : n = xs.length
  most : n ≤ 9223372036854775807
  ok : ∀ o ∈ xs, OpOk w (fun _ => False) o
  cells : ∀ i o, xs[i]? = some o → ∃ b off, a = some ⟨b, off, none⟩ ∧ b < w.heap.size ∧ w.rangeAt b (off + i * 6) o.cells
def badO (o : OpV) : Prop := 300 < o.name.size ∨ (300 < o.data.size ∧ o.data.size ≤ 65536) ∨ 20 < o.ln
instance (o : OpV) : Decidable (badO o) := by unfold badO; infer_instance
def fewB (xs : List OpV) : Bool := xs.all (fun o => decide (¬ badO o)) && decide (xs.length ≤ 60)
theorem fewB_iff {xs : List OpV} : fewB xs = true ↔ (∀ o ∈ xs, ¬ badO o) ∧ xs.length ≤ 60 := by simp [fewB]
theorem op_cells {w : World} {b off : Nat} {o : OpV} (h : w.rangeAt b off o.cells) : w.cell? ⟨b, off, none⟩ = some (.int .i64 o.ask) ∧ w.cell? ⟨b, off + 1, none⟩ = some (.string o.name) ∧ w.cell? ⟨b, off + 2, none⟩ = some (.string o.data) ∧ w.cell? ⟨b, off + 3, none⟩ = some (.int .i64 o.place) ∧ w.cell? ⟨b, off + 4, none⟩ = some (.int .i64 o.n) ∧ w.cell? ⟨b, off + 5, none⟩ = some (.slice o.la o.ln o.lc) :=
  ⟨h 0 _ rfl, h 1 _ rfl, h 2 _ rfl, h 3 _ rfl, h 4 _ rfl, h 5 _ rfl⟩
set_option maxHeartbeats 4000000 in
theorem few_any {w : World} {a : Option Addr} {n cap : Nat} {xs : List OpV} (h : Os w a n xs) : Calls Try.prog 11 #[.slice a n cap] w fun e w' => e = .returned (.bool (fewB xs)) ∧ w' = w := by
  have hn := h.most
  have HL := hide h.len
  go_enter Try.func11, Try.ntmps11
  go_wp2
  go_loop [3] (fun i => ∃ k : Nat, k ≤ n ∧ i = .int .i64 k ∧ Hid ((xs.take k).all (fun o => decide (¬ badO o)) = true)) (fun i => n - (intOf i).toNat)
  case atStart => exact ⟨0, Nat.zero_le _, rfl, by show _ = _; simp⟩
  case round =>
    obtain ⟨k, hk, rfl, HA⟩ := hrel
    by_cases hlt : k < n
    · obtain ⟨o, ho⟩ : ∃ o, xs[k]? = some o := ⟨_, List.getElem?_eq_getElem (by have := HL.out; omega)⟩
      obtain ⟨b, off, rfl, hb, hr⟩ := h.cells k o ho
      obtain ⟨c0, c1, c2, c3, c4, c5⟩ := op_cells hr
      have hok := h.ok o (List.mem_of_getElem? ho)
      have hd := hok.data
      have hnm := hok.name
      have hkm := hok.l.most
      have HT := hide (snoc_take _ _ _ ho)
      have HO := hide ho
      clear ho hr hok
      by_cases hbad : badO o
      · have HF : Hid (fewB xs = false) := by
          show _ = _
          rw [← Bool.not_eq_true, fewB_iff]
          intro hh
          exact hh.1 o (List.mem_of_getElem? HO.out) hbad
        unfold badO at hbad
        clear HA HT
        by_cases h1 : 300 < o.name.size
        · clear hbad
          go_wp2
          go_ret
          exact ⟨ret_bool HF.out.symm, rfl⟩
        · by_cases h2 : 300 < o.data.size
          · by_cases h3 : o.data.size ≤ 65536
            · clear hbad
              go_wp2
              go_ret
              exact ⟨ret_bool HF.out.symm, rfl⟩
            · have h4 : 20 < o.ln := by omega
              clear hbad
              go_wp2
              go_ret
              exact ⟨ret_bool HF.out.symm, rfl⟩
          · have h4 : 20 < o.ln := by omega
            clear hbad
            go_wp2
            go_ret
            exact ⟨ret_bool HF.out.symm, rfl⟩
      · have HN : Hid ((xs.take (k + 1)).all (fun o => decide (¬ badO o)) = true) := by
          show _ = _
          rw [HT.out, List.all_append, HA.out]
          simp [hbad]
        unfold badO at hbad
        have h1 : o.name.size ≤ 300 := by omega
        have h4 : o.ln ≤ 20 := by omega
        by_cases h2 : 300 < o.data.size
        · have h3 : 65536 < o.data.size := by omega
          clear hbad HA HT
          go_wp2
          go_round
          case rel => exact ⟨k + 1, by omega, by go_num, HN⟩
          case measure => simp [intOf]; omega
        · clear hbad HA HT
          go_wp2
          go_round
          case rel => exact ⟨k + 1, by omega, by go_num, HN⟩
          case measure => simp [intOf]; omega
    · obtain rfl : k = n := by omega
      have hf : fewB xs = decide (k ≤ 60) := by
        have e := HA.out
        rw [HL.out, List.take_length] at e
        rw [fewB, e, HL.out]
        rfl
      have HF := hide hf
      clear hf
      go_wp2
      go_ret
      exact ⟨ret_bool (by rw [HF.out, decide_eq_decide]; omega), rfl⟩
theorem put_nil_any (s x : ByteArray) (w : World) : Calls Try.prog 19 #[.pointer none, .string s, .string x] w fun e w' => e = .returned (.int .i64 2) ∧ w' = w := by
  go_enter Try.func19, Try.ntmps19
  go_wp2
  go_ret
  exact ⟨rfl, rfl⟩
theorem del_nil_any (s : ByteArray) (w : World) : Calls Try.prog 30 #[.pointer none, .string s] w fun e w' => e = .returned (.int .i64 2) ∧ w' = w := by
  go_enter Try.func30, Try.ntmps30
  go_wp2
  go_ret
  exact ⟨rfl, rfl⟩
theorem get_nil_any (s : ByteArray) (a n : Int) (w : World) : Calls Try.prog 22 #[.pointer none, .string s, .int .i64 a, .int .i64 n] w fun e w' => e = .returned (.tuple #[.string { data := #[] }, .int .i64 2]) ∧ w' = w := by
  go_enter Try.func22, Try.ntmps22
  go_wp2
  go_ret2
  exact ⟨rfl, rfl⟩
theorem size_nil_any (s : ByteArray) (w : World) : Calls Try.prog 20 #[.pointer none, .string s] w fun e w' => e = .returned (.tuple #[.int .i64 0, .int .i64 2]) ∧ w' = w := by
  go_enter Try.func20, Try.ntmps20
  go_wp2
  go_ret2
  exact ⟨rfl, rfl⟩
theorem list_nil_any (s : ByteArray) (w : World) : Calls Try.prog 28 #[.pointer none, .string s] w fun e w' => e = .returned (.tuple #[.slice none 0 0, .int .i64 2]) ∧ w' = w := by
  go_enter Try.func28, Try.ntmps28
  go_wp2
  go_ret2
  exact ⟨rfl, rfl⟩
def nilE (k : Int) : Int := if k = 0 ∨ k = 1 ∨ k = 2 ∨ k = 3 ∨ k = 4 then 2 else 0
set_option maxHeartbeats 4000000 in
theorem does_nil (o : OpV) (w : World) (ho : OpOk w (fun _ => False) o) : Calls Try.prog 15 #[.pointer none, .agg o.cells.toArray] w fun e w' => e = .returned (.agg #[.string { data := #[] }, .int .i64 0, .slice none 0 0, .int .i64 (nilE o.ask)]) ∧ Below w.heap.size w w' := by
  obtain ⟨ask, name, data, pl, n, la, ln, lc, l⟩ := o
  obtain ⟨⟨q1, q2⟩, q3, q4, q5, q6, q7⟩ := ho
  simp only at q1 q2 q3 q4 q5 q6 q7
  unfold OpV.cells
  simp only
  clear q7
  by_cases h0 : ask = 0
  · subst h0
    rw [show nilE 0 = 2 from rfl]
    go_enter Try.func15, Try.ntmps15
    go_wp2_with fail
    refine (put_nil_any name data _).mono ?_
    rintro e w1 ⟨rfl, rfl⟩
    go_wp2
    exact bodyPost_ret (v := .agg #[.string { data := #[] }, .int .i64 0, .slice none 0 0, .int .i64 2]) (by simp [results, Try.results15, go_sem]) rfl ⟨rfl, (below_alloc _ _).trans ((below_alloc _ _).mono (below_alloc _ _).size)⟩
  · skip
    by_cases h1 : ask = 1
    · subst h1
      rw [show nilE 1 = 2 from rfl]
      go_enter Try.func15, Try.ntmps15
      go_wp2_with fail
      refine (get_nil_any name pl n _).mono ?_
      rintro e w1 ⟨rfl, rfl⟩
      go_wp2
      exact bodyPost_ret (v := .agg #[.string { data := #[] }, .int .i64 0, .slice none 0 0, .int .i64 2]) (by simp [results, Try.results15, go_sem]) rfl ⟨rfl, (below_alloc _ _).trans ((below_alloc _ _).mono (below_alloc _ _).size)⟩
    · skip
      by_cases h2 : ask = 2
      · subst h2
        rw [show nilE 2 = 2 from rfl]
        go_enter Try.func15, Try.ntmps15
        go_wp2_with fail
        refine (size_nil_any name _).mono ?_
        rintro e w1 ⟨rfl, rfl⟩
        go_wp2
        exact bodyPost_ret (v := .agg #[.string { data := #[] }, .int .i64 0, .slice none 0 0, .int .i64 2]) (by simp [results, Try.results15, go_sem]) rfl ⟨rfl, (below_alloc _ _).trans ((below_alloc _ _).mono (below_alloc _ _).size)⟩
      · skip
        by_cases h3 : ask = 3
        · subst h3
          rw [show nilE 3 = 2 from rfl]
          go_enter Try.func15, Try.ntmps15
          go_wp2_with fail
          refine (list_nil_any name _).mono ?_
          rintro e w1 ⟨rfl, rfl⟩
          go_wp2
          exact bodyPost_ret (v := .agg #[.string { data := #[] }, .int .i64 0, .slice none 0 0, .int .i64 2]) (by simp [results, Try.results15, go_sem]) rfl ⟨rfl, (below_alloc _ _).trans ((below_alloc _ _).mono (below_alloc _ _).size)⟩
        · skip
          by_cases h4 : ask = 4
          · subst h4
            rw [show nilE 4 = 2 from rfl]
            go_enter Try.func15, Try.ntmps15
            go_wp2_with fail
            refine (del_nil_any name _).mono ?_
            rintro e w1 ⟨rfl, rfl⟩
            go_wp2
            exact bodyPost_ret (v := .agg #[.string { data := #[] }, .int .i64 0, .slice none 0 0, .int .i64 2]) (by simp [results, Try.results15, go_sem]) rfl ⟨rfl, (below_alloc _ _).trans ((below_alloc _ _).mono (below_alloc _ _).size)⟩
          · skip
            by_cases h5 : ask = 5
            · subst h5
              rw [show nilE 5 = 0 from rfl]
              go_enter Try.func15, Try.ntmps15
              go_wp2_with fail
              refine (fates_nil _ _).mono ?_
              rintro e w1 ⟨rfl, rfl⟩
              go_wp2
              exact bodyPost_ret (v := .agg #[.string { data := #[] }, .int .i64 0, .slice none 0 0, .int .i64 0]) (by simp [results, Try.results15, go_sem]) rfl ⟨rfl, (below_alloc _ _).trans ((below_alloc _ _).mono (below_alloc _ _).size)⟩
            · skip
              by_cases h6 : ask = 6
              · subst h6
                rw [show nilE 6 = 0 from rfl]
                go_enter Try.func15, Try.ntmps15
                go_wp2_with fail
                refine (land_nil n _).mono ?_
                rintro e w1 ⟨rfl, rfl⟩
                go_wp2
                exact bodyPost_ret (v := .agg #[.string { data := #[] }, .int .i64 0, .slice none 0 0, .int .i64 0]) (by simp [results, Try.results15, go_sem]) rfl ⟨rfl, (below_alloc _ _).trans ((below_alloc _ _).mono (below_alloc _ _).size)⟩
              · skip
                have e1 : nilE ask = 0 := by simp [nilE, h0, h1, h2, h3, h4]
                rw [e1]
                have b0 : (ask == 0) = false := by rw [beq_eq_false_iff_ne]; exact h0
                have b1 : (ask == 1) = false := by rw [beq_eq_false_iff_ne]; exact h1
                have b2 : (ask == 2) = false := by rw [beq_eq_false_iff_ne]; exact h2
                have b3 : (ask == 3) = false := by rw [beq_eq_false_iff_ne]; exact h3
                have b4 : (ask == 4) = false := by rw [beq_eq_false_iff_ne]; exact h4
                have b5 : (ask == 5) = false := by rw [beq_eq_false_iff_ne]; exact h5
                have b6 : (ask == 6) = false := by rw [beq_eq_false_iff_ne]; exact h6
                clear h0 h1 h2 h3 h4 h5 h6 e1
                go_enter Try.func15, Try.ntmps15
                go_wp2_with fail
                refine (drop_nil n _).mono ?_
                rintro e w1 ⟨rfl, rfl⟩
                go_wp2
                exact bodyPost_ret (v := .agg #[.string { data := #[] }, .int .i64 0, .slice none 0 0, .int .i64 0]) (by simp [results, Try.results15, go_sem]) rfl ⟨rfl, (below_alloc _ _).trans ((below_alloc _ _).mono (below_alloc _ _).size)⟩

end Wi
end Go.Proofs.Ythnhapjjgaicdaa
