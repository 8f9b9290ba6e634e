/- A part of the proofs about package ssd: what its functions answer, call by call. -/
import Derived.Test.YtdcnjaomocehmaaWp
namespace Go.Proofs.Ytdcnjaomocehmaa
open Go.RowKit
namespace Wi

/-- One device of the call's own. -/
def My (W w : World) (b : Nat) (d : Dv) : Prop := ∃ X, Dev w b X d ∧ (∀ k, X k → W.heap.size ≤ k) ∧ Below W.heap.size W w
theorem My.below {W w : World} {b : Nat} {d : Dv} (h : My W w b d) : Below W.heap.size W w := let ⟨_, _, _, hb⟩ := h; hb
theorem My.go {W w : World} {b : Nat} {d : Dv} (h : My W w b d) : ∃ X, Dev w b X d ∧ (∀ k, X k → W.heap.size ≤ k) ∧ ∀ {w' : World} {d' : Dv}, Left w b X d' w' → My W w' b d' := by
  obtain ⟨X, hD, hX, hb⟩ := h
  exact ⟨X, hD, hX, fun ⟨X', hd⟩ => ⟨X', hd.dev, hd.from hb.size hX, hb.trans (hd.below hb.size hX)⟩⟩
theorem My.later {W w w' : World} {b : Nat} {d : Dv} (h : My W w b d) (hl : Below w.heap.size w w') : My W w' b d := by
  obtain ⟨X, hD, hX, hb⟩ := h
  exact ⟨X, hD.later hl, hX, hb.trans (hl.mono hb.size)⟩
theorem NewDev.my {W w w' : World} {d : Dv} {c : Nat} (h : NewDev w d c w') (hb : Below W.heap.size W w) : My W w' c d := by
  obtain ⟨⟨X, hD, hX⟩, hl⟩ := h
  exact ⟨X, hD, fun k hk => Nat.le_trans hb.size (hX k hk), hb.trans (hl.mono hb.size)⟩
/-- Two devices of the call's own. -/
def Two (W w : World) (b : Nat) (d : Dv) (c : Nat) (e : Dv) : Prop := ∃ X Y, Dev w b X d ∧ Dev w c Y e ∧ (∀ k, X k → ¬ Y k) ∧ (∀ k, X k → W.heap.size ≤ k) ∧ (∀ k, Y k → W.heap.size ≤ k) ∧ Below W.heap.size W w
theorem Two.below {W w : World} {b c : Nat} {d e : Dv} (h : Two W w b d c e) : Below W.heap.size W w := let ⟨_, _, _, _, _, _, _, hb⟩ := h; hb
theorem Two.symm {W w : World} {b c : Nat} {d e : Dv} (h : Two W w b d c e) : Two W w c e b d := let ⟨X, Y, h1, h2, h3, h4, h5, h6⟩ := h; ⟨Y, X, h2, h1, fun k hk hx => h3 k hx hk, h5, h4, h6⟩
theorem Two.later {W w w' : World} {b c : Nat} {d e : Dv} (h : Two W w b d c e) (hl : Below w.heap.size w w') : Two W w' b d c e :=
  let ⟨X, Y, h1, h2, h3, h4, h5, h6⟩ := h; ⟨X, Y, h1.later hl, h2.later hl, h3, h4, h5, h6.trans (hl.mono h6.size)⟩
theorem Two.go {W w : World} {b c : Nat} {d e : Dv} (h : Two W w b d c e) : ∃ X, Dev w b X d ∧ (∀ k, X k → W.heap.size ≤ k) ∧ ∀ {w' : World} {d' : Dv}, Left w b X d' w' → Two W w' b d' c e := by
  obtain ⟨X, Y, h1, h2, h3, h4, h5, h6⟩ := h
  exact ⟨X, h1, h4, fun ⟨X', hd⟩ => ⟨X', Y, hd.dev, h2.keep hd.keep fun i hi hx => h3 i hx hi, hd.apart h2.lt h3, hd.from h6.size h4, h5, h6.trans (hd.below h6.size h4)⟩⟩
theorem My.two {W w w' : World} {b c : Nat} {d e : Dv} (h : My W w b d) (hn : NewDev w e c w') : Two W w' b d c e := by
  obtain ⟨X, hD, hX, hb⟩ := h
  obtain ⟨⟨Y, hE, hY⟩, hl⟩ := hn
  exact ⟨X, Y, hD.later hl, hE, fun k hk hy => by have := hD.lt k hk; have := hY k hy; omega, hX, fun k hk => Nat.le_trans hb.size (hY k hk), hb.trans (hl.mono hb.size)⟩
/-- The laws' lists of calls, in memory. -/
structure Os (w : World) (a : Option Addr) (n : Nat) (xs : List OpV) : Prop where
  len : n = xs.length
  most : n ≤ 9223372036854775807
  ok : ∀ o ∈ xs, OpOk w (fun _ => False) o
  cells : ∀ i o, xs[i]? = some o → ∃ b off, a = some ⟨b, off, none⟩ ∧ b < w.heap.size ∧ w.rangeAt b (off + i * 5) o.cells
theorem Ks.later0 {w w' : World} {a : Option Addr} {n : Nat} {keep : List Int} (h : Ks w (fun _ => False) a n keep) {B : Nat} (hb : Below B w w') (hB : w.heap.size ≤ B) : Ks w' (fun _ => False) a n keep :=
  ⟨h.len, h.most, h.num, fun i x hi => by
    obtain ⟨g, off, ha, hg, hx, c⟩ := h.cells i x hi
    exact ⟨g, off, ha, Nat.lt_of_lt_of_le hg hb.size, hx, (hb.cell (p := ⟨g, off + i, none⟩) (Nat.lt_of_lt_of_le hg hB)).trans c⟩⟩
/-- Are calls not too many, or too great? -/
def goodO (o : OpV) : Bool := decide (o.data.size ≤ 640) && decide (o.kn ≤ 200)
def fewB (xs : List OpV) : Bool := xs.all goodO && decide (xs.length ≤ 50)
theorem fewB_iff {xs : List OpV} : fewB xs = true ↔ (∀ o ∈ xs, o.data.size ≤ 640 ∧ o.kn ≤ 200) ∧ xs.length ≤ 50 := by simp [fewB, goodO]
theorem op_cells {w : World} {b off : Nat} {o : OpV} (h : w.rangeAt b off o.cells) : w.cell? ⟨b, off, none⟩ = some (.int .i64 o.ask) ∧ w.cell? ⟨b, off + 1, none⟩ = some (.int .i64 o.place) ∧ w.cell? ⟨b, off + 2, none⟩ = some (.int .i64 o.n) ∧ w.cell? ⟨b, off + 3, none⟩ = some (.string o.data) ∧ w.cell? ⟨b, off + 4, none⟩ = some (.slice o.ka o.kn o.kc) :=
  ⟨h 0 _ rfl, h 1 _ rfl, h 2 _ rfl, h 3 _ rfl, h 4 _ rfl⟩
set_option maxHeartbeats 1000000 in
theorem few_any {w : World} {a : Option Addr} {n cap : Nat} {xs : List OpV} (h : Os w a n xs) : Calls Try.prog 10 #[.slice a n cap] w fun e w' => e = .returned (.bool (fewB xs)) ∧ w' = w := by
  have hn := h.most
  have HL := hide h.len
  go_enter Try.func10, Try.ntmps10
  go_wp2
  go_loop [3] (fun i => ∃ k : Nat, k ≤ n ∧ i = .int .i64 k ∧ Hid ((xs.take k).all goodO = true)) (fun i => n - (intOf i).toNat)
  case atStart => exact ⟨0, Nat.zero_le _, rfl, by show _ = _; simp⟩
  case round =>
    obtain ⟨k, hk, rfl, HA⟩ := hrel
    by_cases hlt : k < n
    · obtain ⟨o, ho⟩ : ∃ o, xs[k]? = some o := ⟨_, List.getElem?_eq_getElem (by have := HL.out; omega)⟩
      obtain ⟨b, off, rfl, hb, hr⟩ := h.cells k o ho
      obtain ⟨c0, c1, c2, c3, c4⟩ := op_cells hr
      have hok := h.ok o (List.mem_of_getElem? ho)
      have hd := hok.data
      have hkm := hok.keep.most
      have HT := hide (snoc_take _ _ _ ho)
      have HO := hide ho
      clear ho hr hok
      by_cases h1 : o.data.size ≤ 640
      · by_cases h2 : o.kn ≤ 200
        · go_wp2
          go_round
          case rel => exact ⟨k + 1, by omega, by go_num, by show _ = _; rw [HT.out, List.all_append, HA.out]; simp [goodO, h1, h2]⟩
          case measure => simp [intOf]; omega
        · have hf : fewB xs = false := by
            rw [← Bool.not_eq_true, fewB_iff]
            intro hh
            exact h2 (hh.1 o (List.mem_of_getElem? HO.out)).2
          have HF := hide hf
          clear hf
          go_wp2
          go_ret
          exact ⟨ret_bool HF.out.symm, rfl⟩
      · have hf : fewB xs = false := by
          rw [← Bool.not_eq_true, fewB_iff]
          intro hh
          exact h1 (hh.1 o (List.mem_of_getElem? HO.out)).1
        have HF := hide hf
        clear hf
        go_wp2
        go_ret
        exact ⟨ret_bool HF.out.symm, rfl⟩
    · obtain rfl : k = n := by omega
      have hf : fewB xs = decide (k ≤ 50) := by
        have e := HA.out
        rw [HL.out, List.take_length] at e
        rw [fewB, e, HL.out]
        rfl
      have HF := hide hf
      clear hf
      go_wp2
      go_ret
      exact ⟨ret_bool (by rw [HF.out, decide_eq_decide]; omega), rfl⟩
/-- The chapter's example. -/
def aw : Dv := (((dv0 1).write 0 (bs (str (List.replicate 64 97)))).barrier).write 0 (bs (str (List.replicate 64 98)))
theorem bs_full {x : Nat} (h : x < 256) : bs (str (List.replicate 64 x)) = List.replicate 64 x := bs_str fun b hb => by rw [List.eq_of_mem_replicate hb]; exact h
def aw' : Dv := (((dv0 1).write 0 (List.replicate 64 97)).barrier).write 0 (List.replicate 64 98)
theorem aw_eq : aw = aw' := by rw [aw, bs_full (by omega), bs_full (by omega)]; rfl
theorem aw_read : (aw.crash [2]).readE 0 1 = 0 ∧ (aw.crash [2]).readS 0 1 = List.replicate 32 98 ++ List.replicate 32 97 ∧ (aw.crash []).readE 0 1 = 0 ∧ (aw.crash []).readS 0 1 = List.replicate 64 97 := by
  rw [aw_eq]
  exact ⟨by decide +kernel, by decide +kernel, by decide +kernel, by decide +kernel⟩
theorem aw_str : (str (List.replicate 64 98)).extract 0 32 ++ (str (List.replicate 64 97)).extract 32 (str (List.replicate 64 97)).size = str (List.replicate 32 98 ++ List.replicate 32 97) := by
  rw [str_cut, str_cut, ← str_append, str_size]
  rfl

end Wi
end Go.Proofs.Ytdcnjaomocehmaa
