/- Package bucket: late calls are dropped. -/
import Derived.Test.YthnhapjjgaicdaaWr
namespace Go.Proofs.Ythnhapjjgaicdaa
open Go.RowKit
namespace Wi

theorem upTo_le (n : Int) (k : Nat) : upTo n k ≤ k := by unfold upTo; omega
theorem upto_any {w : World} {b : Nat} {ov fv lv : Value} {used quota : Int} {objs : List Ob} {fates : List Nat} {late : List Ch} (h : RawB w b ov fv lv used quota objs fates late) (hl : late.length ≤ 1000000) (n : Int) (hn : Num n) : Calls Try.prog 46 #[.pointer (some ⟨b, 0, none⟩), .int .i64 n] w fun e w' => e = .returned (.int .i64 (upTo n late.length : Nat)) ∧ w' = w := by
  obtain ⟨c0, c1, c2, c3, c4⟩ := h.c
  obtain ⟨a, cap, rfl⟩ := h.ls.form
  obtain ⟨n1, n2⟩ := hn
  clear h
  generalize late.length = L at *
  by_cases h1 : n ≤ (L : Int)
  · by_cases h0 : 0 ≤ n
    · have e : (upTo n L : Int) = n := by unfold upTo; omega
      rw [e]
      clear e
      go_enter Try.func46, Try.ntmps46
      go_wp2
      all_goals
        go_ret
        exact ⟨ret_int (by omega), rfl⟩
    · have e : (upTo n L : Int) = 0 := by unfold upTo; omega
      rw [e]
      clear e
      have h0' : n ≤ 0 := by omega
      go_enter Try.func46, Try.ntmps46
      go_wp2
      go_ret
      exact ⟨rfl, rfl⟩
  · have e : (upTo n L : Int) = L := by unfold upTo; omega
    rw [e]
    clear e
    have h1' : (L : Int) ≤ n := by omega
    go_enter Try.func46, Try.ntmps46
    go_wp2
    all_goals
      go_ret
      exact ⟨ret_int (by omega), rfl⟩
theorem zero81 (w : World) : (zeroValue 81).run Try.prog w = .ok (.agg #[.nilFunc, .string { data := #[] }, .string { data := #[] }]) w := by kernel_rfl
theorem zc_one (n : Nat) : ∀ u ∈ (Builtin.zeroCells (Value.agg #[.nilFunc, .string { data := #[] }, .string { data := #[] }]).cells n).toList, u.oneCell' = true := by
  intro u hu
  simp only [Builtin.zeroCells, Array.toList_map, List.mem_map] at hu
  obtain ⟨i, _, rfl⟩ := hu
  have : i % (Value.agg #[.nilFunc, .string { data := #[] }, .string { data := #[] }]).cells.size < 3 := Nat.mod_lt _ (by show 0 < 3; omega)
  generalize i % (Value.agg #[.nilFunc, .string { data := #[] }, .string { data := #[] }]).cells.size = j at *
  match j, this with
  | 0, _ => rfl
  | 1, _ => rfl
  | 2, _ => rfl
theorem zc_len (n : Nat) : (Builtin.zeroCells (Value.agg #[.nilFunc, .string { data := #[] }, .string { data := #[] }]).cells n).toList.length = n * 3 := by
  rw [Array.length_toList, size_zeroCells]
  rfl
theorem clear_empty {P : Program} (w : World) (t e ty : TypeId) (ht : P.underlying t = some (.slice e)) (a : Option Addr) (c : Nat) : (Builtin.clear_ #[t] ty #[.slice a 0 c]).run P w = .ok (.tuple #[]) w := by
  cases a <;> simp [Builtin.clear_, run_underlying ht]
theorem Bk.Ok.drop {d : Bk} (h : d.Ok) (k : Nat) : (d.drop k).Ok := ⟨h.rise, h.room, h.most, h.fate, fun c hc => h.late c (List.mem_of_mem_drop hc)⟩
theorem drop_left {w : World} {b : Nat} {ov fv lv : Value} {d : Bk} {w2 : World} (h : BkAt w b ov fv lv d) (hk : Keep (fun j => lv.ownBlock = some j) w w2) {k : Nat} {v : Value} (hr : Rw w2 81 3 v (d.late.drop k).length (encLs (d.late.drop k))) (ho : v.ownBlock = lv.ownBlock) : LeftT (bkT b (d.drop k)) w (xB b ov fv lv) (w2.setCell ⟨b, 4, none⟩ v) := by
  have hG : Grew w 81 3 lv (d.late.drop k).length (encLs (d.late.drop k)) w2 v := ⟨hr, hk, .inl ho⟩
  obtain ⟨q1, q2, q3⟩ := h.raw.putLate hG
  exact ⟨_, ⟨ov, fv, v, ⟨q1, h.ok.drop k⟩, rfl⟩, q2, q3⟩
theorem drop_nil (n : Int) (w : World) : Calls Try.prog 31 #[.pointer none, .int .i64 n] w fun e w' => e = .returned (.int .i64 0) ∧ w' = w := by
  go_enter Try.func31, Try.ntmps31
  go_wp2
  go_ret
  exact ⟨rfl, rfl⟩
theorem land_nil (n : Int) (w : World) : Calls Try.prog 21 #[.pointer none, .int .i64 n] w fun e w' => e = .returned (.int .i64 0) ∧ w' = w := by
  go_enter Try.func21, Try.ntmps21
  go_wp2
  go_ret
  exact ⟨rfl, rfl⟩
theorem splice_head {α : Type} (xs c : List α) (_h : c.length ≤ xs.length) : (splice xs 0 c).drop c.length = xs.drop c.length := by
  unfold splice
  rw [List.take_zero, List.nil_append, Nat.zero_add, List.drop_left]
set_option maxHeartbeats 4000000 in
theorem drop_any {w : World} {b : Nat} {X : Nat → Prop} {d : Bk} (h : bkT b d w X) (hl : d.late.length ≤ 1000000) (n : Int) (hn : Num n) : Calls Try.prog 31 #[.pointer (some ⟨b, 0, none⟩), .int .i64 n] w fun e w' => e = .returned (.int .i64 (upTo n d.late.length : Nat)) ∧ LeftT (bkT b (d.drop (upTo n d.late.length))) w X w' := by
  obtain ⟨ov, fv, lv, h, rfl⟩ := h
  have hu := upto_any h.raw hl n hn
  have hle := upTo_le n d.late.length
  obtain ⟨K, hK⟩ : ∃ K, K = upTo n d.late.length := ⟨_, rfl⟩
  rw [← hK] at hu hle ⊢
  obtain ⟨c0, c1, c2, c3, c4⟩ := h.raw.c
  have f4 := h.raw.fr 4
  obtain ⟨n1, n2⟩ := hn
  clear hK
  rcases h.raw.ls.2 with ⟨rfl, hL⟩ | ⟨g, off, cap, cur, rfl, hg, k1, k2, k3, k4⟩
  · obtain rfl : K = 0 := by omega
    have HF := hide (drop_left h (Keep.refl _ _) (k := 0) (v := .slice none 0 0) (by simpa using h.raw.ls) rfl)
    have hcl : ∀ ty a c, (Builtin.clear_ #[67] ty #[.slice a 0 c]).run Try.prog w = .ok (.tuple #[]) w := fun ty a c => clear_empty w 67 81 ty Try.underlying67 a c
    clear h
    clear hL hle
    go_enter Try.func31, Try.ntmps31
    go_wp2_with fail
    refine hu.mono ?_
    rintro e w2 ⟨rfl, rfl⟩
    clear hu
    go_wp2
    go_ret
    exact ⟨rfl, HF.out⟩
  · have hcm : cap ≤ 9223372036854775807 := by unfold maxLen at k2; omega
    by_cases h0 : K = 0
    · subst h0
      have HF := hide (drop_left h (Keep.refl _ _) (k := 0) (v := .slice (some ⟨g, off, none⟩) d.late.length cap) (by simpa using h.raw.ls) rfl)
      have hcl : ∀ ty a c, (Builtin.clear_ #[67] ty #[.slice a 0 c]).run Try.prog w = .ok (.tuple #[]) w := fun ty a c => clear_empty w 67 81 ty Try.underlying67 a c
      clear h k3 k4 hg k2
      generalize d.late.length = L at *
      by_cases hc : cap = 0
      · subst hc
        obtain rfl : L = 0 := by omega
        go_enter Try.func31, Try.ntmps31
        go_wp2_with fail
        refine hu.mono ?_
        rintro e w2 ⟨rfl, rfl⟩
        clear hu
        go_wp2
        go_ret
        exact ⟨rfl, HF.out⟩
      · skip
        go_enter Try.func31, Try.ntmps31
        go_wp2_with fail
        refine hu.mono ?_
        rintro e w2 ⟨rfl, rfl⟩
        clear hu
        go_wp2
        go_ret
        exact ⟨rfl, HF.out⟩
    · have hK1 : 1 ≤ K := by omega
      have hcl : ∀ ty c, (Builtin.clear_ #[67] ty #[.slice (some ⟨g, off, none⟩) K c]).run Try.prog w = .ok (.tuple #[]) (w.setCells g off (Builtin.zeroCells (Value.agg #[.nilFunc, .string { data := #[] }, .string { data := #[] }]).cells K).toList) := fun ty c =>
        run_clear_sized w 67 81 ty _ Try.underlying67 zero81 g off K c (by omega) _ rfl (fun j hj => by
          rw [zc_len] at hj
          have := h.raw.ls.there (o := 0) (m := K * 3) (by have := Nat.mul_le_mul_right 3 hle; omega) j hj
          rwa [Nat.add_zero] at this) (zc_one K)
      have hZ := zc_len K
      have hZ1 := zc_one K
      generalize (Builtin.zeroCells (Value.agg #[.nilFunc, .string { data := #[] }, .string { data := #[] }]).cells K).toList = Z at *
      have hR := h.raw.ls.set (o := 0) (vs := Z) (by rw [hZ]; have := Nat.mul_le_mul_right 3 hle; omega) hZ1
      rw [Nat.add_zero] at hR
      have hR2 := hR.drop (k := K) hle
      have hsp := splice_head (encLs d.late) Z (by rw [hZ, encLs_length]; exact Nat.mul_le_mul_right 3 hle)
      rw [hZ, encLs_drop _ _ hle] at hsp
      rw [hsp] at hR2
      have hkk : Keep (fun j => (Value.slice (some ⟨g, off, none⟩) d.late.length cap).ownBlock = some j) w (w.setCells g off Z) := Keep.setCells (X := fun j => (Value.slice (some ⟨g, off, none⟩) d.late.length cap).ownBlock = some j) g rfl Z off w
      have HF := hide (drop_left h hkk (k := K) (by rw [List.length_drop]; exact hR2) drop_own)
      have hblk := (hkk.block b h.raw.lt h.raw.nl).trans h.raw.blk
      have e4 : (w.setCells g off Z).cell? ⟨b, 4, none⟩ = some (.slice (some ⟨g, off, none⟩) d.late.length cap) := by rw [cell_of_row _ _ _ _ _ _ hblk]; rfl
      have g4 : (w.setCells g off Z).frozen? ⟨b, 4, none⟩ = false := frozen_of_row _ _ _ _ _ hblk
      clear h k3 k4 hg k2 hR hR2 hsp hkk hZ hZ1 hblk
      generalize w.setCells g off Z = W1 at *
      have hc0 : ¬ cap = 0 := by omega
      have hKc : K ≤ cap := by omega
      generalize d.late.length = L at *
      by_cases hc : cap = K
      · subst hc
        obtain rfl : L = cap := by omega
        simp only [if_true, Nat.sub_self] at HF
        go_enter Try.func31, Try.ntmps31
        go_wp2_with fail
        refine hu.mono ?_
        rintro e w2 ⟨rfl, rfl⟩
        clear hu
        go_wp2
        go_ret
        exact ⟨rfl, HF.out⟩
      · simp only [if_neg hc, Option.map_some, Addr.add_mid] at HF
        go_enter Try.func31, Try.ntmps31
        go_wp2_with fail
        refine hu.mono ?_
        rintro e w2 ⟨rfl, rfl⟩
        clear hu
        go_wp2
        go_ret
        exact ⟨rfl, HF.out⟩

end Wi
end Go.Proofs.Ythnhapjjgaicdaa
