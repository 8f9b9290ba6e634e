/- The document's bucket: Land. -/
import Derived.Test.YthnhapjjgaicdaaRf
namespace Go.Proofs.Ythnhapjjgaicdaa
open Go.RowKit
namespace Wi

theorem run_from32 (a : Option Addr) (n cap k : Nat) (hk : k ≤ n) (w : World) : (Instr.slice 32 (.slice a n cap) (some (.int .i64 (k : Nat))) none none).run Try.prog w = .ok (.slice (if cap = k then a else a.map (·.add (k * 3))) (n - k) (cap - k)) w := by
  have b2 : ¬ n < k := by omega
  simp [Instr.slice, Instr.sliceBounds, Instr.sliceBound, run_underlying Try.underlying32, asIntOf, b2]
section
variable {w : World} {b : Nat} {X : Nat → Prop} {d : Bk}
theorem rdrop_left {ov fv lv : Value} {fs : List Int} (h : RawD w b ov fv lv (d.quota : Nat) d.objs fs d.late) (hm : fs.map fateOf = d.fates) (hnum : ∀ x ∈ fs, Num x) (hok : d.Ok) {k : Nat} {v : Value} (hr : Rw w 88 3 v (d.late.drop k).length (encKs (d.late.drop k))) (ho : v.ownBlock = lv.ownBlock) : LeftT (refT b (d.drop k)) w (xB b ov fv lv) (w.setCell ⟨b, 3, none⟩ v) :=
  ⟨xB b ov fv v, ⟨ov, fv, v, fs, h.setLate hr ho, hm, hnum, hok.drop k, rfl⟩, Keep.setCell w _ _ (.inl rfl), fun k hk => .inl (by
    rcases hk with e | e | e | e
    · exact .inl e
    · exact .inr (.inl e)
    · exact .inr (.inr (.inl e))
    · rw [ho] at e; exact .inr (.inr (.inr e)))⟩
def Bk.lands (d : Bk) (n : Int) (p : Bool) : Bk := if p then d.drop (upTo n d.late.length) else d.land n
theorem acts_fd {d : Bk} (h : Fd d) (hok : d.Ok) (k : Nat) : Fd (d.acts (d.late.take k)) := Fd.acts _ h fun c hc => hok.late c (List.mem_of_mem_take hc)
set_option maxHeartbeats 8000000 in
theorem rland_any (h : refT b d w X) (hl : d.objs.length + d.late.length ≤ 900000) (hF : Fd d) (n : Int) (hn : Num n) (dr : Bool) : Calls Try.prog 37 #[.pointer (some ⟨b, 0, none⟩), .int .i64 n, .bool dr] w fun e w' => e = .returned (.int .i64 (upTo n d.late.length : Nat)) ∧ LeftT (refT b (d.lands n dr)) w X w' := by
  have hle := upTo_le n d.late.length
  have hok := h.ok
  have hlok := hok.late
  obtain ⟨n1, n2⟩ := hn
  have HS : Hid (LeftT (refT b (d.acts (d.late.take 0))) w X w) := LeftT.refl h
  have HDR : Hid (d.lands n dr = (if dr then d else d.acts (d.late.take (upTo n d.late.length))).drop (upTo n d.late.length)) := by
    show _ = _
    unfold Bk.lands Bk.land
    cases dr <;> rfl
  have HFD := hide (acts_fd hF hok)
  have hmax : ∀ w, (Builtin.max_ #[3, 3] 3 #[.int .i64 n, .int .i64 0]).run Try.prog w = .ok (.int .i64 (max n 0)) w := fun w => by
    show Result.ok (Value.int .i64 (if 0 > n then 0 else n)) w = _
    rw [show (if 0 > n then (0 : Int) else n) = max n 0 by split <;> omega]
  have hmin : ∀ w, (Builtin.min_ #[3, 3] 3 #[.int .i64 (max n 0), .int .i64 (d.late.length : Nat)]).run Try.prog w = .ok (.int .i64 (upTo n d.late.length : Nat)) w := fun w => by
    show Result.ok (Value.int .i64 (if (d.late.length : Int) < max n 0 then (d.late.length : Int) else max n 0)) w = _
    rw [show (if (d.late.length : Int) < max n 0 then (d.late.length : Int) else max n 0) = (upTo n d.late.length : Nat) by unfold upTo; split <;> omega]
  obtain ⟨ov, fv, lv, fs, h, _, _, _, hX⟩ := h
  obtain ⟨c0, c1, c2, c3⟩ := h.c
  obtain ⟨a0, cap0, hlv⟩ := h.ls.form
  rw [hlv] at c3
  generalize max n 0 = M at *
  generalize upTo n d.late.length = K at *
  clear h hX hlv c0 c1 c2
  go_enter Try.func37, Try.ntmps37
  go_wp2
  go_loopw [7] (fun i wr => ∃ k : Nat, k ≤ K ∧ i = .int .i64 k ∧ LeftT (refT b (d.acts (d.late.take k))) w X wr ∧ Hid (dr = true → k = 0)) (fun i _ => K - (intOf i).toNat)
  case atStart => exact ⟨0, Nat.zero_le _, rfl, HS.out, fun _ => rfl⟩
  case round =>
    clear HS c3
    obtain ⟨k, hk, rfl, hLf, HD0⟩ := hrel
    obtain ⟨X2, hA, hk2, hm2⟩ := hLf
    have hA0 := hA
    obtain ⟨ov, fv, lv, fs, hA1, hmm, hnum, hokk, rfl⟩ := hA
    have hsame := (acts_same (d.late.take k) d).2.1
    have hls := hA1.ls
    rw [hsame] at hls
    obtain ⟨a, cap, rfl⟩ := hls.form
    have c3 := hA1.c.2.2.2
    have f3 := hA1.fr 3
    have HK2 := hide hk2
    have HM2 := hide hm2
    have hcapl : d.late.length ≤ cap := by
      rcases hls.2 with ⟨hv, h0⟩ | ⟨g, off, cap', cur, hv, _, h1, _⟩
      · injection hv with x1 x2 x3
        omega
      · injection hv with x1 x2 x3
        omega
    cases dr with
    | false =>
      by_cases hlt : k < K
      · obtain ⟨c, hc⟩ : ∃ c, d.late[k]? = some c := ⟨_, List.getElem?_eq_getElem (by omega)⟩
        have hx := hlok c (List.mem_of_getElem? hc)
        have HSN := hide (acts_snoc (d := d) hc)
        have hsz := acts_size (d.late.take k) d
        rw [List.length_take] at hsz
        obtain ⟨g, off, cap', hv, hgl, _⟩ := hls.pos (by omega)
        injection hv with x1 x2 x3
        subst x1 x3
        clear x2
        obtain ⟨q0, q1, q2⟩ := rch_cells hls hc
        have hact := rdo_any hA0 (by omega) (HFD.out k) c hx
        clear hA0 hA1 hls hk2 hm2 hc hsz hsame hmm hnum hokk f3
        generalize d.acts (d.late.take k) = D at *
        generalize d.late.length = LL at *
        obtain ⟨pp, s, x⟩ := c
        simp only [encK] at *
        generalize D.actE (pp, s, x) = E at *
        go_wp2_with fail
        refine hact.mono ?_
        rintro e w4 ⟨rfl, hl4⟩
        have HF := hide (LeftT.trans HK2.out HM2.out hl4)
        rw [← HSN.out] at HF
        clear hact hl4
        go_wp2
        go_roundw
        case rel => exact ⟨k + 1, by omega, by go_num, HF.out, by intro h; cases h⟩
        case measure => simp [intOf]; omega
      · obtain rfl : k = K := by omega
        simp only [Bool.false_eq_true, if_false] at HDR
        have hs2 := run_from32 a d.late.length cap k hle
        have hdr := hls.drop (k := k) hle
        rw [encKs_drop _ _ hle, ← List.length_drop] at hdr
        have ho := drop_own (a := a) (n := d.late.length) (cap := cap) (k := k) (size := 3)
        obtain ⟨a2, ha2⟩ : ∃ a2, a2 = (if cap = k then a else a.map (·.add (k * 3))) := ⟨_, rfl⟩
        rw [← ha2] at hs2 hdr ho
        rw [List.length_drop] at hdr
        have hfin := rdrop_left (k := k) hA1 hmm hnum hokk (v := .slice a2 (d.late.length - k) (cap - k)) (by rw [hsame, List.length_drop]; exact hdr) ho
        have HF := hide (LeftT.trans HK2.out HM2.out hfin)
        rw [← HDR.out] at HF
        clear hA0 hA1 hls hk2 hm2 hsame hmm hnum hokk hdr ho hfin ha2
        generalize d.late.length = LL at *
        go_wp2
        all_goals
          go_ret
          exact ⟨rfl, HF.out⟩
    | true =>
      obtain rfl := HD0.out rfl
      simp only [if_true] at HDR
      have hAA : d.acts (d.late.take 0) = d := rfl
      rw [hAA] at hA1 hA0 hsame hmm hokk
      clear hAA
      have hs2 := run_from32 a d.late.length cap K hle
      have hdr := hls.drop (k := K) hle
      rw [encKs_drop _ _ hle, ← List.length_drop] at hdr
      have ho := drop_own (a := a) (n := d.late.length) (cap := cap) (k := K) (size := 3)
      obtain ⟨a2, ha2⟩ : ∃ a2, a2 = (if cap = K then a else a.map (·.add (K * 3))) := ⟨_, rfl⟩
      rw [← ha2] at hs2 hdr ho
      rw [List.length_drop] at hdr
      have hfin := rdrop_left (k := K) hA1 hmm hnum hokk (v := .slice a2 (d.late.length - K) (cap - K)) (by rw [hsame, List.length_drop]; exact hdr) ho
      have HF := hide (LeftT.trans HK2.out HM2.out hfin)
      rw [← HDR.out] at HF
      clear hA0 hA1 hls hk2 hm2 hsame hmm hnum hokk hdr ho hfin ha2
      generalize d.late.length = LL at *
      go_wp2
      all_goals
        go_ret
        exact ⟨rfl, HF.out⟩
end

end Wi
end Go.Proofs.Ythnhapjjgaicdaa
