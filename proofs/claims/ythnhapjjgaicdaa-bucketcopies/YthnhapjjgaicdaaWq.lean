/- Package bucket: Put, Delete, Get and Size. -/
import Derived.Test.YthnhapjjgaicdaaWp
namespace Go.Proofs.Ythnhapjjgaicdaa
open Go.RowKit
namespace Wi

def Bk.put (d : Bk) (s x : ByteArray) : Bk := if nameB s && decide (x.size ≤ 65536) then d.call (true, s, x) else d
def Bk.putE (d : Bk) (s x : ByteArray) : Int := if nameB s && decide (x.size ≤ 65536) then d.callE (true, s, x) else 1
def Bk.del (d : Bk) (s : ByteArray) : Bk := if nameB s then d.call (false, s, { data := #[] }) else d
def Bk.delE (d : Bk) (s : ByteArray) : Int := if nameB s then d.callE (false, s, { data := #[] }) else 1
def Bk.askOk (s : ByteArray) (a n : Int) : Bool := nameB s && decide (0 ≤ a) && decide (0 ≤ n)
def Bk.getE (d : Bk) (s : ByteArray) (a n : Int) : Int := if Bk.askOk s a n then (if d.fetchE s = 0 then (if ((d.fetchS s).size : Int) < a then 31 else 0) else d.fetchE s) else 1
def cutOf (x : ByteArray) (a n : Int) : ByteArray := (x.extract a.toNat x.size).extract 0 (min n ((x.extract a.toNat x.size).size : Int)).toNat
def Bk.getS (d : Bk) (s : ByteArray) (a n : Int) : ByteArray := if d.getE s a n = 0 then cutOf (d.fetchS s) a n else { data := #[] }
def Bk.ask (d : Bk) (ok : Bool) : Bk := if ok then d.next else d
def Bk.sizeE (d : Bk) (s : ByteArray) : Int := if nameB s then d.fetchE s else 1
def Bk.sizeN (d : Bk) (s : ByteArray) : Nat := if nameB s then (d.fetchS s).size else 0
section
variable {w : World} {b : Nat} {X : Nat → Prop} {d : Bk}
set_option maxHeartbeats 2000000 in
theorem put_any (h : bkT b d w X) (ho : d.objs.length ≤ 1000000) (hf : d.fates.length ≤ 1000000) (hl : d.late.length ≤ 1000000) (s x : ByteArray) (hs : s.size ≤ 9223372036854775807) (hx : x.size ≤ 9223372036854775807) : Calls Try.prog 19 #[.pointer (some ⟨b, 0, none⟩), .string s, .string x] w fun e w' => e = .returned (.int .i64 (d.putE s x)) ∧ LeftT (bkT b (d.put s x)) w X w' := by
  have hnm := name_any s hs w
  cases hn : nameB s with
  | false =>
    have e1 : d.putE s x = 1 := by simp [Bk.putE, hn]
    have e2 : d.put s x = d := by simp [Bk.put, hn]
    rw [e1, e2]
    rw [hn] at hnm
    have HL := hide (LeftT.refl h)
    clear h hn e1 e2
    go_enter Try.func19, Try.ntmps19
    go_wp2_with fail
    refine hnm.mono ?_
    rintro e w' ⟨rfl, rfl⟩
    go_wp2
    go_ret
    exact ⟨rfl, HL.out⟩
  | true =>
    rw [hn] at hnm
    by_cases h6 : x.size ≤ 65536
    · have e1 : d.putE s x = d.callE (true, s, x) := by simp [Bk.putE, hn, h6]
      have e2 : d.put s x = d.call (true, s, x) := by simp [Bk.put, hn, h6]
      have hc := call_any h ho hf hl (true, s, x) h6
      simp only [encCh, fnOf, if_true] at hc
      rw [e1, e2]
      clear h hn e1 e2
      generalize d.callE (true, s, x) = E at *
      go_enter Try.func19, Try.ntmps19
      go_wp2_with fail
      refine hnm.mono ?_
      rintro e w' ⟨rfl, rfl⟩
      clear hnm
      go_wp2_with fail
      refine hc.mono ?_
      rintro e w2 ⟨rfl, hl2⟩
      have HL := hide hl2
      clear hc hl2
      go_wp2
      go_ret
      exact ⟨rfl, HL.out⟩
    · have e1 : d.putE s x = 1 := by simp [Bk.putE, h6]
      have e2 : d.put s x = d := by simp [Bk.put, h6]
      rw [e1, e2]
      have HL := hide (LeftT.refl h)
      clear h hn e1 e2
      go_enter Try.func19, Try.ntmps19
      go_wp2_with fail
      refine hnm.mono ?_
      rintro e w' ⟨rfl, rfl⟩
      go_wp2
      go_ret
      exact ⟨rfl, HL.out⟩
set_option maxHeartbeats 2000000 in
theorem del_any (h : bkT b d w X) (ho : d.objs.length ≤ 1000000) (hf : d.fates.length ≤ 1000000) (hl : d.late.length ≤ 1000000) (s : ByteArray) (hs : s.size ≤ 9223372036854775807) : Calls Try.prog 30 #[.pointer (some ⟨b, 0, none⟩), .string s] w fun e w' => e = .returned (.int .i64 (d.delE s)) ∧ LeftT (bkT b (d.del s)) w X w' := by
  have hnm := name_any s hs w
  cases hn : nameB s with
  | false =>
    have e1 : d.delE s = 1 := by simp [Bk.delE, hn]
    have e2 : d.del s = d := by simp [Bk.del, hn]
    rw [e1, e2]
    rw [hn] at hnm
    have HL := hide (LeftT.refl h)
    clear h hn e1 e2
    go_enter Try.func30, Try.ntmps30
    go_wp2_with fail
    refine hnm.mono ?_
    rintro e w' ⟨rfl, rfl⟩
    go_wp2
    go_ret
    exact ⟨rfl, HL.out⟩
  | true =>
    rw [hn] at hnm
    have e1 : d.delE s = d.callE (false, s, { data := #[] }) := by simp [Bk.delE, hn]
    have e2 : d.del s = d.call (false, s, { data := #[] }) := by simp [Bk.del, hn]
    have hc := call_any h ho hf hl (false, s, { data := #[] }) (by show 0 ≤ _; omega)
    simp only [encCh, fnOf, Bool.false_eq_true, if_false] at hc
    rw [e1, e2]
    clear h hn e1 e2
    generalize d.callE (false, s, { data := #[] }) = E at *
    go_enter Try.func30, Try.ntmps30
    go_wp2_with fail
    refine hnm.mono ?_
    rintro e w' ⟨rfl, rfl⟩
    clear hnm
    go_wp2_with fail
    refine hc.mono ?_
    rintro e w2 ⟨rfl, hl2⟩
    have HL := hide hl2
    clear hc hl2
    go_wp2
    go_ret
    exact ⟨rfl, HL.out⟩
theorem fetch_size (hok : d.Ok) (s : ByteArray) : (d.fetchS s).size ≤ 9223372036854775807 := by
  unfold Bk.fetchS
  split
  · cases hg : got d.objs s with
    | none => exact Nat.zero_le _
    | some x =>
      have h1 := got_le hg
      have h2 := hok.room
      have h3 := hok.most
      show x.size ≤ _
      omega
  · exact Nat.zero_le _
theorem fetch_num (s : ByteArray) : d.fetchE s = 0 ∨ d.fetchE s = 15 ∨ d.fetchE s = 34 := by
  unfold Bk.fetchE
  repeat' split
  all_goals omega
set_option maxHeartbeats 2000000 in
theorem size_any (h : bkT b d w X) (ho : d.objs.length ≤ 1000000) (hf : d.fates.length ≤ 1000000) (s : ByteArray) (hs : s.size ≤ 9223372036854775807) : Calls Try.prog 20 #[.pointer (some ⟨b, 0, none⟩), .string s] w fun e w' => e = .returned (.tuple #[.int .i64 (d.sizeN s : Nat), .int .i64 (d.sizeE s)]) ∧ LeftT (bkT b (d.ask (nameB s))) w X w' := by
  have hnm := name_any s hs w
  cases hn : nameB s with
  | false =>
    have e1 : d.sizeN s = 0 := by simp [Bk.sizeN, hn]
    have e2 : d.sizeE s = 1 := by simp [Bk.sizeE, hn]
    rw [e1, e2, show d.ask false = d from rfl]
    rw [hn] at hnm
    have HL := hide (LeftT.refl h)
    clear h hn e1 e2
    go_enter Try.func20, Try.ntmps20
    go_wp2_with fail
    refine hnm.mono ?_
    rintro e w' ⟨rfl, rfl⟩
    go_wp2
    go_ret2
    exact ⟨rfl, HL.out⟩
  | true =>
    have e1 : d.sizeN s = (d.fetchS s).size := by simp [Bk.sizeN, hn]
    have e2 : d.sizeE s = d.fetchE s := by simp [Bk.sizeE, hn]
    rw [e1, e2, show d.ask true = d.next from rfl]
    rw [hn] at hnm
    have hc := fetch_any h ho hf s
    have hok : d.Ok := by obtain ⟨_, _, _, h, _⟩ := h; exact h.ok
    have hz := fetch_size hok s
    clear h hn e1 e2
    generalize d.fetchS s = S at *
    generalize d.fetchE s = E at *
    go_enter Try.func20, Try.ntmps20
    go_wp2_with fail
    refine hnm.mono ?_
    rintro e w' ⟨rfl, rfl⟩
    clear hnm
    go_wp2_with fail
    refine hc.mono ?_
    rintro e w2 ⟨rfl, hl2⟩
    have HL := hide hl2
    clear hc hl2
    go_wp2
    go_ret2
    exact ⟨rfl, HL.out⟩
set_option maxHeartbeats 4000000 in
theorem get_any (h : bkT b d w X) (ho : d.objs.length ≤ 1000000) (hf : d.fates.length ≤ 1000000) (s : ByteArray) (hs : s.size ≤ 9223372036854775807) (a n : Int) (ha : Num a) (hn : Num n) : Calls Try.prog 22 #[.pointer (some ⟨b, 0, none⟩), .string s, .int .i64 a, .int .i64 n] w fun e w' => e = .returned (.tuple #[.string (d.getS s a n), .int .i64 (d.getE s a n)]) ∧ LeftT (bkT b (d.ask (Bk.askOk s a n))) w X w' := by
  have hnm := name_any s hs w
  obtain ⟨a1, a2⟩ := ha
  obtain ⟨n1, n2⟩ := hn
  cases hk : Bk.askOk s a n with
  | false =>
    have e1 : d.getE s a n = 1 := by simp [Bk.getE, hk]
    have e2 : d.getS s a n = { data := #[] } := by simp [Bk.getS, e1]
    rw [e1, e2, show d.ask false = d from rfl]
    have HL := hide (LeftT.refl h)
    clear h e1 e2
    cases hnb : nameB s with
    | false =>
      rw [hnb] at hnm
      clear hk hnb
      go_enter Try.func22, Try.ntmps22
      go_wp2_with fail
      refine hnm.mono ?_
      rintro e w' ⟨rfl, rfl⟩
      go_wp2
      go_ret2
      exact ⟨rfl, HL.out⟩
    | true =>
      have hor : a < 0 ∨ n < 0 := by
        rw [Bk.askOk, hnb] at hk
        simp at hk
        omega
      rw [hnb] at hnm
      clear hk hnb
      by_cases h1 : a < 0
      · go_enter Try.func22, Try.ntmps22
        go_wp2_with fail
        refine hnm.mono ?_
        rintro e w' ⟨rfl, rfl⟩
        go_wp2
        go_ret2
        exact ⟨rfl, HL.out⟩
      · have h2 : n < 0 := by omega
        have h3 : 0 ≤ a := by omega
        clear hor h1
        go_enter Try.func22, Try.ntmps22
        go_wp2_with fail
        refine hnm.mono ?_
        rintro e w' ⟨rfl, rfl⟩
        go_wp2
        go_ret2
        exact ⟨rfl, HL.out⟩
  | true =>
    have hk' := hk
    simp only [Bk.askOk, Bool.and_eq_true, decide_eq_true_eq] at hk'
    obtain ⟨⟨hnb, h3⟩, h4⟩ := hk'
    obtain ⟨A, rfl⟩ := Int.eq_ofNat_of_zero_le h3
    obtain ⟨N, rfl⟩ := Int.eq_ofNat_of_zero_le h4
    rw [hnb] at hnm
    rw [show d.ask true = d.next from rfl]
    have hc := fetch_any h ho hf s
    have hok : d.Ok := by obtain ⟨_, _, _, h, _⟩ := h; exact h.ok
    have hz := fetch_size hok s
    by_cases hE0 : d.fetchE s = 0
    · by_cases hA : (d.fetchS s).size < A
      · have e1 : d.getE s A N = 31 := by simp [Bk.getE, hk, hE0, hA]
        have e2 : d.getS s A N = { data := #[] } := by simp [Bk.getS, e1]
        rw [e1, e2]
        rw [hE0] at hc
        clear h hk hnb e1 e2 hE0 hok
        generalize d.fetchS s = S at *
        go_enter Try.func22, Try.ntmps22
        go_wp2_with fail
        refine hnm.mono ?_
        rintro e w' ⟨rfl, rfl⟩
        clear hnm
        go_wp2_with fail
        refine hc.mono ?_
        rintro e w2 ⟨rfl, hl2⟩
        have HL := hide hl2
        clear hc hl2
        go_wp2
        go_ret2
        exact ⟨rfl, HL.out⟩
      · have e1 : d.getE s A N = 0 := by simp [Bk.getE, hk, hE0]; omega
        have e2 : d.getS s A N = cutOf (d.fetchS s) A N := by simp [Bk.getS, e1]
        rw [e1, e2]
        rw [hE0] at hc
        clear h hk hnb e1 e2 hE0 hok
        generalize d.fetchS s = S at *
        have hA' : A ≤ S.size := by omega
        obtain ⟨T, hT⟩ : ∃ T, T = S.extract A S.size := ⟨_, rfl⟩
        have hTz : T.size ≤ S.size := by rw [hT, ByteArray.size_extract]; omega
        have HT : Hid (cutOf S A N = T.extract 0 (min N T.size)) := by
          show _ = _
          unfold cutOf
          rw [show ((A : Int)).toNat = A by omega, ← hT, show (min (N : Int) (T.size : Int)).toNat = min N T.size by omega]
        rw [HT.out]
        by_cases hm : N ≤ T.size
        · rw [Nat.min_eq_left hm]
          have hTe : S.extract A S.size = T := hT.symm
          clear hT HT
          go_enter Try.func22, Try.ntmps22
          go_wp2_with fail
          refine hnm.mono ?_
          rintro e w' ⟨rfl, rfl⟩
          clear hnm
          go_wp2_with fail
          refine hc.mono ?_
          rintro e w2 ⟨rfl, hl2⟩
          have HL := hide hl2
          clear hc hl2
          go_wp2
          go_ret2
          exact ⟨rfl, HL.out⟩
        · rw [Nat.min_eq_right (by omega), show T.extract 0 T.size = T by simp]
          have hm2 : T.size ≤ N := by omega
          have hTe : S.extract A S.size = T := hT.symm
          clear hT HT
          go_enter Try.func22, Try.ntmps22
          go_wp2_with fail
          refine hnm.mono ?_
          rintro e w' ⟨rfl, rfl⟩
          clear hnm
          go_wp2_with fail
          refine hc.mono ?_
          rintro e w2 ⟨rfl, hl2⟩
          have HL := hide hl2
          clear hc hl2
          go_wp2
          go_ret2
          exact ⟨rfl, HL.out⟩
    · have e1 : d.getE s A N = d.fetchE s := by simp [Bk.getE, hk, hE0]
      have e2 : d.getS s A N = { data := #[] } := by simp [Bk.getS, e1, hE0]
      rw [e1, e2]
      have hor := fetch_num (d := d) s
      clear h hk hnb e1 e2 hok
      generalize d.fetchS s = S at *
      generalize d.fetchE s = E at *
      have b0 : (E == 0) = false := by simp; omega
      have b1 : (E != 0) = true := by simp; omega
      go_enter Try.func22, Try.ntmps22
      go_wp2_with fail
      refine hnm.mono ?_
      rintro e w' ⟨rfl, rfl⟩
      clear hnm
      go_wp2_with fail
      refine hc.mono ?_
      rintro e w2 ⟨rfl, hl2⟩
      have HL := hide hl2
      clear hc hl2
      go_wp2
      go_ret2
      exact ⟨rfl, HL.out⟩
end

end Wi
end Go.Proofs.Ythnhapjjgaicdaa
