/- The law BucketOnce: an object is as it was put, as long as it is there. -/
import Derived.Test.YthnhapjjgaicdaaWz
import Derived.Test.YthnhapjjgaicdaaMe
import Derived.Test.YthnhapjjgaicdaaLb
namespace Go.Proofs.Ythnhapjjgaicdaa
open Go.RowKit
namespace Wi

def skp : ByteArray := { data := #[107, 101, 112, 116] }
theorem name_kp : nameB skp = true := by kernel_rfl
theorem list_skp : skp.toList = [107, 101, 112, 116] := by kernel_rfl
theorem list_inj {a b : ByteArray} (h : a.toList = b.toList) : a = b := by
  apply Classical.byContradiction
  intro hne
  have := bne_lists hne
  rw [h] at this
  simp at this
theorem Os.later {W w : World} {a : Option Addr} {n : Nat} {xs : List OpV} (h : Os W a n xs) (hb : Below W.heap.size W w) : Os w a n xs :=
  ⟨h.len, h.most, fun o ho => (h.ok o ho).later hb, fun i o hi => by
    obtain ⟨b, off, ha, hlt, hr⟩ := h.cells i o hi
    exact ⟨b, off, ha, Nat.lt_of_lt_of_le hlt hb.size, fun j v hv => by rw [hb.cell (p := ⟨b, off + i * 6 + j, none⟩) hlt]; exact hr j v hv⟩⟩
/-- The bucket behind k calls. -/
structure OnceAt (x : ByteArray) (k : Nat) (d : Bk) : Prop where
  stay : Stay skp x d
  ok : d.Ok
  few : d.objs.length + d.late.length ≤ 1 + k
  fates : d.fates.length ≤ 20 * k
theorem OnceAt.load {x : ByteArray} {k : Nat} {d : Bk} (h : OnceAt x k d) : d.objs.length + d.late.length ≤ 1 + k ∧ d.fates.length ≤ 20 * k ∧ True := ⟨h.few, h.fates, trivial⟩
theorem OnceAt.sizes {x : ByteArray} {k : Nat} {d : Bk} (h : OnceAt x k d) : ∀ o ∈ d.objs, o.1.size ≤ 9223372036854775807 := fun o ho => Nat.le_trans (h.stay.names o ho) (by omega)
theorem OnceAt.skip {x : ByteArray} {k : Nat} {d : Bk} (h : OnceAt x k d) (_hk : k < 60) : OnceAt x (k + 1) d := ⟨h.stay, h.ok, by have := h.few; omega, by have := h.fates; omega⟩
theorem name_size {s : ByteArray} (h : nameB s = true) : s.size ≤ 64 := by
  unfold nameB at h
  simp only [Bool.and_eq_true, decide_eq_true_eq] at h
  exact h.1.2
theorem land_few (d : Bk) (n : Int) : (d.land n).objs.length + (d.land n).late.length ≤ d.objs.length + d.late.length ∧ (d.land n).fates = d.fates := by
  have h1 := acts_size (d.late.take (upTo n d.late.length)) d
  obtain ⟨h2, h3, _⟩ := acts_same (d.late.take (upTo n d.late.length)) d
  have h4 := upTo_le n d.late.length
  rw [List.length_take] at h1
  refine ⟨?_, h2⟩
  show (d.acts (d.late.take (upTo n d.late.length))).objs.length + ((d.acts (d.late.take (upTo n d.late.length))).late.drop (upTo n d.late.length)).length ≤ _
  rw [List.length_drop, h3]
  omega
theorem OnceAt.step {x : ByteArray} {k : Nat} {d : Bk} (h : OnceAt x k d) (_hk : k < 60) {W : World} {o : OpV} (ho : OpOk W (fun _ => False) o) (hb : ¬ badO o) (hn : o.ask = 4 → o.name ≠ skp) : OnceAt x (k + 1) (d.step o) := by
  have hs := h.skip _hk
  have hlen := ho.l.len
  have hfe := h.fates
  have hfw := h.few
  have hnext : OnceAt x (k + 1) d.next := ⟨h.stay.next, h.ok.next, hs.few, by have := hs.fates; show d.fates.tail.length ≤ _; rw [List.length_tail]; omega⟩
  have hask : ∀ b, OnceAt x (k + 1) (d.ask b) := fun b => by cases b; exact hs; exact hnext
  have hcall : ∀ c : Ch, (c.1 = false → c.2.1 ≠ skp) → c.2.1.size ≤ 64 → c.2.2.size ≤ 65536 → OnceAt x (k + 1) (d.call c) := fun c h1 h2 h3 => by
    obtain ⟨l1, l2⟩ := load_call d c
    exact ⟨h.stay.call h1 h2, h.ok.call c h3, by omega, by omega⟩
  unfold Bk.step
  split
  · unfold Bk.put
    split
    · rename_i hp
      simp only [Bool.and_eq_true, decide_eq_true_eq] at hp
      exact hcall _ (fun e => by cases e) (name_size hp.1) hp.2
    · exact hs
  · split
    · exact hask _
    · split
      · exact hask _
      · split
        · exact hnext
        · split
          · rename_i h4
            unfold Bk.del
            split
            · rename_i hp
              exact hcall _ (fun _ => hn h4) (name_size hp) (by show 0 ≤ _; omega)
            · exact hs
          · split
            · refine ⟨⟨h.stay.mem, h.stay.late, h.stay.names, h.stay.lates⟩, h.ok.tell _, hs.few, ?_⟩
              show (d.fates ++ o.l.map fateOf).length ≤ _
              rw [List.length_append, List.length_map, ← hlen]
              unfold badO at hb
              omega
            · split
              · obtain ⟨l1, l2⟩ := land_few d o.n
                exact ⟨h.stay.land _, (Bk.Ok.acts _ h.ok).drop _, by omega, by rw [l2]; omega⟩
              · exact ⟨h.stay.drop _, h.ok.drop _, by show d.objs.length + (d.late.drop _).length ≤ _; rw [List.length_drop]; omega, hs.fates⟩
theorem once_start (x : ByteArray) (hx : x.size ≤ 200) : OnceAt x 0 ⟨[(skp, x)], 1048576, [], []⟩ :=
  ⟨⟨by simp, by simp, by simp; exact (by show 4 ≤ 64; omega), by simp⟩, ⟨List.pairwise_singleton _ _, by show total [(skp, x)] ≤ 1048576; rw [total_one]; omega, by show 1048576 ≤ _; omega, by simp, by simp⟩, by show 1 + 0 ≤ 1 + 0; omega, by show 0 ≤ _; omega⟩
def soth : ByteArray := { data := #[111, 116, 104, 101, 114] }
/-- Behind all calls, when fates are used up and late calls have landed. -/
theorem once_end {x : ByteArray} {k : Nat} {d : Bk} (h : OnceAt x k d) : ∃ D : Bk, (Bk.mk d.objs d.quota [] d.late).land 1000 = D ∧ D.getE skp 0 1000 = 0 ∧ D.getS skp 0 1000 = cutOf x 0 1000 ∧ D.sizeE skp = 0 ∧ D.sizeN skp = x.size ∧ D.getE skp ((x.size : Int) + 1) 1 = 31 ∧ D.putE skp soth = 16 ∧ D.next = D ∧ (Bk.askOk skp 0 1000 = true ∧ Bk.askOk skp ((x.size : Int) + 1) 1 = true) ∧ D.objs.length + D.late.length ≤ d.objs.length + d.late.length ∧ D.fates.length = 0 := by
  have h0 : Stay skp x ⟨d.objs, d.quota, [], d.late⟩ := ⟨h.stay.mem, h.stay.late, h.stay.names, h.stay.lates⟩
  have hok : (Bk.mk d.objs d.quota [] d.late).Ok := ⟨h.ok.rise, h.ok.room, h.ok.most, by simp, h.ok.late⟩
  have hst := h0.land 1000
  have hD : ((Bk.mk d.objs d.quota [] d.late).land 1000).Ok := (Bk.Ok.acts _ hok).drop _
  obtain ⟨l1, l2⟩ := land_few (Bk.mk d.objs d.quota [] d.late) 1000
  generalize (Bk.mk d.objs d.quota [] d.late).land 1000 = D at *
  obtain ⟨g1, g2⟩ := hst.got hD.rise
  have hf : D.fate0 = 0 := by simp [Bk.fate0, l2]
  have hE : D.fetchE skp = 0 := by simp [Bk.fetchE, hf, g2]
  have hS : D.fetchS skp = x := by simp [Bk.fetchS, hf, g1]
  have a1 : Bk.askOk skp 0 1000 = true := by simp [Bk.askOk, name_kp]
  have a2 : Bk.askOk skp ((x.size : Int) + 1) 1 = true := by simp [Bk.askOk, name_kp]; omega
  have e1 : D.getE skp 0 1000 = 0 := by rw [Bk.getE, a1, hE, hS]; simp
  have hnx : D.next = D := by
    obtain ⟨o, q, f, l⟩ := D
    simp only at l2
    subst l2
    rfl
  refine ⟨D, rfl, e1, by rw [Bk.getS, e1, hS]; simp, by simp [Bk.sizeE, name_kp, hE], by simp [Bk.sizeN, name_kp, hS], by rw [Bk.getE, a2, hE, hS]; simp; omega, ?_, hnx, ⟨a1, a2⟩, l1, by rw [l2]; rfl⟩
  have hso : soth.size ≤ 65536 := by show 5 ≤ _; omega
  simp [Bk.putE, name_kp, hso, Bk.callE, hf, hnx, Bk.actE, Bk.addE, g2]
set_option maxHeartbeats 8000000 in
set_option maxRecDepth 20000 in
theorem bucketOnce_walk (x : ByteArray) (a : Option Addr) (n cap : Nat) (xs : List OpV) (W : World) (hx : x.size ≤ 9223372036854775807) (hO : Os W a n xs) : Calls Try.prog 5 #[.string x, .slice a n cap] W fun e w' => e = .returned (.bool true) ∧ Below W.heap.size W w' := by
  have hn := hO.most
  have HL := hide hO.len
  have hnw := new_any 1048576 (by omega) W
  by_cases h1 : 200 < x.size
  · skip
    go_enter Try.func5, Try.ntmps5
    go_wp2_with fail
    refine hnw.mono ?_
    rintro e w1 ⟨rfl, hN, hb1⟩
    have hbb := hide hb1
    clear hN hb1 hnw
    go_wp2_with fail
    refine (awake_any _).mono ?_
    rintro e w2 ⟨rfl, hb2⟩
    go_wp2
    go_ret
    exact ⟨rfl, hbb.out.trans (hb2.mono hbb.out.size)⟩
  · cases hB : fewB xs with
    | false =>
      go_enter Try.func5, Try.ntmps5
      go_wp2_with fail
      refine hnw.mono ?_
      rintro e w1 ⟨rfl, hN, hb1⟩
      have hfw := few_any (cap := cap) (hO.later hb1)
      rw [hB] at hfw
      have hbb := hide hb1
      clear hN hb1 hnw
      go_wp2_with fail
      refine hfw.mono ?_
      rintro e w' ⟨rfl, rfl⟩
      clear hfw
      go_wp2_with fail
      refine (awake_any _).mono ?_
      rintro e w2 ⟨rfl, hb2⟩
      go_wp2
      go_ret
      exact ⟨rfl, hbb.out.trans (hb2.mono hbb.out.size)⟩
    | true =>
      obtain ⟨hgood, h60⟩ := fewB_iff.1 hB
      have HG := hide hgood
      clear hgood
      obtain ⟨p1, p2⟩ := one_put (q := 1048576) (s := skp) (x := x) name_kp (by omega) (by omega)
      have P1 := hide p1
      have P2 := hide p2
      clear p1 p2
      go_enter Try.func5, Try.ntmps5
      go_wp2_with fail
      refine hnw.mono ?_
      rintro e w1 ⟨rfl, hN, hb1⟩
      have hfw := few_any (cap := cap) (hO.later hb1)
      rw [hB] at hfw
      have hM : Mine W w1 (bkT W.heap.size (bk0 1048576)) := let ⟨X, h1, h2⟩ := hN; ⟨X, h1, h2, hb1⟩
      clear hN hb1 hnw
      go_wp2_with fail
      refine hfw.mono ?_
      rintro e w' ⟨rfl, rfl⟩
      clear hfw
      obtain ⟨X, hT, hX, hgo⟩ := hM.go1
      have hc := put_any hT (by show 0 ≤ _; omega) (by show 0 ≤ _; omega) (by show 0 ≤ _; omega) skp x (by show 4 ≤ _; omega) (by omega)
      rw [P1.out, P2.out] at hc
      go_wp2_with fail
      refine hc.mono ?_
      rintro e w2 ⟨rfl, hl⟩
      replace hM := hgo hl
      clear hl hgo hT hX X hc
      have HM := hide hM
      clear hM
      go_wp2
      go_loopw [7] (fun i wr => ∃ (k : Nat) (d : Bk), k ≤ n ∧ i = .int .i64 k ∧ Mine W wr (bkT W.heap.size d) ∧ OnceAt x k d) (fun i _ => n - (intOf i).toNat)
      case atStart => exact ⟨0, _, Nat.zero_le _, rfl, HM.out, once_start x (by omega)⟩
      case round =>
        clear HM
        obtain ⟨k, d, hk, rfl, hM, hS⟩ := hrel
        have HS := hide hS
        obtain ⟨s1, s2, s3⟩ := hS.load
        by_cases hlt : k < n
        · obtain ⟨o, ho⟩ : ∃ o, xs[k]? = some o := ⟨_, List.getElem?_eq_getElem (by have := HL.out; omega)⟩
          have hmem := List.mem_of_getElem? ho
          have hgd := HG.out o hmem
          have hok := hO.ok o hmem
          have hk60 : k < 60 := by have := HL.out; omega
          obtain ⟨g, off, rfl, hgl, hrg⟩ := hO.cells k o ho
          have hrg2 : wr.rangeAt g (off + k * 6) o.cells := fun j v hv => (hM.below.cell (p := ⟨g, off + k * 6 + j, none⟩) hgl).trans (hrg j v hv)
          obtain ⟨c0, c1, c2, c3, c4, c5⟩ := op_cells hrg2
          obtain ⟨X, hT, hX, hgo⟩ := hM.go1
          have hc := does_any hT (by omega) (by omega) HS.out.sizes o (hok.to hM.below hX) (by unfold badO at hgd; omega)
          clear hrg hrg2 ho hmem s1 s2 s3
          by_cases h4 : o.ask = 4
          · by_cases hkn : o.name = skp
            · have HS2 := hide (HS.out.skip hk60)
              have v1 : o.name.toList = [107, 101, 112, 116] := by rw [hkn]; exact list_skp
              have v2 : (o.name.toList == [107, 101, 112, 116]) = true := by rw [v1]; rfl
              rw [h4] at c0
              have HM := hide hM
              clear hc hgo hM hkn hT hX
              go_wp2
              go_roundw
              case rel => exact ⟨k + 1, d, by omega, by go_num, HM.out, HS2.out⟩
              case measure => simp [intOf]; omega
            · have HS2 := hide (HS.out.step hk60 hok hgd fun _ => hkn)
              have v1 : ¬ o.name.toList = [107, 101, 112, 116] := fun e => hkn (list_inj (e.trans list_skp.symm))
              have v2 : (o.name.toList == [107, 101, 112, 116]) = false := by rw [beq_eq_false_iff_ne]; exact v1
              clear hkn HS hok hgd hT hX
              obtain ⟨ask, name, data, pl, nn, la, ln, lc, l⟩ := o
              unfold OpV.cells at *
              simp only at *
              subst h4
              generalize d.step ⟨4, name, data, pl, nn, la, ln, lc, l⟩ = d' at *
              generalize d.stepE ⟨4, name, data, pl, nn, la, ln, lc, l⟩ = E at *
              generalize d.stepS ⟨4, name, data, pl, nn, la, ln, lc, l⟩ = S at *
              generalize d.stepN ⟨4, name, data, pl, nn, la, ln, lc, l⟩ = N at *
              go_wp2_with fail
              refine hc.mono ?_
              rintro e w3 ⟨v, rfl, hd⟩
              have HM := hide (hgo hd.left)
              clear hc hd hgo hM
              go_wp2
              go_roundw
              case rel => exact ⟨k + 1, _, by omega, by go_num, HM.out, HS2.out⟩
              case measure => simp [intOf]; omega
          · have HS2 := hide (HS.out.step hk60 hok hgd fun e => absurd e h4)
            have v2 : (o.ask == 4) = false := by rw [beq_eq_false_iff_ne]; exact h4
            clear HS hok hgd hT hX h4
            obtain ⟨ask, name, data, pl, nn, la, ln, lc, l⟩ := o
            unfold OpV.cells at *
            simp only at *
            generalize d.step ⟨ask, name, data, pl, nn, la, ln, lc, l⟩ = d' at *
            generalize d.stepE ⟨ask, name, data, pl, nn, la, ln, lc, l⟩ = E at *
            generalize d.stepS ⟨ask, name, data, pl, nn, la, ln, lc, l⟩ = S at *
            generalize d.stepN ⟨ask, name, data, pl, nn, la, ln, lc, l⟩ = N at *
            go_wp2_with fail
            refine hc.mono ?_
            rintro e w3 ⟨v, rfl, hd⟩
            have HM := hide (hgo hd.left)
            clear hc hd hgo hM
            go_wp2
            go_roundw
            case rel => exact ⟨k + 1, _, by omega, by go_num, HM.out, HS2.out⟩
            case measure => simp [intOf]; omega
        · obtain rfl : k = n := by omega
          clear hlt
          have h60' : k ≤ 60 := by have := HL.out; omega
          have HM : Hid (Mine W wr (bkT W.heap.size ⟨d.objs, d.quota, d.fates.drop 0, d.late⟩)) := hM
          have hfl : d.fates.length ≤ 1200 := by omega
          have hol : d.objs.length + d.late.length ≤ 61 := by omega
          clear hM hS s1 s2 s3
          go_wp2
          go_loopw [8] (fun i wr => ∃ j : Nat, j ≤ 1300 ∧ i = .int .i64 j ∧ Mine W wr (bkT W.heap.size ⟨d.objs, d.quota, d.fates.drop j, d.late⟩)) (fun i _ => 1300 - (intOf i).toNat)
          case atStart => exact ⟨0, Nat.zero_le _, rfl, HM.out⟩
          case round =>
            clear HM
            obtain ⟨j, hj, rfl, hM⟩ := hrel
            by_cases hlt : j < 1300
            · obtain ⟨X, hT, hX, hgo⟩ := hM.go1
              have hc := size_any hT (by show d.objs.length ≤ _; omega) (by show (d.fates.drop j).length ≤ _; rw [List.length_drop]; omega) skp (by show 4 ≤ _; omega)
              rw [name_kp, show Bk.ask ⟨d.objs, d.quota, d.fates.drop j, d.late⟩ true = ⟨d.objs, d.quota, d.fates.drop (j + 1), d.late⟩ by simp [Bk.ask, Bk.next]] at hc
              generalize Bk.sizeN _ skp = N at *
              generalize Bk.sizeE _ skp = E at *
              go_wp2_with fail
              refine hc.mono ?_
              rintro e w3 ⟨rfl, hl⟩
              have HM := hide (hgo hl)
              clear hl hgo hT hX X hc hM
              go_wp2
              go_roundw
              case rel => exact ⟨j + 1, by omega, by go_num, HM.out⟩
              case measure => simp [intOf]; omega
            · obtain rfl : j = 1300 := by omega
              rw [List.drop_eq_nil_of_le (by omega)] at hM
              obtain ⟨D, F1, F2, F3, F4, F5, F6, F7, F8, ⟨F9, F12⟩, F10, F11⟩ := once_end HS.out
              have E12 := hide F12
              clear F12
              have E1 := hide F1
              have E2 := hide F2
              have E3 := hide F3
              have E4 := hide F4
              have E5 := hide F5
              have E6 := hide F6
              have E7 := hide F7
              have E8 := hide F8
              have E9 := hide F9
              clear F1 F2 F3 F4 F5 F6 F7 F8 F9
              have v1 : (x.toList == x.toList) = true := beq_lists rfl
              obtain ⟨X, hT, hX, hgo⟩ := hM.go1
              have hc := land_any hT (by show d.objs.length + d.late.length ≤ _; omega) 1000 (by constructor <;> omega)
              rw [E1.out] at hc
              go_wp2_with fail
              refine hc.mono ?_
              rintro e w4 ⟨rfl, hl⟩
              replace hM := hgo hl
              clear hl hgo hT hX X hc
              obtain ⟨X, hT, hX, hgo⟩ := hM.go1
              have hc := get_any hT (by omega) (by omega) skp (by show 4 ≤ _; omega) 0 1000 (by constructor <;> omega) (by constructor <;> omega)
              rw [E2.out, E3.out, E9.out, show cutOf x 0 1000 = x from cut_all x 1000 (by omega)] at hc
              rw [show D.ask true = D.next from rfl, E8.out] at hc
              go_wp2_with fail
              refine hc.mono ?_
              rintro e w5 ⟨rfl, hl⟩
              replace hM := hgo hl
              clear hl hgo hT hX X hc
              obtain ⟨X, hT, hX, hgo⟩ := hM.go1
              have hc := size_any hT (by omega) (by omega) skp (by show 4 ≤ _; omega)
              rw [E4.out, E5.out, name_kp] at hc
              rw [show D.ask true = D.next from rfl, E8.out] at hc
              go_wp2_with fail
              refine hc.mono ?_
              rintro e w6 ⟨rfl, hl⟩
              replace hM := hgo hl
              clear hl hgo hT hX X hc
              obtain ⟨X, hT, hX, hgo⟩ := hM.go1
              have hc := get_any hT (by omega) (by omega) skp (by show 4 ≤ _; omega) ((x.size : Int) + 1) 1 (by constructor <;> omega) (by constructor <;> omega)
              rw [E6.out, E12.out] at hc
              rw [show D.ask true = D.next from rfl, E8.out] at hc
              generalize D.getS skp ((x.size : Int) + 1) 1 = SS at *
              go_wp2_with fail
              refine hc.mono ?_
              rintro e w7 ⟨rfl, hl⟩
              replace hM := hgo hl
              clear hl hgo hT hX X hc
              obtain ⟨X, hT, hX, hgo⟩ := hM.go1
              have hc := put_any hT (by omega) (by omega) (by omega) skp soth (by show 4 ≤ _; omega) (by show 5 ≤ _; omega)
              rw [E7.out] at hc
              go_wp2_with fail
              refine hc.mono ?_
              rintro e w8 ⟨rfl, hl⟩
              replace hM := hgo hl
              clear hl hgo hT hX X hc
              have hbb := hide hM.below
              clear hM
              go_wp2_with fail
              refine (awake_any _).mono ?_
              rintro e w14 ⟨rfl, hb14⟩
              go_wp2
              go_ret
              exact ⟨rfl, hbb.out.trans (hb14.mono hbb.out.size)⟩

end Wi
end Go.Proofs.Ythnhapjjgaicdaa
