/- The law NamesSifts: which numbers a volume's objects of a kind have, rising. -/
import Derived.Test.YtnfakgdgjkgekaaDoorRc
import Derived.Test.YtnfakgdgjkgekaaDoorLw
import Derived.Test.YtnfakgdgjkgekaaDoorWs
namespace Go.Proofs.YtnfakgdgjkgekaaDoor
open Go.RowKit
namespace Wi

theorem of_gen (s v : ByteArray) (z : Int) : ofI s v z = if isOf v z s then (parQ s : Int) else -1 := by
  by_cases hc : preE v z = 0 ∧ s.size = (preS v z).size + 10 ∧ s.extract 0 (preS v z).size = preS v z
  · obtain ⟨hE, hsz, hX⟩ := hc
    have hbs := bs_preS hE
    obtain ⟨hv, z1, z2, _⟩ := pre_ok hE
    have hD : (bs (s.extract (preS v z).size s.size)).length = 10 := by rw [bs_length, ByteArray.size_extract]; omega
    have h1 := cut_data s (preS v z).size (by omega)
    rw [hX, hbs] at h1
    obtain ⟨h13, e1, e2, e3, e4, e5⟩ := parts_of hD h1
    have hV : parV s = v := bs_inj e1
    have hDD : parD s = s.extract (preS v z).size s.size := bs_inj e5
    have hk := kd_ltr (k := z.toNat) (by omega) (by omega)
    unfold ofI
    rw [if_pos ⟨hE, hsz, hX⟩, ← hDD]
    unfold numI
    cases hn : numB (parD s) with
    | true =>
      have hok : okP s = true := by unfold okP; rw [decide_eq_true h13, hV, hv, e2, e3, hk.2, e4, hn]; rfl
      have hof : isOf v z s = true := by
        unfold isOf
        rw [hok, show parS s = v by simp [parS, hok, hV], show parK s = z.toNat by simp [parK, hok, e3, hk.1]]
        simp
        omega
      have hq : parQ s = numN (parD s) := by unfold parQ; rw [if_pos hok]
      rw [if_pos hof, hq]
      unfold numN
      rw [if_pos hn, if_pos rfl]
    | false =>
      have hok : okP s = false := by unfold okP; rw [hn]; simp
      have hof : isOf v z s = false := by unfold isOf; rw [hok]; rfl
      rw [hof, if_neg Bool.false_ne_true, if_neg Bool.false_ne_true]
  · have hof : isOf v z s = false := by
      cases ho : isOf v z s with
      | false => rfl
      | true =>
        exfalso
        apply hc
        unfold isOf at ho
        simp only [Bool.and_eq_true, decide_eq_true_eq] at ho
        obtain ⟨ho1, ho2, ho3⟩ := ho
        have hE0 : parE s = 0 := by simp [parE, ho1]
        obtain ⟨b1, b2, b3⟩ := back2 hE0
        rw [ho2, ho3] at b1 b2
        obtain ⟨_, _, _, _, _, hE⟩ := prn_ok b1
        obtain ⟨c1, c2⟩ := (begins_iff b1 hE).2 ⟨rfl, rfl⟩
        rw [b2] at c1 c2
        refine ⟨hE, ?_, c2⟩
        have h1 := congrArg List.length (bs_prnS b1)
        rw [b2, bs_length, List.length_append, dgs_length, ← bs_preS hE, bs_length] at h1
        exact h1
    unfold ofI
    rw [if_neg hc, hof, if_neg Bool.false_ne_true]
theorem run_upto38 {w : World} {a : Option Addr} {m c k : Nat} {L : List Int} (h : Rw w 3 1 (.slice a m c) m (encI L)) (hk : k ≤ m) : (∀ w, (Instr.slice 38 (.slice a m c) none (some (.int .i64 (k : Nat))) none).run Tryd.prog w = .ok (.slice a k c) w) ∧ Rw w 3 1 (.slice a k c) k (encI (L.take k)) := by
  rcases h.2 with ⟨hv, h0⟩ | ⟨g, off, cap, cur, hv, _, h1, _⟩
  · injection hv with e1 e2 e3
    subst e1 e3 h0
    obtain rfl : k = 0 := by omega
    refine ⟨fun w => ?_, by simpa [encI] using Rw.nil w 3 1⟩
    simp [Instr.slice, Instr.sliceBounds, Instr.sliceBound, run_underlying Tryd.underlying38, asIntOf]
  · injection hv with e1 e2 e3
    subst e1 e3
    refine ⟨fun w => ?_, ?_⟩
    · simp [Instr.slice, Instr.sliceBounds, Instr.sliceBound, run_underlying Tryd.underlying38, asIntOf, show k ≤ c by omega, Addr.add_mid]
    · have := h.narrow hk
      rw [Nat.mul_one, show (encI L).take k = encI (L.take k) by simp [encI, List.map_take]] at this
      exact this
theorem run_from38 {w : World} {a : Option Addr} {m c k : Nat} {L : List Int} (h : Rw w 3 1 (.slice a m c) m (encI L)) (hk : k ≤ m) : ∃ a2, (∀ w, (Instr.slice 38 (.slice a m c) (some (.int .i64 (k : Nat))) none none).run Tryd.prog w = .ok (.slice a2 (m - k) (c - k)) w) ∧ Rw w 3 1 (.slice a2 (m - k) (c - k)) (m - k) (encI (L.drop k)) := by
  have hd := h.drop hk
  rw [Nat.mul_one, show (encI L).drop k = encI (L.drop k) by simp [encI, List.map_drop]] at hd
  refine ⟨_, fun w => ?_, hd⟩
  have b2 : ¬ m < k := by omega
  simp [Instr.slice, Instr.sliceBounds, Instr.sliceBound, run_underlying Tryd.underlying38, asIntOf, b2]
/-- A number among others. -/
theorem ins_ok {L : List Int} (h : L.Pairwise (· < ·)) {n : Int} {j : Nat} (h1 : ∀ i x, i < j → L[i]? = some x → x < n) (h2 : ∀ x, L[j]? = some x → n < x) : (L.take j ++ [n] ++ L.drop j).Pairwise (· < ·) ∧ ∀ x, x ∈ L.take j ++ [n] ++ L.drop j ↔ x ∈ L ∨ x = n := by
  have ha : ∀ x ∈ L.take j, x < n := fun x hx => by
    obtain ⟨i, hi⟩ := List.getElem?_of_mem hx
    have hl := (List.getElem?_eq_some_iff.1 hi).1
    rw [List.length_take] at hl
    rw [List.getElem?_take_of_lt (by omega)] at hi
    exact h1 i x (by omega) hi
  have hb : ∀ x ∈ L.drop j, n < x := fun x hx => by
    obtain ⟨i, hi⟩ := List.getElem?_of_mem hx
    rw [List.getElem?_drop] at hi
    obtain ⟨y, hy⟩ : ∃ y, L[j]? = some y := ⟨_, List.getElem?_eq_getElem (by have := (List.getElem?_eq_some_iff.1 hi).1; omega)⟩
    have := h2 y hy
    cases i with
    | zero => rw [Nat.add_zero, hy] at hi; injection hi with hi; omega
    | succ i => have := rise_at h hy hi (by omega); omega
  constructor
  · rw [List.append_assoc, List.pairwise_append]
    refine ⟨List.Pairwise.sublist (List.take_sublist _ _) h, ?_, fun x hx y hy => ?_⟩
    · rw [List.singleton_append, List.pairwise_cons]
      exact ⟨hb, List.Pairwise.sublist (List.drop_sublist _ _) h⟩
    · have := ha x hx
      rcases List.mem_append.1 hy with e | e
      · rw [List.mem_singleton.1 e]; exact this
      · have := hb y e; omega
  · intro x
    have e : L = L.take j ++ L.drop j := (List.take_append_drop j L).symm
    constructor
    · intro hx
      rcases List.mem_append.1 hx with hx | hx
      · rcases List.mem_append.1 hx with hx | hx
        · exact .inl (List.mem_of_mem_take hx)
        · exact .inr (List.mem_singleton.1 hx)
      · exact .inl (List.mem_of_mem_drop hx)
    · rintro (hx | rfl)
      · rw [e] at hx
        rcases List.mem_append.1 hx with hx | hx
        · simp [hx]
        · simp [hx]
      · simp
theorem sift_num (ts : List ByteArray) (v : ByteArray) (z : Int) : ∀ x ∈ siftL ts v z, 0 ≤ x ∧ x < 1099511627776 := fun x hx => by
  obtain ⟨s, _, rfl⟩ := List.mem_map.1 hx
  have := parQ_lt s
  omega
/-- What is wanted so far. -/
structure Want (W : World) (l : List Int) (w : World) (L : List Int) (m : Nat) (v : Value) : Prop where
  new : NewI W L m w v
  rise : L.Pairwise (· < ·)
  mem : ∀ x, x ∈ L ↔ x ∈ l
set_option maxRecDepth 20000 in
set_option maxHeartbeats 16000000 in
theorem namesSifts_walk (a : Option Addr) (n cap : Nat) (ts : List ByteArray) (v : ByteArray) (z : Int) (W : World) (T : Tz W) (hS : Ss W a n ts) (hv : v.size ≤ 9223372036854775807) (hz : Num z) : Calls Tryd.prog 5 #[.slice a n cap, .string v, .int .i64 z] W fun e w' => e = .returned (.bool true) ∧ Below W.heap.size W w' := by
  have hn := hS.most
  have HZ := hide hz
  obtain ⟨z1, z2⟩ := hz
  by_cases h1 : 40 < n
  · have HB := hide (Below.refl W.heap.size W)
    go_enter Tryd.func5, Tryd.ntmps5
    go_wp2_with fail
    refine (awake_any _ (T.later HB.out)).mono ?_
    rintro e w9 ⟨rfl, hb9⟩
    go_wp2
    go_ret
    exact ⟨rfl, HB.out.trans (hb9.mono HB.out.size)⟩
  · by_cases h2 : 100 < v.size
    · have HB := hide (Below.refl W.heap.size W)
      go_enter Tryd.func5, Tryd.ntmps5
      go_wp2_with fail
      refine (awake_any _ (T.later HB.out)).mono ?_
      rintro e w9 ⟨rfl, hb9⟩
      go_wp2
      go_ret
      exact ⟨rfl, HB.out.trans (hb9.mono HB.out.size)⟩
    · have HL := hide hS.len
      have H0 : Hid (Want W (siftL (ts.take 0) v z) W [] 0 (.slice none 0 0)) := ⟨NewI.nil (Below.refl _ _), List.Pairwise.nil, fun x => by simp [siftL]⟩
      go_enter Tryd.func5, Tryd.ntmps5
      go_wp2
      go_loopw [7, 8] (fun x i wr => ∃ (k m : Nat) (L : List Int), k ≤ n ∧ m ≤ k ∧ i = .int .i64 k ∧ Want W (siftL (ts.take k) v z) wr L m x) (fun _ i _ => n - (intOf i).toNat)
      case atStart => exact ⟨0, 0, [], Nat.zero_le _, Nat.le_refl _, rfl, H0.out⟩
      case round =>
        clear H0
        obtain ⟨k, m, L, hk, hm, rfl, hW⟩ := hrel
        have HW := hide hW
        obtain ⟨xa, xc, hx7⟩ := hW.new.row.form
        subst hx7
        by_cases hlt : k < n
        · obtain ⟨s, hs⟩ : ∃ s, ts[k]? = some s := ⟨_, List.getElem?_eq_getElem (by have := HL.out; omega)⟩
          obtain ⟨b, off, rfl, hbl, c0⟩ := (hS.later hW.new.below).cells k s hs
          have hfit := hS.fit s (List.mem_of_getElem? hs)
          have HT := hide (sift_snoc hs v z)
          clear hs hW
          by_cases h100 : 100 < s.size
          · have HB := hide HW.out.new.below
            go_wp2_with fail
            refine (awake_any _ (T.later HB.out)).mono ?_
            rintro e w9 ⟨rfl, hb9⟩
            go_wp2
            go_ret
            exact ⟨rfl, HB.out.trans (hb9.mono HB.out.size)⟩
          · have hro := rof_any s v hfit hv z HZ.out wr
            have hOG := of_gen s v z
            obtain ⟨N, hNN⟩ : ∃ N, ofI s v z = N := ⟨_, rfl⟩
            rw [hNN] at hro hOG
            have hq := parQ_lt s
            have HNR : Hid (-1 ≤ N ∧ N < 1099511627776) := by show _ ∧ _; rw [hOG]; split <;> omega
            have HOG := hide hOG
            have HLN : Hid (∀ x ∈ L, 0 ≤ x ∧ x < 1099511627776) := fun x hx => sift_num _ _ _ x ((HW.out.mem x).1 hx)
            have HLE := hide HW.out.new.len
            clear hNN hOG hq
            go_wp2_with fail
            refine hro.mono ?_
            rintro e w1 ⟨rfl, hww⟩
            subst hww
            clear hro
            go_wp2
            go_loop [10] (fun i => ∃ j : Nat, j ≤ m ∧ i = .int .i64 j ∧ Hid (∀ i x, i < j → L[i]? = some x → x < N)) (fun i => m - (intOf i).toNat)
            case atStart => exact ⟨0, Nat.zero_le _, rfl, fun i x h => by omega⟩
            case round =>
              obtain ⟨j, hj, rfl, HJ⟩ := hrel
              by_cases hjm : j < m
              · obtain ⟨y, hy⟩ : ∃ y, L[j]? = some y := ⟨_, List.getElem?_eq_getElem (by have := HLE.out; omega)⟩
                obtain ⟨g2, off2, c2, hv2, hgl2, _⟩ := HW.out.new.row.pos (by omega)
                injection hv2 with e1 e2 e3
                subst e1 e3
                clear e2
                have cy := (HW.out.new.row.cell (encI_get hy)).1
                have hyN := HLN.out y (List.mem_of_getElem? hy)
                have HY := hide hy
                clear hy
                by_cases hyn : y < N
                · have HJ2 : Hid (∀ i x, i < j + 1 → L[i]? = some x → x < N) := fun i x hi hx => by
                    rcases Nat.lt_or_ge i j with h | h
                    · exact HJ.out i x h hx
                    · obtain rfl : i = j := by omega
                      rw [HY.out] at hx
                      injection hx with hx
                      omega
                  clear HJ
                  go_wp2
                  go_round
                  case rel => exact ⟨j + 1, by omega, by go_num, HJ2⟩
                  case measure => simp [intOf]; omega
                · by_cases hyeq : y = N
                  · have HWF : Hid (Want W (siftL (ts.take (k + 1)) v z) w1 L m (.slice (some ⟨g2, off2, none⟩) m xc)) := ⟨HW.out.new, HW.out.rise, fun x => by
                      have h0 : ¬ N = -1 := by omega
                      have hof : isOf v z s = true := by
                        cases ho : isOf v z s with
                        | true => rfl
                        | false => have := HOG.out; rw [ho] at this; simp at this; omega
                      have hNq : N = (parQ s : Int) := by have := HOG.out; rw [hof] at this; simpa using this
                      rw [HT.out, hof, if_pos rfl, List.mem_append, List.mem_singleton, ← HW.out.mem x]
                      constructor
                      · exact .inl
                      · rintro (h | h)
                        · exact h
                        · rw [h, ← hNq, ← hyeq]; exact List.mem_of_getElem? HY.out⟩
                    have b1 : (y == N) = true := by rw [beq_iff_eq]; exact hyeq
                    have hN0 : ¬ N < 0 := by omega
                    clear HJ hyeq HT HOG
                    go_wp2
                    all_goals
                      go_roundw
                      case rel => exact ⟨k + 1, m, L, by omega, by omega, by go_num, HWF.out⟩
                      case measure => simp [intOf]; omega
                  · have b1 : (y == N) = false := by rw [beq_eq_false_iff_ne]; exact hyeq
                    have HGT : Hid (∀ x, L[j]? = some x → N < x) := fun x hx => by
                      rw [HY.out] at hx
                      injection hx with hx
                      omega
                    clear hyeq HY
                    by_cases hN0 : N < 0
                    · have HWF : Hid (Want W (siftL (ts.take (k + 1)) v z) w1 L m (.slice (some ⟨g2, off2, none⟩) m xc)) := ⟨HW.out.new, HW.out.rise, fun x => by
                        have hof : isOf v z s = false := by
                          cases ho : isOf v z s with
                          | false => rfl
                          | true => have := HOG.out; rw [ho] at this; simp at this; omega
                        rw [HT.out, hof]
                        simpa using HW.out.mem x⟩
                      clear HJ HT HOG HGT
                      go_wp2
                      go_roundw
                      case rel => exact ⟨k + 1, m, L, by omega, by omega, by go_num, HWF.out⟩
                      case measure => simp [intOf]; omega
                    · have hof : isOf v z s = true := by
                        cases ho : isOf v z s with
                        | true => rfl
                        | false => have := HOG.out; rw [ho] at this; simp at this; omega
                      have hNq : N = (parQ s : Int) := by have := HOG.out; rw [hof] at this; simpa using this
                      have HINS := hide (ins_ok HW.out.rise HJ.out HGT.out)
                      have HMEM : Hid (∀ x, x ∈ L.take j ++ [N] ++ L.drop j ↔ x ∈ siftL (ts.take (k + 1)) v z) := fun x => by
                        rw [HINS.out.2 x, HT.out, hof, if_pos rfl, List.mem_append, List.mem_singleton, ← HW.out.mem x, hNq]
                      obtain ⟨hr1, hw1⟩ := run_upto38 HW.out.new.row hj
                      obtain ⟨a2, hr2, hw2⟩ := run_from38 HW.out.new.row hj
                      have hnum : ∀ x ∈ L, Num x := fun x hx => by have := HLN.out x hx; unfold Num; omega
                      have HI1 := hide (hw1.is (by rw [List.length_take]; have := HLE.out; omega) fun x hx => hnum x (List.mem_of_mem_take hx))
                      have HI3 := hide (hw2.is (by rw [List.length_drop]; have := HLE.out; omega) fun x hx => hnum x (List.mem_of_mem_drop hx))
                      have HBW := hide HW.out.new.below
                      have HNIL : Hid (NewI w1 [] 0 w1 (.slice none 0 0)) := NewI.nil (Below.refl _ _)
                      have hx1 : 0 + j ≤ maxLen := by unfold maxLen; omega
                      have hx2 : (0 + j) * 8 ≤ 140737488355328 := by omega
                      have hx3 : 0 + j + 1 ≤ maxLen := by unfold maxLen; omega
                      have hx4 : (0 + j + 1) * 8 ≤ 140737488355328 := by omega
                      have hx5 : 0 + j + 1 + (m - j) ≤ maxLen := by unfold maxLen; omega
                      have hx6 : (0 + j + 1 + (m - j)) * 8 ≤ 140737488355328 := by omega
                      have HLT : Hid ((L.take j).length = j) := by show _ = _; rw [List.length_take]; have := HLE.out; omega
                      have HLD : Hid ((L.drop j).length = m - j) := by show _ = _; rw [List.length_drop, HLE.out]
                      have HNN : Hid (Num N) := by have := HNR.out; exact ⟨by omega, by omega⟩
                      clear HJ HT HOG HGT hof hNq hw1 hw2 hnum hS
                      go_wp2_with (at_builtin; first | (refine append38 rfl (.tmp 71) (.tmp 74) rfl _ 0 _ rfl HNIL.out.row _ j xc _ rfl HI1.out hx1 hx2 ?_; intro v2 w2 g1 g2 g3; obtain ⟨b2, n2, d2, rfl⟩ := g1.own_form; have HN2 : Hid (NewI w1 ([] ++ L.take j) (0 + j) w2 (.slice b2 n2 d2)) := HNIL.out.grow (Below.refl _ _) HLT.out g1 g2 g3; have HN3 := hide (HN2.out.later (below_alloc w2 (.cells #[.int .i64 N] 3))); have HI2 := hide (Is.new w2 [N] (fun x hx => (List.mem_singleton.1 hx) ▸ HNN.out) #[.int .i64 N] rfl); clear g1 g2 g3) | (refine append38 rfl (.tmp 76) (.tmp 78) rfl _ (0 + j) _ rfl HN3.out.row _ 1 1 [N] rfl HI2.out hx3 hx4 ?_; intro v4 w4 g1 g2 g3; obtain ⟨b4, n4, d4, rfl⟩ := g1.own_form; have HN4 : Hid (NewI w1 ([] ++ L.take j ++ [N]) (0 + j + 1) w4 (.slice b4 n4 d4)) := HN3.out.grow (Below.refl _ _) rfl g1 g2 g3; have HI4 := hide (HI3.out.later HN4.out.below); clear g1 g2 g3) | (refine append38 rfl (.tmp 80) (.tmp 83) rfl _ (0 + j + 1) _ rfl HN4.out.row _ (m - j) (xc - j) _ rfl HI4.out hx5 hx6 ?_; intro v5 w5 g1 g2 g3; replace g1 := hide g1; replace g2 := hide g2; replace g3 := hide g3))
                      have HN5 : Hid (NewI w1 ([] ++ L.take j ++ [N] ++ L.drop j) (0 + j + 1 + (m - j)) w5 v5) := HN4.out.grow (Below.refl _ _) HLD.out g1.out g2.out g3.out
                      have HWF : Hid (Want W (siftL (ts.take (k + 1)) v z) w5 (L.take j ++ [N] ++ L.drop j) (0 + j + 1 + (m - j)) v5) := ⟨⟨by simpa using HN5.out.len, by simpa using HN5.out.row, fun i hi => Nat.le_trans HBW.out.size (HN5.out.new i hi), HBW.out.trans (HN5.out.below.mono HBW.out.size)⟩, HINS.out.1, HMEM.out⟩
                      clear g1 g2 g3 HN5
                      go_roundw
                      case rel => exact ⟨k + 1, 0 + j + 1 + (m - j), L.take j ++ [N] ++ L.drop j, by omega, by omega, by go_num, HWF.out⟩
                      case measure => simp [intOf]; omega
              · have HGT : Hid (∀ x, L[j]? = some x → N < x) := fun x hx => by
                  have h1 := (List.getElem?_eq_some_iff.1 hx).1
                  have h2 := HLE.out
                  omega
                by_cases hN0 : N < 0
                · have HWF : Hid (Want W (siftL (ts.take (k + 1)) v z) w1 L m (.slice xa m xc)) := ⟨HW.out.new, HW.out.rise, fun x => by
                    have hof : isOf v z s = false := by
                      cases ho : isOf v z s with
                      | false => rfl
                      | true => have := HOG.out; rw [ho] at this; simp at this; omega
                    rw [HT.out, hof]
                    simpa using HW.out.mem x⟩
                  clear HJ HT HOG HGT
                  go_wp2
                  go_roundw
                  case rel => exact ⟨k + 1, m, L, by omega, by omega, by go_num, HWF.out⟩
                  case measure => simp [intOf]; omega
                · have hof : isOf v z s = true := by
                    cases ho : isOf v z s with
                    | true => rfl
                    | false => have := HOG.out; rw [ho] at this; simp at this; omega
                  have hNq : N = (parQ s : Int) := by have := HOG.out; rw [hof] at this; simpa using this
                  have HINS := hide (ins_ok HW.out.rise HJ.out HGT.out)
                  have HMEM : Hid (∀ x, x ∈ L.take j ++ [N] ++ L.drop j ↔ x ∈ siftL (ts.take (k + 1)) v z) := fun x => by
                    rw [HINS.out.2 x, HT.out, hof, if_pos rfl, List.mem_append, List.mem_singleton, ← HW.out.mem x, hNq]
                  obtain ⟨hr1, hw1⟩ := run_upto38 HW.out.new.row hj
                  obtain ⟨a2, hr2, hw2⟩ := run_from38 HW.out.new.row hj
                  have hnum : ∀ x ∈ L, Num x := fun x hx => by have := HLN.out x hx; unfold Num; omega
                  have HI1 := hide (hw1.is (by rw [List.length_take]; have := HLE.out; omega) fun x hx => hnum x (List.mem_of_mem_take hx))
                  have HI3 := hide (hw2.is (by rw [List.length_drop]; have := HLE.out; omega) fun x hx => hnum x (List.mem_of_mem_drop hx))
                  have HBW := hide HW.out.new.below
                  have HNIL : Hid (NewI w1 [] 0 w1 (.slice none 0 0)) := NewI.nil (Below.refl _ _)
                  have hx1 : 0 + j ≤ maxLen := by unfold maxLen; omega
                  have hx2 : (0 + j) * 8 ≤ 140737488355328 := by omega
                  have hx3 : 0 + j + 1 ≤ maxLen := by unfold maxLen; omega
                  have hx4 : (0 + j + 1) * 8 ≤ 140737488355328 := by omega
                  have hx5 : 0 + j + 1 + (m - j) ≤ maxLen := by unfold maxLen; omega
                  have hx6 : (0 + j + 1 + (m - j)) * 8 ≤ 140737488355328 := by omega
                  have HLT : Hid ((L.take j).length = j) := by show _ = _; rw [List.length_take]; have := HLE.out; omega
                  have HLD : Hid ((L.drop j).length = m - j) := by show _ = _; rw [List.length_drop, HLE.out]
                  have HNN : Hid (Num N) := by have := HNR.out; exact ⟨by omega, by omega⟩
                  clear HJ HT HOG HGT hof hNq hw1 hw2 hnum hS
                  go_wp2_with (at_builtin; first | (refine append38 rfl (.tmp 71) (.tmp 74) rfl _ 0 _ rfl HNIL.out.row _ j xc _ rfl HI1.out hx1 hx2 ?_; intro v2 w2 g1 g2 g3; obtain ⟨b2, n2, d2, rfl⟩ := g1.own_form; have HN2 : Hid (NewI w1 ([] ++ L.take j) (0 + j) w2 (.slice b2 n2 d2)) := HNIL.out.grow (Below.refl _ _) HLT.out g1 g2 g3; have HN3 := hide (HN2.out.later (below_alloc w2 (.cells #[.int .i64 N] 3))); have HI2 := hide (Is.new w2 [N] (fun x hx => (List.mem_singleton.1 hx) ▸ HNN.out) #[.int .i64 N] rfl); clear g1 g2 g3) | (refine append38 rfl (.tmp 76) (.tmp 78) rfl _ (0 + j) _ rfl HN3.out.row _ 1 1 [N] rfl HI2.out hx3 hx4 ?_; intro v4 w4 g1 g2 g3; obtain ⟨b4, n4, d4, rfl⟩ := g1.own_form; have HN4 : Hid (NewI w1 ([] ++ L.take j ++ [N]) (0 + j + 1) w4 (.slice b4 n4 d4)) := HN3.out.grow (Below.refl _ _) rfl g1 g2 g3; have HI4 := hide (HI3.out.later HN4.out.below); clear g1 g2 g3) | (refine append38 rfl (.tmp 80) (.tmp 83) rfl _ (0 + j + 1) _ rfl HN4.out.row _ (m - j) (xc - j) _ rfl HI4.out hx5 hx6 ?_; intro v5 w5 g1 g2 g3; replace g1 := hide g1; replace g2 := hide g2; replace g3 := hide g3))
                  have HN5 : Hid (NewI w1 ([] ++ L.take j ++ [N] ++ L.drop j) (0 + j + 1 + (m - j)) w5 v5) := HN4.out.grow (Below.refl _ _) HLD.out g1.out g2.out g3.out
                  have HWF : Hid (Want W (siftL (ts.take (k + 1)) v z) w5 (L.take j ++ [N] ++ L.drop j) (0 + j + 1 + (m - j)) v5) := ⟨⟨by simpa using HN5.out.len, by simpa using HN5.out.row, fun i hi => Nat.le_trans HBW.out.size (HN5.out.new i hi), HBW.out.trans (HN5.out.below.mono HBW.out.size)⟩, HINS.out.1, HMEM.out⟩
                  clear g1 g2 g3 HN5
                  go_roundw
                  case rel => exact ⟨k + 1, 0 + j + 1 + (m - j), L.take j ++ [N] ++ L.drop j, by omega, by omega, by go_num, HWF.out⟩
                  case measure => simp [intOf]; omega
        · obtain rfl : k = n := by omega
          have hTT : ts.take k = ts := List.take_of_length_le (by have := HL.out; omega)
          rw [hTT] at HW
          have hsf := sift_any (cap := cap) (hS.later hW.new.below) (by omega) v hv z HZ.out
          have HEQ : Hid (SR (siftL ts v z) = L) := rise_uniq _ _ (SR_lt _) HW.out.rise fun x => (SR_mem _ x).trans (HW.out.mem x).symm
          clear hW hTT
          go_wp2_with fail
          refine hsf.mono ?_
          rintro e w3 ⟨v3, rfl, m3, hN3⟩
          rw [HEQ.out] at hN3
          have hm3 : m3 = m := by rw [← hN3.len, HW.out.new.len]
          subst hm3
          obtain ⟨a3, c3, hv3⟩ := hN3.row.form
          subst hv3
          have hnum : ∀ x ∈ L, Num x := fun x hx => by
            have := sift_num _ _ _ x ((HW.out.mem x).1 hx)
            unfold Num
            omega
          have hb3 := hN3.below
          have hin := ints_same (c := c3) (d := xc) (hN3.row.is hN3.len hnum) ((HW.out.new.row.is HW.out.new.len hnum).later hb3) (by omega)
          have HB3 := hide (HW.out.new.below.trans (hb3.mono HW.out.new.below.size))
          clear hsf hN3 hb3 HW
          go_wp2_with fail
          refine hin.mono ?_
          rintro e w4 ⟨rfl, hb4⟩
          have HB := hide (HB3.out.trans (hb4.mono HB3.out.size))
          clear hin hb4 HB3
          go_wp2_with fail
          refine (awake_any _ (T.later HB.out)).mono ?_
          rintro e w9 ⟨rfl, hb9⟩
          go_wp2
          go_ret
          exact ⟨rfl, HB.out.trans (hb9.mono HB.out.size)⟩

end Wi
end Go.Proofs.YtnfakgdgjkgekaaDoor
