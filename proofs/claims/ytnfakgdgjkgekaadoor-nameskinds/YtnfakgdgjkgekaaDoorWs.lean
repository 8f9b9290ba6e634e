/- Numbers of a volume's objects of a kind: Sift. -/
import Derived.Test.YtnfakgdgjkgekaaDoorWr
import Derived.Test.YtnfakgdgjkgekaaDoorWt
namespace Go.Proofs.YtnfakgdgjkgekaaDoor
open Go.RowKit
namespace Wi

/-- Is a text the name of a volume's object of a kind? -/
def isOf (v : ByteArray) (z : Int) (s : ByteArray) : Bool := okP s && (decide (parS s = v) && decide ((parK s : Int) = z))
def siftL (ts : List ByteArray) (v : ByteArray) (z : Int) : List Int := (ts.filter (isOf v z)).map fun s => (parQ s : Int)
theorem sift_snoc {ts : List ByteArray} {k : Nat} {s : ByteArray} (h : ts[k]? = some s) (v : ByteArray) (z : Int) : siftL (ts.take (k + 1)) v z = siftL (ts.take k) v z ++ (if isOf v z s then [(parQ s : Int)] else []) := by
  unfold siftL
  rw [snoc_take _ _ _ h, List.filter_append, List.map_append]
  congr 1
  cases hb : isOf v z s <;> simp [hb]
theorem sift_few (ts : List ByteArray) (v : ByteArray) (z : Int) (k : Nat) : (siftL (ts.take k) v z).length ≤ k := by
  unfold siftL
  rw [List.length_map]
  have h1 := List.length_filter_le (isOf v z) (ts.take k)
  rw [List.length_take] at h1
  omega
theorem parQ_lt (s : ByteArray) : parQ s < 1099511627776 := by
  unfold parQ
  split
  · rename_i h
    obtain ⟨h13, _, _, _, _, hn⟩ := ok_parts h
    exact (num_back h13 hn).2
  · omega
/-- New memory that holds the numbers. -/
def NewE (w : World) (l : List Int) (w' : World) (v : Value) : Prop := ∃ n, NewI w l n w' v
set_option maxHeartbeats 8000000 in
theorem sift_any {w : World} {a : Option Addr} {n cap : Nat} {ts : List ByteArray} (h : Ss w a n ts) (hn : n ≤ 1000) (v : ByteArray) (_hv : v.size ≤ 9223372036854775807) (z : Int) (hz : Num z) : Calls Tryd.prog 21 #[.slice a n cap, .string v, .int .i64 z] w fun e w' => ∃ v', e = .returned v' ∧ NewE w (SR (siftL ts v z)) w' v' := by
  have HL := hide h.len
  obtain ⟨z1, z2⟩ := hz
  have HS : Hid (NewI w (siftL (ts.take 0) v z) 0 w (.slice none 0 0)) := NewI.nil (Below.refl _ _)
  go_enter Tryd.func21, Tryd.ntmps21
  go_wp2
  go_loopw [7, 14] (fun x i wr => ∃ k : Nat, k ≤ n ∧ i = .int .i64 k ∧ NewE w (siftL (ts.take k) v z) wr x) (fun _ i _ => n - (intOf i).toNat)
  case atStart => exact ⟨0, Nat.zero_le _, rfl, 0, HS.out⟩
  case round =>
    clear HS
    obtain ⟨k, hk, rfl, m, hN⟩ := hrel
    have HN := hide hN
    by_cases hlt : k < n
    · obtain ⟨s, hs⟩ : ∃ s, ts[k]? = some s := ⟨_, List.getElem?_eq_getElem (by have := HL.out; omega)⟩
      obtain ⟨b, off, rfl, hbl, c0⟩ := (h.later hN.below).cells k s hs
      have hfit := h.fit s (List.mem_of_getElem? hs)
      have hpa := parse_any s hfit wr
      have hT := sift_snoc hs v z
      clear hs hN
      cases ho : isOf v z s with
      | true =>
        rw [ho] at hT
        simp only [if_true] at hT
        have HT := hide hT
        unfold isOf at ho
        simp only [Bool.and_eq_true, decide_eq_true_eq] at ho
        obtain ⟨ho1, ho2, ho3⟩ := ho
        rw [show parE s = 0 by simp [parE, ho1]] at hpa
        have v1 : ((parS s).toList == v.toList) = true := beq_lists ho2
        have v2 : (((parK s : Nat) : Int) == z) = true := by rw [beq_iff_eq]; exact ho3
        have hq := parQ_lt s
        have hm : m ≤ 1000 := by
          have h1 := HN.out.len
          have h2 := sift_few ts v z k
          omega
        clear hT ho1 ho2 ho3
        go_wp2_with fail
        refine hpa.mono ?_
        rintro e w1 ⟨rfl, hb1⟩
        have hb2 := below_alloc w1 (.cells #[.string (parS s), .int .i64 (parK s : Nat), .int .i64 (parQ s : Nat)] 23)
        have HN1 := hide (HN.out.later (hb1.trans (hb2.mono hb1.size)))
        clear hpa hb1 hb2 HN
        have HN2 := hide (HN1.out.later (below_alloc (w1.alloc (.cells #[.string (parS s), .int .i64 (parK s : Nat), .int .i64 (parQ s : Nat)] 23)) (.cells #[.int .i64 (parQ s : Nat)] 3)))
        have hI1 := Is.new (w1.alloc (.cells #[.string (parS s), .int .i64 (parK s : Nat), .int .i64 (parQ s : Nat)] 23)) [((parQ s : Nat) : Int)] (by intro x hx; rw [List.mem_singleton.1 hx]; unfold Num; omega) #[.int .i64 (parQ s : Nat)] rfl
        rw [show (w1.alloc (.cells #[.string (parS s), .int .i64 (parK s : Nat), .int .i64 (parQ s : Nat)] 23)).heap.size = w1.heap.size + 1 by simp] at hI1
        have HI1 := hide hI1
        have hx1 : m + 1 ≤ maxLen := by unfold maxLen; omega
        have hx2 : (m + 1) * 8 ≤ 140737488355328 := by omega
        clear hI1 HN1
        generalize parS s = PS at *
        generalize parK s = PK at *
        generalize parQ s = PQ at *
        go_wp2_with (at_builtin; refine append38 rfl (.tmp 37) (.tmp 40) rfl _ m _ rfl HN2.out.row _ 1 1 [(PQ : Int)] rfl HI1.out hx1 hx2 ?_; intro v2 w3 g1 g2 g3; replace g1 := hide g1; replace g2 := hide g2; replace g3 := hide g3)
        have HFF : Hid (NewE w (siftL (ts.take (k + 1)) v z) w3 v2) := by
          have := HN2.out.grow (m := [(PQ : Int)]) (Below.refl _ _) rfl g1.out g2.out g3.out
          rw [← HT.out] at this
          exact ⟨_, this⟩
        clear g1 g2 g3
        go_roundw
        case rel => exact ⟨k + 1, by omega, by go_num, HFF.out⟩
        case measure => simp [intOf]; omega
      | false =>
        rw [ho] at hT
        simp only [Bool.false_eq_true, if_false, List.append_nil] at hT
        have HT := hide hT
        clear hT
        unfold isOf at ho
        cases hok : okP s with
        | false =>
          have b1 : (parE s == 0) = false := by simp [parE, hok]
          clear hok ho
          go_wp2_with fail
          refine hpa.mono ?_
          rintro e w1 ⟨rfl, hb1⟩
          have hb2 := below_alloc w1 (.cells #[.string (parS s), .int .i64 (parK s : Nat), .int .i64 (parQ s : Nat)] 23)
          have HN1 := hide (HN.out.later (hb1.trans (hb2.mono hb1.size)))
          clear hpa hb1 hb2 HN
          generalize parS s = PS at *
          generalize parK s = PK at *
          generalize parQ s = PQ at *
          generalize parE s = PE at *
          go_wp2
          go_roundw
          case rel => exact ⟨k + 1, by omega, by go_num, by rw [HT.out]; exact ⟨_, HN1.out⟩⟩
          case measure => simp [intOf]; omega
        | true =>
          rw [show parE s = 0 by simp [parE, hok]] at hpa
          rw [hok, Bool.true_and] at ho
          by_cases hvv : parS s = v
          · have v1 : ((parS s).toList == v.toList) = true := beq_lists hvv
            rw [decide_eq_true hvv, Bool.true_and] at ho
            have v2 : (((parK s : Nat) : Int) == z) = false := by rw [beq_eq_false_iff_ne]; exact of_decide_eq_false ho
            clear ho hok hvv
            go_wp2_with fail
            refine hpa.mono ?_
            rintro e w1 ⟨rfl, hb1⟩
            have hb2 := below_alloc w1 (.cells #[.string (parS s), .int .i64 (parK s : Nat), .int .i64 (parQ s : Nat)] 23)
            have HN1 := hide (HN.out.later (hb1.trans (hb2.mono hb1.size)))
            clear hpa hb1 hb2 HN
            generalize parS s = PS at *
            generalize parK s = PK at *
            generalize parQ s = PQ at *
            generalize parE s = PE at *
            go_wp2
            go_roundw
            case rel => exact ⟨k + 1, by omega, by go_num, by rw [HT.out]; exact ⟨_, HN1.out⟩⟩
            case measure => simp [intOf]; omega
          · have v1 : ((parS s).toList == v.toList) = false := bne_lists hvv
            clear ho hok hvv
            go_wp2_with fail
            refine hpa.mono ?_
            rintro e w1 ⟨rfl, hb1⟩
            have hb2 := below_alloc w1 (.cells #[.string (parS s), .int .i64 (parK s : Nat), .int .i64 (parQ s : Nat)] 23)
            have HN1 := hide (HN.out.later (hb1.trans (hb2.mono hb1.size)))
            clear hpa hb1 hb2 HN
            generalize parS s = PS at *
            generalize parK s = PK at *
            generalize parQ s = PQ at *
            generalize parE s = PE at *
            go_wp2
            go_roundw
            case rel => exact ⟨k + 1, by omega, by go_num, by rw [HT.out]; exact ⟨_, HN1.out⟩⟩
            case measure => simp [intOf]; omega
    · have hT : ts.take k = ts := List.take_of_length_le (by have := HL.out; omega)
      rw [hT] at HN
      have hm : m ≤ 1000 := by
        have h1 := HN.out.len
        have h2 := sift_few ts v z ts.length
        rw [List.take_length] at h2
        have := HL.out
        omega
      have hr := rising_any HN.out.row HN.out.len (by omega)
      clear hN hT
      go_wp2_with fail
      refine hr.mono ?_
      rintro e w2 ⟨v2, rfl, hR⟩
      have HF : Hid (NewE w (SR (siftL ts v z)) w2 v2) := ⟨_, rfl, hR.row, fun j hj => HN.out.new j (by rw [← hR.own]; exact hj), HN.out.below.trans (hR.keep.below HN.out.below.size fun k hk e => by have := HN.out.new k e; omega)⟩
      clear hr hR
      go_wp2
      go_ret
      exact ⟨_, rfl, HF.out⟩

end Wi
end Go.Proofs.YtnfakgdgjkgekaaDoor
