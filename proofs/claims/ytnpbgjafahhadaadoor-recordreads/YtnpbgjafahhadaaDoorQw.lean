/- Package crc, call by call -/
import Derived.Test.YtnpbgjafahhadaaDoorProg
import Derived.Test.YtnpbgjafahhadaaDoorQm
import Derived.WalkKit
import Derived.WalkSpells
import Derived.WalkLawsBesides
import Derived.Deep.QuietTactic
import Derived.BigQuiet
import Derived.Laws.BitsAllLaws
import Derived.StillTail
import Derived.Laws.AppendOwn
import Derived.Laws.BytesArg
import Derived.Laws.MakeOwn
namespace Go.Proofs.YtnpbgjafahhadaaDoor
open Go.RowKit
namespace Cr

theorem hide {p : Prop} (h : p) : Hid p := h
theorem ret_int {k : IntKind} {a b : Int} (h : a = b) : Ending.returned (.int k a) = .returned (.int k b) := by rw [h]
theorem ret_bool {a b : Bool} (h : a = b) : Ending.returned (.bool a) = .returned (.bool b) := by rw [h]
theorem ret_str {a b : ByteArray} (h : a = b) : Ending.returned (.string a) = .returned (.string b) := by rw [h]

/-- A later world: all that lay in w lies unturned. -/
structure Later (w : World) where
  val : World
  below : Below w.heap.size w val

theorem later_ne (w : World) : Nonempty (Later w) := ⟨⟨w, Below.refl _ _⟩⟩

theorem wp_region_later {P : Program} {id : Nat} {Q : Exit → Act → World → Prop} {a : Act} {w : World} {l : List Oper} (hm : P.follows .mixedOrders = true) (hB : Region.lexB .any l.toArray = true)
    (h : wpQuiet P l.toArray (fun w' => ∃ p : Later w, w' = p.val) (fun a' => ∀ w', (∃ p : Later w, w' = p.val) → Q .normal a' w') l a) : (Code.region id l.toArray true).wp P Q a w :=
  wp_region_quiet (C := fun w' => ∃ p : Later w, w' = p.val) hm hB ⟨⟨w.drew, (Below.refl _ _).drew⟩, rfl⟩ (by simpa using h)

/-- A callee's contract, met in a later world. -/
theorem later_of {P : Program} {f : FuncId} {args : Array Value} {w : World} {p : Later w} {v : Value}
    (h : Calls P f args p.val fun e w' => e = .returned v ∧ Below p.val.heap.size p.val w') : Calls P f args p.val fun e w'' => e = .returned v ∧ ∃ p : Later w, w'' = p.val :=
  h.mono fun _ w' ⟨he, hb⟩ => ⟨he, ⟨w', p.below.trans (hb.mono p.below.size)⟩, rfl⟩
theorem below_alloc (w : World) (o : Obj) : Below w.heap.size w (w.alloc o) := (Below.refl _ _).alloc (Nat.le_refl _) _

/-- The table of half bytes lies as it was laid. -/
structure Tab (w : World) : Prop where
  lt : 0 < w.heap.size
  cell : ∀ i, i < 16 → w.cell? ⟨0, i, none⟩ = some (.int .u32 (tb i : Nat))
theorem Tab.later {w w' : World} (h : Tab w) (hb : Below w.heap.size w w') : Tab w' :=
  ⟨Nat.lt_of_lt_of_le h.lt hb.size, fun i hi => (hb.cell h.lt).trans (h.cell i hi)⟩

/-- A slice's memory holds these strings. -/
structure Ss (w : World) (a : Option Addr) (n : Nat) (xs : List ByteArray) : Prop where
  len : n = xs.length
  most : n ≤ 9223372036854775807
  fit : ∀ s ∈ xs, s.size ≤ 9223372036854775807
  cells : ∀ i s, xs[i]? = some s → ∃ b off, a = some ⟨b, off, none⟩ ∧ b < w.heap.size ∧ w.cell? ⟨b, off + i, none⟩ = some (.string s)
theorem Ss.later {w : World} {a : Option Addr} {n : Nat} {xs : List ByteArray} (h : Ss w a n xs) {wr : World} (hb : Below w.heap.size w wr) : Ss wr a n xs :=
  ⟨h.len, h.most, h.fit, fun i s hi => by
    obtain ⟨b, off, ha, hbl, c0⟩ := h.cells i s hi
    exact ⟨b, off, ha, Nat.lt_of_lt_of_le hbl hb.size, (hb.cell hbl).trans c0⟩⟩
theorem Ss.nil (w : World) (c : Option Addr) : Ss w c 0 [] := ⟨rfl, by omega, by simp, by simp⟩
theorem Ss.one (w : World) (s : ByteArray) (h : s.size ≤ 9223372036854775807) (t : TypeId) : Ss (w.alloc (.cells #[.string s] t)) (some ⟨w.heap.size, 0, none⟩) 1 [s] :=
  ⟨rfl, by omega, by simpa using h, fun i x hi => by
    cases i with
    | zero => simp at hi; subst hi; exact ⟨_, _, rfl, by simp, by simp⟩
    | succ i => simp at hi⟩
theorem Ss.two (w : World) (s r : ByteArray) (h : s.size ≤ 9223372036854775807) (h2 : r.size ≤ 9223372036854775807) (t : TypeId) : Ss (w.alloc (.cells #[.string s, .string r] t)) (some ⟨w.heap.size, 0, none⟩) 2 [s, r] :=
  ⟨rfl, by omega, by simp [h, h2], fun i x hi => by
    match i, hi with
    | 0, hi => simp at hi; subst hi; exact ⟨_, _, rfl, by simp, by simp⟩
    | 1, hi => simp at hi; subst hi; exact ⟨_, _, rfl, by simp, by simp⟩
    | i + 2, hi => simp at hi⟩

end Cr
end Go.Proofs.YtnpbgjafahhadaaDoor

namespace Go.Proofs.YtnpbgjafahhadaaDoor
open Go.RowKit
namespace Cr
section
variable {P : Program} {ops : Array Oper} {C : World → Prop} {n : Nat}

/-- Whatever order is picked among the first n operations, each of them quiet in the class, L holds of what is left when f of them have come up. -/
def Heads (P : Program) (ops : Array Oper) (C : World → Prop) (n : Nat) (L : Array Bool → Act → Prop) : Nat → Array Bool → Act → Prop
  | 0, done, a => L done a
  | f + 1, done, a => Region.ready .any ops done ≠ [] ∧ ∀ i ∈ Region.ready .any ops done, i < n ∧ qOp P ops C i (Heads P ops C n L f (done.setIfInBounds i true)) a

theorem Heads.any {g : Nat} {L : Array Bool → Act → Prop} {Q : Exit → Act → World → Prop} (hL : ∀ done a, L done a → ∀ w, C w → wpAny P .any ops Q g done a w) :
    ∀ f done a, Heads P ops C n L f done a → ∀ w, C w → wpAny P .any ops Q (f + g) done a w := by
  intro f
  induction f with
  | zero => intro done a h w hw; rw [Nat.zero_add]; exact hL done a h w hw
  | succ f ih =>
    intro done a h w hw
    rw [Nat.succ_add]
    exact ⟨fun e => absurd e h.1, fun i hi => wpOp_of_qOp hw (fun a' w' hw' h' => ih _ a' h' w' hw') (h.2 i hi).2⟩

theorem Heads.first {i : Nat} {oi : Oper} {v : Value} {L : Array Bool → Act → Prop} (hi : ops[i]? = some oi) (hsel : Region.noSelect ops = true)
    (hs : Region.sinkB .any ops n = true) (hc : Region.chainB .any ops n = true) (hn : n < ops.size) (hin : i < n)
    (hL : ∀ done a, L done a → ∀ j ∈ Region.ready .any ops done, n ≤ j) :
    ∀ f done a, HeadInv .any ops n done →
      (∀ j oj, ops[j]? = some oj → j ≠ i → done.getD j true = false → (∀ e ∈ oj.after, Region.binds .any e = true → e.on ≠ i) → oi.apart ops oj = true) →
      i ∈ Region.ready .any ops done → YieldsIn P ops C oi v a → Heads P ops C n L f (done.setIfInBounds i true) (a.put oi.dst v) → Heads P ops C n L (f + 1) done a := by
  have sel := Region.noSelect_spec hsel
  have low : ∀ done, HeadInv .any ops n done → i ∈ Region.ready .any ops done → ∀ j ∈ Region.ready .any ops done, j < n := fun done inv hr j hj =>
    (Nat.lt_or_ge j n).resolve_right fun hge => tail_waits hs hc hn inv _ i rfl hin (mem_ready.1 hr).1 j hge hj
  intro f
  induction f with
  | zero =>
    intro done a inv _ hr hy H
    refine ⟨List.ne_nil_of_mem hr, fun j hj => ⟨low done inv hr j hj, ?_⟩⟩
    by_cases hji : j = i
    · subst hji; exact hy.qOp hi H
    · have h1 := hL _ _ H j (ready_mono hj hji)
      have h2 := low done inv hr j hj
      omega
  | succ f ih =>
    intro done a inv hfree hr hy H
    refine ⟨List.ne_nil_of_mem hr, fun j hj => ⟨low done inv hr j hj, ?_⟩⟩
    by_cases hji : j = i
    · subst hji; exact hy.qOp hi H
    · obtain ⟨hjun, oj, hoj, hall⟩ := mem_ready.1 hj
      have hnot : ∀ e ∈ oj.after, Region.binds .any e = true → e.on ≠ i := fun e he hb heq => by
        have h1 := hall e he hb
        rw [heq, getD_both (mem_ready.1 hr).1] at h1
        exact Bool.false_ne_true h1
      refine qOp_mono (fun a' h3 => ih (done.setIfInBounds j true) a' (inv.set hj (low done inv hr j hj)) (fun k ok hk hki hun hno => hfree k ok hk hki ?_ hno) (ready_mono hr (Ne.symm hji)) h3.1 ?_)
        (qOp_put hoj (hfree j oj hoj hji hjun hnot) (fun cs b => sel i oi cs b hi) (fun cs b => sel j oj cs b hoj) hy (H.2 j (ready_mono hj hji)).2)
      · by_cases hjk : j = k
        · subst hjk; exact hjun
        · rw [getD_set_ne true hjk] at hun; exact hun
      · rw [Array.setIfInBounds_comm _ _ hji]
        exact h3.2

theorem Heads.lex {g : Nat} {L : Act → Prop} (hsel : Region.noSelect ops = true) (hs : Region.sinkB .any ops n = true) (hc : Region.chainB .any ops n = true) (hn : n < ops.size) :
    ∀ (l : List Oper) (k : Nat) (done : Array Bool) (a : Act), (∀ j, j < l.length → l[j]? = ops[k + j]?) → k + l.length = n → HeadInv .any ops n done →
    Region.lexHead .any ops g l.length k done = true → wpQuiet P ops C L l a → Heads P ops C n (fun done' a' => Region.seqB .any ops g n done' = true ∧ L a') l.length done a := by
  intro l
  induction l with
  | nil =>
    intro k done a _ hk _ hB h
    obtain rfl : k = n := by simpa using hk
    exact ⟨by simpa [Region.lexHead] using hB, h⟩
  | cons o l ih =>
    intro k done a hl hk inv hB h
    have h0 : ops[k]? = some o := by simpa using (hl 0 (by simp)).symm
    simp only [List.length_cons, Region.lexHead, Bool.and_eq_true] at hB
    have hkn : k < n := by simp only [List.length_cons] at hk; omega
    have hr : k ∈ Region.ready .any ops done := by simpa using hB.1.1
    have hq : qOp P ops C k (wpQuiet P ops C L l) a := by unfold qOp; simp only [h0]; exact h
    obtain ⟨v, hy, hK⟩ := yieldsIn_of_qOp h0 hq
    exact Heads.first h0 hsel hs hc hn hkn (fun _ _ hL => seqB_ready hL.1) l.length done a inv (Region.free_spec h0 hB.1.2) hr hy
      (ih (k + 1) _ _ (fun j hj => by have := hl (j + 1) (by simp; omega); simpa [Nat.add_assoc, Nat.add_comm 1 j] using this) (by simp only [List.length_cons] at hk; omega) (inv.set hr hkn) hB.2 hK)
end

/-- A region that draws its order: its first n operations are quiet in the class, the others come behind them all, one by one. -/
theorem wp_region_class_tail {P : Program} {C : World → Prop} {id : Nat} {Q : Exit → Act → World → Prop} {a : Act} {w : World} {l : List Oper} (n : Nat) (hm : P.follows .mixedOrders = true) (hB : Region.lexTailB .any l.toArray n = true) (hC : C w.drew)
    (h : wpQuiet P l.toArray C (fun a' => ∀ w', C w' → wpList P l.toArray Q (l.drop n) a' w') (l.take n) a) : (Code.region id l.toArray true).wp P Q a w := by
  simp only [Region.lexTailB, Bool.and_eq_true, decide_eq_true_eq] at hB
  obtain ⟨⟨⟨⟨hsel, hn⟩, hs⟩, hc⟩, hlex⟩ := hB
  have hnl : n < l.length := by simpa using hn
  have htl : (l.take n).length = n := by simp; omega
  have hdl : (l.drop n).length = l.toArray.size - n := by simp
  have inv0 : HeadInv .any l.toArray n (Array.replicate l.toArray.size false) :=
    ⟨by simp, fun j oj _ hl => absurd hl (by rw [getD_replicate_false]; simp), fun t _ ht => getD_in (by simpa using ht) (getD_replicate_false _ _)⟩
  have H := Heads.lex (g := l.toArray.size - n) hsel hs hc hn (l.take n) 0 _ a (fun j hj => by rw [htl] at hj; simp [hj]) (by simpa using htl) inv0 (by rw [htl]; exact hlex) h
  have R := Heads.any (Q := Q) (g := l.toArray.size - n) (fun done a' hL w' hw' => by
    have := wpAny_of_seq (md := .any) (Q' := Q) (l.drop n) n done a' w' (fun j => by simp [List.getElem?_drop]) (by rw [hdl]; exact hL.1) (hL.2 w' hw')
    rwa [hdl] at this) _ _ _ H w.drew hC
  rw [htl, show n + (l.toArray.size - n) = l.toArray.size by omega] at R
  exact wp_region_any hm R

theorem wp_region_later_tail {P : Program} {id : Nat} {Q : Exit → Act → World → Prop} {a : Act} {w : World} {l : List Oper} (n : Nat) (hm : P.follows .mixedOrders = true) (hB : Region.lexTailB .any l.toArray n = true)
    (h : wpQuiet P l.toArray (fun w' => ∃ p : Later w, w' = p.val) (fun a' => ∀ w', (∃ p : Later w, w' = p.val) → wpList P l.toArray Q (l.drop n) a' w') (l.take n) a) : (Code.region id l.toArray true).wp P Q a w :=
  wp_region_class_tail n hm hB ⟨⟨w.drew, (Below.refl _ _).drew⟩, rfl⟩ h


end Cr
end Go.Proofs.YtnpbgjafahhadaaDoor

namespace Go.Proofs.YtnpbgjafahhadaaDoor
open Go.RowKit
namespace Cr

theorem xor_flip {c : Nat} (hc : c < 4294967296) : bits .xor .u32 4294967295 (c : Int) = ((flip32 c : Nat) : Int) := by
  rw [show (4294967295 : Int) = ((4294967295 : Nat) : Int) from rfl, u32_xor_nat _ _ (by omega) hc, ← flip32_xor (by omega)]
theorem and15 {x : Nat} (hx : x < 4294967296) : bits .and .u32 (x : Int) 15 = ((x % 16 : Nat) : Int) := by
  rw [show (15 : Int) = ((15 : Nat) : Int) from rfl, u32_and_nat _ _ hx (by omega), show 15 = 2 ^ 4 - 1 from rfl, Nat.and_two_pow_sub_one_eq_mod]
theorem xor_u32 {x y : Nat} (hx : x < 4294967296) (hy : y < 4294967296) : bits .xor .u32 (x : Int) (y : Int) = ((x ^^^ y : Nat) : Int) := u32_xor_nat _ _ hx hy
theorem half_step {x : Nat} (hx : x < 4294967296) : bits .xor .u32 ((x : Int) / 16) ((tb (x % 16) : Nat) : Int) = ((stN 4 x : Nat) : Int) := by
  rw [show (x : Int) / 16 = ((x / 16 : Nat) : Int) by omega, u32_xor_nat _ _ (by omega) (tb_lt _), half]
/-- What a byte comes to, step by step, as the program reckons. -/
theorem byte_facts {R b : Nat} (hR : R < 4294967296) (hb : b < 256) : ∃ X q Y r Z : Nat, q < 16 ∧ r < 16 ∧ bits .xor .u32 (R : Int) ((b : Int) % 4294967296) = (X : Int) ∧ bits .and .u32 (X : Int) 15 = (q : Int) ∧
    bits .xor .u32 ((X : Int) / 16) ((tb q : Nat) : Int) = (Y : Int) ∧ bits .and .u32 (Y : Int) 15 = (r : Int) ∧ bits .xor .u32 ((Y : Int) / 16) ((tb r : Nat) : Int) = (Z : Int) ∧ Hid (Z = byt R b) := by
  have hX : R ^^^ b < 4294967296 := Nat.xor_lt_two_pow (n := 32) hR (by omega)
  have hY : stN 4 (R ^^^ b) < 4294967296 := stN_lt 4 hX
  exact ⟨R ^^^ b, (R ^^^ b) % 16, stN 4 (R ^^^ b), stN 4 (R ^^^ b) % 16, stN 4 (stN 4 (R ^^^ b)), Nat.mod_lt _ (by omega), Nat.mod_lt _ (by omega),
    by rw [show (b : Int) % 4294967296 = (b : Int) by omega]; exact xor_u32 hR (by omega), and15 hX, half_step hX, and15 hY, half_step hY, (byt_half R b).symm⟩
theorem jn_take_succ {xs : List ByteArray} {k : Nat} {s : ByteArray} (h : xs[k]? = some s) : jn (xs.take (k + 1)) = jn (xs.take k) ++ bs s := by
  rw [snoc_take _ _ _ h, jn_append]; simp [jn]
theorem bs_take_succ {s : ByteArray} {j : Nat} (h : j < s.size) : (bs s).take (j + 1) = (bs s).take j ++ [(s[j]'h).toNat] := snoc_take _ _ _ (bs_get s j h)
theorem bs_take_all (s : ByteArray) {j : Nat} (h : ¬ j < s.size) : (bs s).take j = bs s := List.take_of_length_le (by rw [bs_length]; omega)
theorem reg_take_lt {c : Nat} (xs : List ByteArray) (k : Nat) (s : ByteArray) (j : Nat) : reg (flip32 c) (jn (xs.take k) ++ (bs s).take j) < 4294967296 :=
  reg_lt _ (flip32_lt c) fun b hb => by
    rw [List.mem_append] at hb
    rcases hb with hb | hb
    · exact jn_lt _ b hb
    · exact bs_lt s b (List.mem_of_mem_take hb)
set_option maxHeartbeats 1000000 in
theorem more_any (c : Nat) (hc : c < 4294967296) (a : Option Addr) (n cap : Nat) (xs : List ByteArray) (w : World) (T : Tab w) (h : Ss w a n xs) :
    Calls Tryd.prog 47 #[.int .u32 (c : Nat), .slice a n cap] w fun e w' => e = .returned (.int .u32 (more c (jn xs) : Nat)) ∧ w' = w := by
  have hn := h.most
  have hx := xor_flip hc
  have hsg : IntKind.u32.signed = false := rfl
  have hmx : IntKind.u32.max = 4294967295 := rfl
  go_enter Tryd.func47, Tryd.ntmps47
  go_wp2
  go_loop [5, 13] (fun r i => ∃ k : Nat, k ≤ n ∧ i = .int .i64 k ∧ r = .int .u32 (reg (flip32 c) (jn (xs.take k)) : Nat)) (fun _ i => n - (intOf i).toNat)
  case atStart => exact ⟨0, Nat.zero_le _, rfl, rfl⟩
  case round =>
    obtain ⟨k, hk, rfl, rfl⟩ := hrel
    have hlen := h.len
    by_cases hlt : k < n
    · obtain ⟨s, hs⟩ : ∃ s, xs[k]? = some s := ⟨_, List.getElem?_eq_getElem (by omega)⟩
      obtain ⟨b, off, rfl, hbl, c0⟩ := h.cells k s hs
      have hsz := h.fit s (List.mem_of_getElem? hs)
      have Hs := hide hs
      clear hs hlen hx
      go_wp2
      go_loop [5, 8] (fun r i => ∃ j : Nat, j ≤ s.size ∧ i = .int .i64 j ∧ r = .int .u32 (reg (flip32 c) (jn (xs.take k) ++ (bs s).take j) : Nat)) (fun _ i => s.size - (intOf i).toNat)
      case atStart => exact ⟨0, Nat.zero_le _, rfl, by simp⟩
      case round =>
        obtain ⟨j, hj, rfl, rfl⟩ := hrel
        by_cases hjl : j < s.size
        · have HRl := reg_take_lt (c := c) xs k s j
          obtain ⟨X, q, Y, r, Z, hq, hr, e1, e2, e3, e4, e5, HZ⟩ := byte_facts HRl (bs_lt s (s[j]'hjl).toNat (List.mem_of_getElem? (bs_get s j hjl)))
          have C1 := T.cell q hq
          have C2 := T.cell r hr
          have HE : Hid (Z = reg (flip32 c) (jn (xs.take k) ++ (bs s).take (j + 1))) := by
            show Z = _
            rw [HZ.out, bs_take_succ hjl, ← List.append_assoc, reg_snoc]
          generalize reg (flip32 c) (jn (xs.take k) ++ (bs s).take j) = R at *
          clear HZ HRl
          go_wp2
          go_round
          case rel => exact ⟨j + 1, by omega, by go_num, by rw [HE.out]⟩
          case measure => simp [intOf]; omega
        · have HE : Hid (reg (flip32 c) (jn (xs.take k) ++ (bs s).take j) = reg (flip32 c) (jn (xs.take (k + 1)))) := by
            show _ = _
            rw [bs_take_all s hjl, jn_take_succ Hs.out]
          go_wp2
          go_round
          case rel => exact ⟨k + 1, by omega, by go_num, by rw [HE.out]⟩
          case measure => simp [intOf]; omega
    · have HE : Hid (flip32 (reg (flip32 c) (jn (xs.take k))) = more c (jn xs)) := by
        show _ = _
        rw [List.take_of_length_le (by omega)]; rfl
      have HRl := reg_lt (jn (xs.take k)) (flip32_lt c) (jn_lt _)
      have hy := xor_flip HRl
      clear hlen hx
      go_wp2
      go_ret
      exact ⟨ret_int (by rw [HE.out]), rfl⟩

end Cr
end Go.Proofs.YtnpbgjafahhadaaDoor

namespace Go.Proofs.YtnpbgjafahhadaaDoor
open Go.RowKit
namespace Cr

theorem sub_flip {c : Nat} (hc : c < 4294967296) : 4294967295 - (c : Int) = ((flip32 c : Nat) : Int) := by unfold flip32; omega
theorem st_odd {Y : Nat} (h : ((Y : Int) % 2 == 1) = true) : st Y = Y / 2 ^^^ 2197175160 := by
  rw [beq_iff_eq] at h
  unfold st poly
  rw [if_pos (by omega)]
theorem st_evn {Y : Nat} (h : ((Y : Int) % 2 == 1) = false) : st Y = Y / 2 := by
  rw [beq_eq_false_iff_ne] at h
  unfold st
  rw [if_neg (by omega)]
set_option maxHeartbeats 1000000 in
theorem rmore_any (c : Nat) (hc : c < 4294967296) (s : ByteArray) (hsz : s.size ≤ 9223372036854775807) (w : World) :
    Calls Tryd.prog 33 #[.int .u32 (c : Nat), .string s] w fun e w' => e = .returned (.int .u32 (more c (bs s) : Nat)) ∧ w' = w := by
  have hx := sub_flip hc
  go_enter Tryd.func33, Tryd.ntmps33
  go_wp2
  go_loop [5, 6] (fun r i => ∃ j : Nat, j ≤ s.size ∧ i = .int .i64 j ∧ r = .int .u32 (reg (flip32 c) ((bs s).take j) : Nat)) (fun _ i => s.size - (intOf i).toNat)
  case atStart => exact ⟨0, Nat.zero_le _, rfl, rfl⟩
  case round =>
    obtain ⟨j, hj, rfl, rfl⟩ := hrel
    have HRl := reg_lt ((bs s).take j) (flip32_lt c) (fun b hb => bs_lt s b (List.mem_of_mem_take hb))
    by_cases hjl : j < s.size
    · have hbl := bs_lt s (s[j]'hjl).toNat (List.mem_of_getElem? (bs_get s j hjl))
      obtain ⟨X, HX, e1⟩ : ∃ X : Nat, Hid (X = reg (flip32 c) ((bs s).take j) ^^^ (s[j]'hjl).toNat) ∧ bits .xor .u32 (reg (flip32 c) ((bs s).take j) : Int) ((s[j]'hjl).toNat : Int) = (X : Int) :=
        ⟨_, rfl, xor_u32 HRl (by omega)⟩
      have HXl : X < 4294967296 := by rw [HX.out]; exact Nat.xor_lt_two_pow (n := 32) HRl (by omega)
      have HE : Hid (stN 8 X = reg (flip32 c) ((bs s).take (j + 1))) := by
        show _ = _
        rw [HX.out, bs_take_succ hjl, reg_snoc, byt_eq]
      generalize reg (flip32 c) ((bs s).take j) = R at *
      clear HX
      go_wp2
      go_loop [5, 7] (fun r i => ∃ m : Nat, m ≤ 8 ∧ i = .int .i64 m ∧ r = .int .u32 (stN m X : Nat)) (fun _ i => 8 - (intOf i).toNat)
      case atStart => exact ⟨0, Nat.zero_le _, rfl, rfl⟩
      case round =>
        obtain ⟨m, hm, rfl, rfl⟩ := hrel
        have hYl := stN_lt m HXl
        by_cases hml : m < 8
        · have HS := hide (stN_succ' m X)
          generalize stN m X = Y at *
          have e2 : bits .xor .u32 ((Y : Int) / 2) 2197175160 = ((Y / 2 ^^^ 2197175160 : Nat) : Int) := xor_u32 (x := Y / 2) (y := 2197175160) (by omega) (by omega)
          clear e1
          generalize hV : Y / 2 ^^^ 2197175160 = V at e2
          have HV := hide hV
          clear hV
          go_wp2
          · go_round
            case rel => exact ⟨m + 1, by omega, by go_num, by rw [HS.out, st_odd (by assumption), HV.out]⟩
            case measure => simp [intOf]; omega
          · go_round
            case rel => exact ⟨m + 1, by omega, by go_num, by rw [HS.out, st_evn (by assumption)]; go_num⟩
            case measure => simp [intOf]; omega
        · obtain rfl : m = 8 := by omega
          generalize stN 8 X = Y at *
          go_wp2
          go_round
          case rel => exact ⟨j + 1, by omega, by go_num, by rw [HE.out]⟩
          case measure => simp [intOf]; omega
    · have HE : Hid (flip32 (reg (flip32 c) ((bs s).take j)) = more c (bs s)) := by
        show _ = _
        rw [bs_take_all s hjl]; rfl
      have hy := sub_flip HRl
      generalize reg (flip32 c) ((bs s).take j) = R at *
      clear hx
      go_wp2
      go_ret
      exact ⟨ret_int (by rw [HE.out]), rfl⟩

end Cr
end Go.Proofs.YtnpbgjafahhadaaDoor

namespace Go.Proofs.YtnpbgjafahhadaaDoor
open Go.RowKit
namespace Cr

set_option maxHeartbeats 1000000 in
theorem sum_any (a : Option Addr) (n cap : Nat) (xs : List ByteArray) (w : World) (T : Tab w) (h : Ss w a n xs) :
    Calls Tryd.prog 27 #[.slice a n cap] w fun e w' => e = .returned (.int .u32 (more 0 (jn xs) : Nat)) ∧ w' = w := by
  have hm := more_any 0 (by omega) a n cap xs w T h
  go_enter Tryd.func27, Tryd.ntmps27
  go_wp2_with fail
  refine hm.mono ?_
  rintro e w' ⟨rfl, rfl⟩
  go_wp2
  go_ret
  exact ⟨rfl, rfl⟩
end Cr
end Go.Proofs.YtnpbgjafahhadaaDoor

namespace Go.Proofs.YtnpbgjafahhadaaDoor
open Go.RowKit
namespace Cr

theorem key_mul {k b : Nat} (hk : k < 18446744073709551616) (hb : b < 256) : ∃ X Y : Nat, bits .xor .u64 (k : Int) (b : Int) = (X : Int) ∧ IntKind.u64.wrap ((X : Int) * 1099511628211) = (Y : Int) ∧ Hid (Y = key1 k b) := by
  refine ⟨k ^^^ b, key1 k b, u64_xor_nat _ _ hk (by omega), ?_, rfl⟩
  rw [IntKind.wrap_u64]
  unfold key1
  omega
theorem low_byte (x j : Nat) : (x : Int) / 2 ^ (8 * j) % 256 = ((x / 256 ^ j % 256 : Nat) : Int) := by
  rw [show (256 : Nat) ^ j = 2 ^ (8 * j) by rw [Nat.pow_mul]]
  rw [Int.natCast_emod, Int.natCast_ediv, Int.natCast_pow]
  rfl
theorem keyL_take_succ {xs : List ByteArray} {k : Nat} {s : ByteArray} (hs : xs[k]? = some s) (K : Nat) : keyP (keyL K (xs.take k)) s = keyL K (xs.take (k + 1)) := by
  rw [snoc_take _ _ _ hs, keyL_append]; rfl
end Cr
end Go.Proofs.YtnpbgjafahhadaaDoor

namespace Go.Proofs.YtnpbgjafahhadaaDoor
open Go.RowKit
namespace Cr

theorem pow256 (x j : Nat) : x / 256 ^ j / 256 = x / 256 ^ (j + 1) := by rw [Nat.div_div_eq_div_mul, ← Nat.pow_succ]
end Cr
end Go.Proofs.YtnpbgjafahhadaaDoor

namespace Go.Proofs.YtnpbgjafahhadaaDoor
open Go.RowKit
namespace Cr
/-- The slice's own block is not among the first B. -/
def From (B : Nat) (v : Value) : Prop := ∀ k, v.ownBlock = some k → B ≤ k
/-- v' lies where v lay, or in memory that is new. -/
def Moved (w : World) (v v' : Value) : Prop := v'.ownBlock = v.ownBlock ∨ From w.heap.size v'
theorem From.moved {B : Nat} {w : World} {v v' : Value} (h : From B v) (hm : Moved w v v') (hB : B ≤ w.heap.size) : From B v' := fun k hk => by
  rcases hm with hm | hm
  · exact h k (hm ▸ hk)
  · exact Nat.le_trans hB (hm k hk)
theorem apart_moved {w : World} {v v' : Value} {g : Nat} (h : v.ownBlock ≠ some g) (hm : Moved w v v') (hg : g < w.heap.size) : v'.ownBlock ≠ some g := by
  rcases hm with hm | hm
  · rw [hm]; exact h
  · intro e; have := hm g e; omega
theorem Moved.refl (w : World) (v : Value) : Moved w v v := .inl rfl
theorem Moved.trans {w w1 : World} {v v1 v2 : Value} (h : Moved w v v1) (h1 : Moved w1 v1 v2) (hs : w.heap.size ≤ w1.heap.size) : Moved w v v2 := by
  rcases h1 with h1 | h1
  · rcases h with h | h
    · exact .inl (h1.trans h)
    · exact .inr fun k hk => h k (h1 ▸ hk)
  · exact .inr fun k hk => Nat.le_trans hs (h1 k hk)
theorem From.nil (B : Nat) (n c : Nat) : From B (.slice none n c) := fun k hk => by simp [Value.ownBlock] at hk
/-- A growth of one row of the call's own keeps all that lay below. -/
theorem below_grown {B : Nat} {a w w' : World} {v : Value} (h : Below B a w) (hg : w.grownBy w' v.ownBlock) (hB : B ≤ w.heap.size) (hv : From B v) : Below B a w' := h.grown hg hB hv

theorem run_append_moved {P : Program} {w : World} (t ty e : TypeId) (i : TypeInfo) (z : Value) (size bytes : Nat) (ht : P.underlying t = some (.slice e)) (hi : P.info? e = some i) (hz : i.zero = some z)
    (hsize : i.size = size) (hby : i.bytes = bytes) (hzs : z.cells.size = size) (hsz : 0 < size)
    (v : Value) (n : Nat) (xs : List Value) (hown : w.ownsRow 0 e size v n xs)
    (a : Addr) (m c : Nat) (news : List Value) (hl : news.length = m * size) (hnews : ∀ j u, news[j]? = some u → w.cell? (a.add j) = some u) (h1 : ∀ u ∈ news, u.oneCell' = true)
    (h63 : n + m ≤ maxLen) (hbytes : (n + m) * bytes ≤ 140737488355328) :
    ∃ v' w', (Builtin.append_ #[t, t] ty #[v, .slice (some a) m c]).run P w = .ok v' w' ∧ w'.ownsRow 0 e size v' (n + m) (xs ++ news) ∧ w.grownBy w' v.ownBlock ∧ Moved w v v' := by
  obtain ⟨v', w', hr, ho, hg, hn⟩ := run_append_own (P := P) w 0 t ty e i z size bytes ht hi hz hsize hby hzs hsz v n xs hown a m c news hl hnews h1 h63 hbytes (Nat.zero_le _)
  refine ⟨v', w', hr, ho, hg, ?_⟩
  subst hsize
  rcases hown.2 with ⟨hv, hn0⟩ | ⟨g, cap, cur, hv, hbg, hgg, hnc, hcm, hcs, htake⟩
  · obtain ⟨v2, w2, hr2, ho2, _⟩ := run_append_own (P := P) w w.heap.size t ty e i z i.size bytes ht hi hz rfl hby hzs hsz v n xs ⟨hown.1, .inl ⟨hv, hn0⟩⟩ a m c news hl hnews h1 h63 hbytes (Nat.le_refl _)
    rw [hr] at hr2
    cases hr2
    exact .inr fun k hk => (ho2.lt k hk).1
  · by_cases hroom : n + m ≤ cap
    · have hfit : n * i.size + news.length ≤ cur.size := by rw [hl, hcs, ← Nat.add_mul]; exact Nat.mul_le_mul_right _ hroom
      have hr2 := run_append_room (P := P) w t ty e i ht hi g n cap cur hgg a m c news hl hnews h1 hroom hfit
      rw [hv] at hr ⊢
      rw [hr2] at hr
      cases hr
      exact .inl rfl
    · subst hv
      have holds : ∀ j u, xs[j]? = some u → w.cell? ((⟨g, 0, none⟩ : Addr).add j) = some u := hown.cells (g := g) rfl
      subst hby
      have hr2 := run_append_grow (P := P) w t ty e i z ht hi hz ⟨g, 0, none⟩ n cap xs hown.1 holds a m c news hl hnews (by omega) (by simp only [maxLen] at h63; omega) (growslice_fits (by omega) hbytes)
      rw [hr2] at hr
      cases hr
      exact .inr fun k hk => by simp [Value.ownBlock] at hk; omega

theorem wpList_append_moved {P : Program} {w : World} {ops : Array Oper} {rest : List Oper} {o : Oper} {a : Act} {Q : Exit → Act → World → Prop} (hgd : o.guard = none) (s x : Operand) (t : TypeId)
    (ho : o.op = .call { callee := .builtin .append, args := #[s, x], argTypes := #[t, t] })
    (e : TypeId) (i : TypeInfo) (z : Value) (size bytes : Nat) (ht : P.underlying t = some (.slice e)) (hi : P.info? e = some i) (hz : i.zero = some z)
    (hsize : i.size = size) (hby : i.bytes = bytes) (hzs : z.cells.size = size) (hsz : 0 < size)
    (v : Value) (n : Nat) (xs : List Value) (hs : a.eval s = v) (hown : w.ownsRow 0 e size v n xs)
    (ad : Addr) (m c : Nat) (news : List Value) (hx : a.eval x = .slice (some ad) m c) (hl : news.length = m * size) (hnews : ∀ j u, news[j]? = some u → w.cell? (ad.add j) = some u) (h1 : ∀ u ∈ news, u.oneCell' = true)
    (h63 : n + m ≤ maxLen) (hbytes : (n + m) * bytes ≤ 140737488355328)
    (h : ∀ v' w', w'.ownsRow 0 e size v' (n + m) (xs ++ news) → w.grownBy w' v.ownBlock → Moved w v v' → wpList P ops Q rest (a.put o.dst v') w') : wpList P ops Q (o :: rest) a w := by
  refine wpList_plain hgd fun _ hK => ?_
  obtain ⟨v', w', hr, h2, h3, h4⟩ := run_append_moved (P := P) (w := w) t o.type e i z size bytes ht hi hz hsize hby hzs hsz v n xs hown ad m c news hl hnews h1 h63 hbytes
  unfold Oper.wp execOp
  simp only [ho, resolve, invoke, builtin, Sem.run_bind, Sem.run_pure, Result.andThen_ok, List.map_toArray, List.map_cons, List.map_nil, hs, hx, hr]
  exact hK _ _ (h v' w' h2 h3 h4)


/-- Bytes as cells. -/
def encB (l : List Nat) : List Value := l.map fun b => .int .u8 (b : Nat)
theorem encB_length (l : List Nat) : (encB l).length = l.length := by simp [encB]
theorem encB_append (l m : List Nat) : encB (l ++ m) = encB l ++ encB m := by simp [encB]
theorem encB_oneCell (l : List Nat) : ∀ u ∈ encB l, u.oneCell' = true := by
  intro u h
  simp only [encB, List.mem_map] at h
  obtain ⟨b, _, rfl⟩ := h
  rfl
theorem encB_get {l : List Nat} {i x : Nat} (h : l[i]? = some x) : (encB l)[i]? = some (.int .u8 (x : Nat)) := by simp [encB, h]
/-- The value v owns the bytes l. -/
def OwnB (w : World) (v : Value) (l : List Nat) : Prop := w.ownsRow 0 5 1 v l.length (encB l)
theorem OwnB.nil (w : World) : OwnB w (.slice none 0 0) [] := World.ownsRow_nil w 0 5 1
theorem OwnB.kept {w w' : World} {v : Value} {xs : List Nat} {row : Option Nat} (h : OwnB w v xs) (hg : w.grownBy w' row) (hne : v.ownBlock = none ∨ v.ownBlock ≠ row) : OwnB w' v xs := World.ownsRow.kept h hg hne
theorem OwnB.later {w w' : World} {v : Value} {xs : List Nat} (h : OwnB w v xs) (hb : Below w.heap.size w w') : OwnB w' v xs :=
  h.kept (row := none) ⟨hb.os, hb.tape, hb.output, hb.size, fun k hk _ => hb.block k hk⟩ (by rcases hv : v.ownBlock with _ | k <;> simp)

set_option maxRecDepth 100000 in
theorem conv_bytes (w : World) (b off len cap : Nat) (l : List Nat) (hl : l.length = len) (hcell : ∀ i x, l[i]? = some x → w.cell? ⟨b, off + i, none⟩ = some (.int .u8 (x : Nat))) :
    (convert 52 9 (.slice (some ⟨b, off, none⟩) len cap)).run Tryd.prog w = .ok (.string (str l)) w := by
  have h := run_convert_bytes_arg (P := Tryd.prog) w 52 5 Tryd.underlying52 Tryd.underlying5 b off len cap (l.map fun x => ((x : Nat) : Int)) (by simpa using hl) (fun i hi => by
    have hx : l[i]? = some l[i] := List.getElem?_eq_getElem (by omega)
    rw [hcell i _ hx]
    simp [List.getD, hx]) 9 Tryd.underlying9
  rw [h]
  congr 2
  apply ByteArray.ext
  simp [strOfNums, str, Function.comp_def]
theorem conv_nil (w : World) (n c : Nat) : (convert 52 9 (.slice none n c)).run Tryd.prog w = .ok (.string (str [])) w :=
  run_convert_bytes_nil (P := Tryd.prog) w 52 5 Tryd.underlying52 Tryd.underlying5 n c 9 Tryd.underlying9
theorem OwnB.conv {w : World} {v : Value} {l : List Nat} (h : OwnB w v l) : (convert 52 9 v).run Tryd.prog w = .ok (.string (str l)) w := by
  rcases id h with ⟨hl, ⟨hv, hn⟩ | ⟨g, cap, cur, hv, hbg, hgg, hnc, hcm, hcs, htake⟩⟩
  · have : l = [] := List.eq_nil_of_length_eq_zero hn
    subst this; subst hv
    exact conv_nil w 0 0
  · subst hv
    refine conv_bytes w g 0 _ _ l rfl fun i x hx => ?_
    have hi : i < l.length := (List.getElem?_eq_some_iff.1 hx).1
    have := World.ownsRow.cellAt (w := w) (base := 0) (e := 5) (size := 1) (g := g) (n := l.length) (cap := cap) (xs := encB l) h i (by omega)
    rw [Nat.zero_add, this, encB_get hx]
theorem info5 : (Tryd.prog.info? 5).map (fun i => (i.zero, i.size, i.bytes)) = some (some (.int .u8 0), 1, 1) := by kernel_rfl
theorem info_parts {t : TypeId} {z : Option Value} {s b : Nat} (h : (Tryd.prog.info? t).map (fun i => (i.zero, i.size, i.bytes)) = some (z, s, b)) : ∃ i, Tryd.prog.info? t = some i ∧ i.zero = z ∧ i.size = s ∧ i.bytes = b := by
  cases hi : Tryd.prog.info? t with
  | none => simp [hi] at h
  | some i => simp [hi] at h; exact ⟨i, rfl, h.1, h.2.1, h.2.2⟩
theorem cells_one {w : World} {a : Addr} {u : Value} (h : w.cell? (a.add 0) = some u) : ∀ j x, ([u] : List Value)[j]? = some x → w.cell? (a.add j) = some x := by
  intro j x hx
  cases j with
  | zero => simp at hx; subst hx; exact h
  | succ j => simp at hx

theorem one_oneCell (k : IntKind) (n : Int) : ∀ u ∈ [Value.int k n], u.oneCell' = true := by
  intro u hu
  rw [List.mem_singleton.1 hu]
  rfl
theorem div256 (c k : Nat) : c / 256 ^ k / 256 = c / 256 ^ (k + 1) := by rw [Nat.div_div_eq_div_mul, ← Nat.pow_succ]
theorem low_four (c : Nat) : low c 4 = four c := by
  simp [low, four, List.range_succ]
set_option maxRecDepth 100000 in
set_option maxHeartbeats 1000000 in
theorem rfour_any (c : Nat) (hc : c < 4294967296) (w : World) :
    Calls Tryd.prog 34 #[.int .u32 (c : Nat)] w fun e w' => e = .returned (.string (str (four c))) ∧ Below w.heap.size w w' := by
  obtain ⟨i0, hi, hz0, hz1, hz2⟩ := info_parts info5
  have HLF := hide (low_four c)
  go_enter Tryd.func34, Tryd.ntmps34
  go_wp2
  go_loopw [0, 3, 4] (fun x v i wr => ∃ k : Nat, k ≤ 4 ∧ i = .int .i64 k ∧ x = .int .u32 (c / 256 ^ k : Nat) ∧ OwnB wr v (low c k) ∧ From w.heap.size v ∧ Below w.heap.size w wr) (fun _ _ i _ => 4 - (intOf i).toNat)
  case atStart => exact ⟨0, Nat.zero_le _, rfl, by simp, OwnB.nil _, From.nil _ _ _, Below.refl _ _⟩
  case round =>
    obtain ⟨k, hk, rfl, rfl, hown, hfrom, hbr⟩ := hrel
    by_cases hlt : k < 4
    · have HD := hide (div256 c k)
      have HS := hide (low_succ c k)
      have hll : (low c k).length = k := by simp [low]
      have hxl : c / 256 ^ k < 4294967296 := Nat.lt_of_le_of_lt (Nat.div_le_self _ _) hc
      generalize c / 256 ^ k = X at *
      have hkk : ∀ o, (wr.alloc o).ownsRow 0 5 1 u3 (low c k).length (encB (low c k)) := fun o => hown.later (below_alloc _ _)
      go_wp2_with (at_builtin; refine wpList_append_moved rfl (.tmp 9) (.tmp 13) 52 rfl 5 i0 _ 1 1 Tryd.underlying52 hi hz0 hz1 hz2 rfl (by decide) _ _ _ rfl (hkk _) ⟨wr.heap.size, 0, none⟩ 1 1 [.int .u8 ((X : Int) % 256)] rfl rfl (cell_one_new _ _ _) (one_oneCell _ _) (by unfold maxLen; omega) (by omega) ?_; intro v' w' h1 h2 h3)
      have R2 := hide (below_grown (hbr.trans ((below_alloc _ _).mono hbr.size)) h2 (by have := hbr.size; simp; omega) hfrom)
      have R3 := hide (hfrom.moved h3 (by have := hbr.size; simp; omega))
      have R4 : Hid (OwnB w' v' (low c (k + 1))) := by
        show OwnB w' v' _
        unfold OwnB
        rw [HS.out, encB_append, List.length_append]
        simpa [encB] using h1
      clear h1 h2 h3 hkk hll
      go_wp2
      go_roundw
      case rel => exact ⟨k + 1, by omega, by go_num, by rw [← HD.out]; go_num, R4.out, R3.out, R2.out⟩
      case measure => simp [intOf]; omega
    · obtain rfl : k = 4 := by omega
      have hcv := hown.conv
      rw [HLF.out] at hcv
      go_wp2
      go_ret
      exact ⟨rfl, hbr⟩

end Cr
end Go.Proofs.YtnpbgjafahhadaaDoor

namespace Go.Proofs.YtnpbgjafahhadaaDoor
open Go.RowKit
namespace Cr

theorem four_cells (M : Nat) (hM : M < 4294967296) (w : World) : ∀ i x, (four M)[i]? = some x →
    (w.alloc (.cells #[.int .u8 ((M : Int) % 256), .int .u8 ((M : Int) / 256 % 256), .int .u8 ((M : Int) / 65536 % 256), .int .u8 ((M : Int) / 16777216)] 5)).cell? ⟨w.heap.size, 0 + i, none⟩ = some (.int .u8 (x : Nat)) := by
  intro i x h
  match i, h with
  | 0, h => simp [four] at h; subst h; simp
  | 1, h => simp [four] at h; subst h; simp
  | 2, h => simp [four] at h; subst h; simp
  | 3, h => simp [four] at h; subst h; simp; omega
  | i + 4, h => simp [four] at h
set_option maxHeartbeats 1000000 in
theorem seal_any (s : ByteArray) (hsz : s.size ≤ 1000) (w : World) (T : Tab w) :
    Calls Tryd.prog 46 #[.string s] w fun e w' => e = .returned (.string (s ++ str (four (more 0 (bs s))))) ∧ Below w.heap.size w w' := by
  have hm := more_lt 0 (bs s)
  have hs := sum_any (some ⟨w.heap.size, 0, none⟩) 1 1 [s] (w.alloc (.cells #[.string s] 9)) (T.later (below_alloc _ _)) (Ss.one w s (by omega) 9)
  rw [show jn [s] = bs s by simp [jn]] at hs
  generalize more 0 (bs s) = M at *
  have hl : (str (four M)).size = 4 := by rw [str_size]; rfl
  have hcv := conv_bytes ((w.alloc (.cells #[.string s] 9)).alloc (.cells #[.int .u8 ((M : Int) % 256), .int .u8 ((M : Int) / 256 % 256), .int .u8 ((M : Int) / 65536 % 256), .int .u8 ((M : Int) / 16777216)] 5)) (w.heap.size + 1) 0 4 4 (four M) rfl (by
    have := four_cells M hm (w.alloc (.cells #[.string s] 9))
    rwa [World.size_alloc] at this)
  generalize str (four M) = F at *
  go_enter Tryd.func46, Tryd.ntmps46
  go_wp2_with fail
  refine hs.mono ?_
  rintro e w' ⟨rfl, hw⟩
  subst hw
  go_wp2
  go_ret
  exact ⟨rfl, (below_alloc _ _).trans ((below_alloc _ _).mono (by simp))⟩
/-- What Open answers: the bytes, and what is wrong. -/
def opened (s : ByteArray) : ByteArray × Int :=
  if s.size < 4 then (ByteArray.empty, 10) else if s.extract 0 (s.size - 4) ++ str (four (more 0 (bs (s.extract 0 (s.size - 4))))) = s then (s.extract 0 (s.size - 4), 0) else (ByteArray.empty, 13)
theorem beq_lists {a b : ByteArray} (h : a = b) : (a.toList == b.toList) = true := by rw [h]; simp
theorem bne_lists {a b : ByteArray} (h : ¬ a = b) : (a.toList == b.toList) = false := by
  rw [beq_eq_false_iff_ne]
  intro e
  rw [ByteArray.toList_eq, ByteArray.toList_eq] at e
  exact h (ByteArray.ext (Array.toList_inj.1 e))
theorem opened_short {s : ByteArray} (h4 : s.size < 4) : opened s = (ByteArray.empty, 10) := by unfold opened; rw [if_pos h4]
theorem opened_ok {s : ByteArray} (h4 : ¬ s.size < 4) (h : s.extract 0 (s.size - 4) ++ str (four (more 0 (bs (s.extract 0 (s.size - 4))))) = s) : opened s = (s.extract 0 (s.size - 4), 0) := by unfold opened; rw [if_neg h4, if_pos h]
theorem opened_no {s : ByteArray} (h4 : ¬ s.size < 4) (h : ¬ s.extract 0 (s.size - 4) ++ str (four (more 0 (bs (s.extract 0 (s.size - 4))))) = s) : opened s = (ByteArray.empty, 13) := by unfold opened; rw [if_neg h4, if_neg h]
set_option maxHeartbeats 1000000 in
theorem open_any (s : ByteArray) (hsz : s.size ≤ 1000) (w : World) (T : Tab w) :
    Calls Tryd.prog 84 #[.string s] w fun e w' => e = .returned (.tuple #[.string (opened s).1, .int .i64 (opened s).2]) ∧ Below w.heap.size w w' := by
  by_cases h4 : s.size < 4
  · have HO := hide (opened_short h4)
    go_enter Tryd.func84, Tryd.ntmps84
    go_wp2
    go_ret2
    exact ⟨by rw [HO.out]; rfl, Below.refl _ _⟩
  · have hs := seal_any (s.extract 0 (s.size - 4)) (by simp; omega) w T
    by_cases he : s.extract 0 (s.size - 4) ++ str (four (more 0 (bs (s.extract 0 (s.size - 4))))) = s
    · have hb := beq_lists he
      have HO := hide (opened_ok h4 he)
      clear he
      generalize s.extract 0 (s.size - 4) ++ str (four (more 0 (bs (s.extract 0 (s.size - 4))))) = F at *
      go_enter Tryd.func84, Tryd.ntmps84
      go_wp2_with fail
      refine hs.mono ?_
      rintro e w' ⟨rfl, hbe⟩
      go_wp2
      go_ret2
      exact ⟨by rw [HO.out]; rfl, hbe⟩
    · have hb := bne_lists he
      have HO := hide (opened_no h4 he)
      clear he
      generalize s.extract 0 (s.size - 4) ++ str (four (more 0 (bs (s.extract 0 (s.size - 4))))) = F at *
      go_enter Tryd.func84, Tryd.ntmps84
      go_wp2_with fail
      refine hs.mono ?_
      rintro e w' ⟨rfl, hbe⟩
      go_wp2
      go_ret2
      exact ⟨by rw [HO.out]; rfl, hbe⟩
theorem cut_data (s : ByteArray) (n : Nat) (hn : n ≤ s.size) : bs s = bs (s.extract 0 n) ++ bs (s.extract n s.size) := by
  simp only [bs, ByteArray.data_extract, ← List.map_append]
  congr 1
  rw [Array.toList_extract, Array.toList_extract]
  have hl : s.data.toList.length = s.size := by rw [Array.length_toList]; rfl
  have e1 : s.data.toList.extract 0 n = s.data.toList.take n := by rw [List.extract_eq_take_drop, List.drop_zero, Nat.sub_zero]
  have e2 : s.data.toList.extract n s.size = s.data.toList.drop n := by
    rw [List.extract_eq_take_drop]
    exact List.take_of_length_le (by rw [List.length_drop]; omega)
  rw [e1, e2, List.take_append_drop]
theorem cut_eq {s : ByteArray} {n : Nat} {F : ByteArray} (hn : n ≤ s.size) : s.extract 0 n ++ F = s ↔ F = s.extract n s.size := by
  have h := cut_data s n hn
  constructor
  · intro e
    have e2 := congrArg bs e
    rw [bs_append, h] at e2
    exact bs_inj (List.append_cancel_left e2)
  · intro e
    apply bs_inj
    rw [bs_append, e, ← h]
theorem rmore0 (s : ByteArray) (hsz : s.size ≤ 9223372036854775807) (w : World) :
    Calls Tryd.prog 33 #[.int .u32 0, .string s] w fun e w' => e = .returned (.int .u32 (more 0 (bs s) : Nat)) ∧ Below w.heap.size w w' :=
  (rmore_any 0 (by omega) s hsz w).mono fun _ _ ⟨h1, h2⟩ => ⟨h1, by rw [h2]; exact Below.refl _ _⟩
end Cr
end Go.Proofs.YtnpbgjafahhadaaDoor
