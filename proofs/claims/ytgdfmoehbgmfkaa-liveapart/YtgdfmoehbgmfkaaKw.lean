/- Memory: what turns and what stays, rows from a place of a block on, things and their blocks (one module out of five). -/
import Derived.Laws.Strings
import Derived.Laws.BitsAllLaws
import Derived.Test.YtgdfmoehbgmfkaaProg
import Derived.WalkKit
import Derived.WalkSpells
import Derived.WalkLawsBesides
import Derived.Deep.QuietTactic
import Derived.BigQuiet
import Derived.StillTail
import Derived.Laws.AppendOwn
import Derived.Laws.BytesArg
import Derived.Laws.MakeOwn
import Derived.OneCell
import Derived.Deep.RegionLawGrows
import Derived.Maps.AppendAt
import Derived.Deep.MidRow
import Derived.Laws.CopyOwn
import Derived.ArgAppend
namespace Go.Proofs.Ytgdfmoehbgmfkaa
namespace Wi

/-- The bytes of a string, as numbers. -/
def bs (s : ByteArray) : List Nat := s.data.toList.map UInt8.toNat
theorem bs_lt (s : ByteArray) : ∀ b ∈ bs s, b < 256 := by
  intro b hb
  simp only [bs, List.mem_map] at hb
  obtain ⟨u, _, rfl⟩ := hb
  exact u.toNat_lt
theorem bs_length (s : ByteArray) : (bs s).length = s.size := by rw [bs, List.length_map]; rfl
theorem bs_append (s t : ByteArray) : bs (s ++ t) = bs s ++ bs t := by simp [bs, ByteArray.data_append]
theorem bs_inj {s t : ByteArray} (h : bs s = bs t) : s = t := by
  apply ByteArray.ext
  apply Array.toList_inj.1
  exact (List.map_inj_right (fun a b h => UInt8.toNat_inj.1 h)).1 h
theorem bs_get (s : ByteArray) (i : Nat) (h : i < s.size) : (bs s)[i]? = some (s[i]'h).toNat := by
  have h' : i < s.data.size := h
  simp [bs, Array.getElem?_eq_getElem h']
  rfl
theorem bs_empty : bs ByteArray.empty = [] := rfl
/-- The bytes of parts, one behind the other. -/
def jn : List ByteArray → List Nat
  | [] => []
  | s :: r => bs s ++ jn r
theorem jn_append : ∀ l m, jn (l ++ m) = jn l ++ jn m
  | [], _ => rfl
  | s :: r, m => by simp [jn, jn_append r m]
theorem jn_lt : ∀ l, ∀ b ∈ jn l, b < 256
  | [], b, h => by simp [jn] at h
  | s :: r, b, h => by
    simp only [jn, List.mem_append] at h
    rcases h with h | h
    · exact bs_lt s b h
    · exact jn_lt r b h
theorem snoc_take {α : Type} (l : List α) (i : Nat) (x : α) (h : l[i]? = some x) : l.take (i + 1) = l.take i ++ [x] := by
  rw [List.take_add_one, h]; rfl

/-- Numbers as a string. -/
def str (l : List Nat) : ByteArray := ⟨(l.map UInt8.ofNat).toArray⟩
theorem bs_str {l : List Nat} (h : ∀ b ∈ l, b < 256) : bs (str l) = l := by
  unfold bs str
  simp only [List.map_map]
  rw [List.map_congr_left (g := id), List.map_id]
  intro b hb
  simp only [Function.comp, id]
  rw [UInt8.toNat_ofNat']
  exact Nat.mod_eq_of_lt (h b hb)
theorem str_bs (s : ByteArray) : str (bs s) = s := bs_inj (bs_str (bs_lt s))
theorem str_size (l : List Nat) : (str l).size = l.length := by
  show (List.map _ l).toArray.size = _
  simp
theorem str_append (l m : List Nat) : str (l ++ m) = str l ++ str m := by
  apply ByteArray.ext
  simp [str, ByteArray.data_append]
theorem str_of {s : ByteArray} {l : List Nat} (h : bs s = l) : s = str l := by rw [← h, str_bs]
theorem str_nil : str [] = { data := #[] } := rfl
theorem jn_take_succ {xs : List ByteArray} {k : Nat} {s : ByteArray} (h : xs[k]? = some s) : jn (xs.take (k + 1)) = jn (xs.take k) ++ bs s := by
  rw [snoc_take _ _ _ h, jn_append]; simp [jn]
theorem bs_take_succ {s : ByteArray} {j : Nat} (h : j < s.size) : (bs s).take (j + 1) = (bs s).take j ++ [(s[j]'h).toNat] := snoc_take _ _ _ (bs_get s j h)
theorem bs_take_all (s : ByteArray) {j : Nat} (h : ¬ j < s.size) : (bs s).take j = bs s := List.take_of_length_le (by rw [bs_length]; omega)


theorem beq_lists {a b : ByteArray} (h : a = b) : (a.toList == b.toList) = true := by rw [h]; simp
theorem bne_lists {a b : ByteArray} (h : ¬ a = b) : (a.toList == b.toList) = false := by
  rw [beq_eq_false_iff_ne]
  intro e
  rw [ByteArray.toList_eq, ByteArray.toList_eq] at e
  exact h (ByteArray.ext (Array.toList_inj.1 e))
theorem cut_data (s : ByteArray) (n : Nat) (hn : n ≤ s.size) : bs s = bs (s.extract 0 n) ++ bs (s.extract n s.size) := by
  simp only [bs, ByteArray.data_extract, ← List.map_append]
  congr 1
  rw [Array.toList_extract, Array.toList_extract]
  have hl : s.data.toList.length = s.size := by rw [Array.length_toList]; rfl
  have e1 : s.data.toList.extract 0 n = s.data.toList.take n := by rw [List.extract_eq_take_drop, List.drop_zero, Nat.sub_zero]
  have e2 : s.data.toList.extract n s.size = s.data.toList.drop n := by
    rw [List.extract_eq_take_drop]
    exact List.take_of_length_le (by rw [List.length_drop]; omega)
  rw [e1, e2, List.take_append_drop]
theorem cut_eq {s : ByteArray} {n : Nat} {F : ByteArray} (hn : n ≤ s.size) : s.extract 0 n ++ F = s ↔ F = s.extract n s.size := by
  have h := cut_data s n hn
  constructor
  · intro e
    have e2 := congrArg bs e
    rw [bs_append, h] at e2
    exact bs_inj (List.append_cancel_left e2)
  · intro e
    apply bs_inj
    rw [bs_append, e, ← h]
theorem str_take (l : List Nat) (n : Nat) : (str l).extract 0 n = str (l.take n) := by
  apply ByteArray.ext
  simp [str, ByteArray.data_extract, List.map_take]
theorem str_cut (l : List Nat) (i j : Nat) : (str l).extract i j = str ((l.drop i).take (j - i)) := by
  apply ByteArray.ext
  simp [str, ByteArray.data_extract, List.map_take, List.map_drop, List.take_drop]
theorem bs_cut (s : ByteArray) (i j : Nat) : bs (s.extract i j) = ((bs s).drop i).take (j - i) := by
  unfold bs
  simp [ByteArray.data_extract, List.map_take, List.map_drop, List.take_drop]
theorem cut_str (s : ByteArray) (i j : Nat) : s.extract i j = str (((bs s).drop i).take (j - i)) := by
  rw [← bs_cut, str_bs]

end Wi
end Go.Proofs.Ytgdfmoehbgmfkaa

namespace Go.Proofs.Ytgdfmoehbgmfkaa
open Go.RowKit
namespace Wi

theorem hide {p : Prop} (h : p) : Hid p := h
theorem ret_int {k : IntKind} {a b : Int} (h : a = b) : Ending.returned (.int k a) = .returned (.int k b) := by rw [h]
theorem ret_bool {a b : Bool} (h : a = b) : Ending.returned (.bool a) = .returned (.bool b) := by rw [h]
theorem ret_str {a b : ByteArray} (h : a = b) : Ending.returned (.string a) = .returned (.string b) := by rw [h]

/-- A later world: all that lay in w lies unturned. -/
structure Later (w : World) where
  val : World
  below : Below w.heap.size w val

theorem later_ne (w : World) : Nonempty (Later w) := ⟨⟨w, Below.refl _ _⟩⟩

theorem wp_region_later {P : Program} {id : Nat} {Q : Exit → Act → World → Prop} {a : Act} {w : World} {l : List Oper} (hm : P.follows .mixedOrders = true) (hB : Region.lexB .any l.toArray = true)
    (h : wpQuiet P l.toArray (fun w' => ∃ p : Later w, w' = p.val) (fun a' => ∀ w', (∃ p : Later w, w' = p.val) → Q .normal a' w') l a) : (Code.region id l.toArray true).wp P Q a w :=
  wp_region_quiet (C := fun w' => ∃ p : Later w, w' = p.val) hm hB ⟨⟨w.drew, (Below.refl _ _).drew⟩, rfl⟩ (by simpa using h)

/-- A callee's contract, met in a later world. -/
theorem later_of {P : Program} {f : FuncId} {args : Array Value} {w : World} {p : Later w} {v : Value}
    (h : Calls P f args p.val fun e w' => e = .returned v ∧ Below p.val.heap.size p.val w') : Calls P f args p.val fun e w'' => e = .returned v ∧ ∃ p : Later w, w'' = p.val :=
  h.mono fun _ w' ⟨he, hb⟩ => ⟨he, ⟨w', p.below.trans (hb.mono p.below.size)⟩, rfl⟩
theorem below_alloc (w : World) (o : Obj) : Below w.heap.size w (w.alloc o) := (Below.refl _ _).alloc (Nat.le_refl _) _

/-- A slice's memory holds these strings. -/
structure Ss (w : World) (a : Option Addr) (n : Nat) (xs : List ByteArray) : Prop where
  len : n = xs.length
  most : n ≤ 9223372036854775807
  fit : ∀ s ∈ xs, s.size ≤ 9223372036854775807
  cells : ∀ i s, xs[i]? = some s → ∃ b off, a = some ⟨b, off, none⟩ ∧ b < w.heap.size ∧ w.cell? ⟨b, off + i, none⟩ = some (.string s)
theorem Ss.later {w : World} {a : Option Addr} {n : Nat} {xs : List ByteArray} (h : Ss w a n xs) {wr : World} (hb : Below w.heap.size w wr) : Ss wr a n xs :=
  ⟨h.len, h.most, h.fit, fun i s hi => by
    obtain ⟨b, off, ha, hbl, c0⟩ := h.cells i s hi
    exact ⟨b, off, ha, Nat.lt_of_lt_of_le hbl hb.size, (hb.cell hbl).trans c0⟩⟩
theorem Ss.nil (w : World) (c : Option Addr) : Ss w c 0 [] := ⟨rfl, by omega, by simp, by simp⟩
theorem Ss.one (w : World) (s : ByteArray) (h : s.size ≤ 9223372036854775807) (t : TypeId) : Ss (w.alloc (.cells #[.string s] t)) (some ⟨w.heap.size, 0, none⟩) 1 [s] :=
  ⟨rfl, by omega, by simpa using h, fun i x hi => by
    cases i with
    | zero => simp at hi; subst hi; exact ⟨_, _, rfl, by simp, by simp⟩
    | succ i => simp at hi⟩
theorem Ss.two (w : World) (s r : ByteArray) (h : s.size ≤ 9223372036854775807) (h2 : r.size ≤ 9223372036854775807) (t : TypeId) : Ss (w.alloc (.cells #[.string s, .string r] t)) (some ⟨w.heap.size, 0, none⟩) 2 [s, r] :=
  ⟨rfl, by omega, by simp [h, h2], fun i x hi => by
    match i, hi with
    | 0, hi => simp at hi; subst hi; exact ⟨_, _, rfl, by simp, by simp⟩
    | 1, hi => simp at hi; subst hi; exact ⟨_, _, rfl, by simp, by simp⟩
    | i + 2, hi => simp at hi⟩

section
variable {P : Program} {ops : Array Oper} {C : World → Prop} {n : Nat}

/-- Whatever order is picked among the first n operations, each of them quiet in the class, L holds of what is left when f of them have come up. -/
def Heads (P : Program) (ops : Array Oper) (C : World → Prop) (n : Nat) (L : Array Bool → Act → Prop) : Nat → Array Bool → Act → Prop
  | 0, done, a => L done a
  | f + 1, done, a => Region.ready .any ops done ≠ [] ∧ ∀ i ∈ Region.ready .any ops done, i < n ∧ qOp P ops C i (Heads P ops C n L f (done.setIfInBounds i true)) a

theorem Heads.any {g : Nat} {L : Array Bool → Act → Prop} {Q : Exit → Act → World → Prop} (hL : ∀ done a, L done a → ∀ w, C w → wpAny P .any ops Q g done a w) :
    ∀ f done a, Heads P ops C n L f done a → ∀ w, C w → wpAny P .any ops Q (f + g) done a w := by
  intro f
  induction f with
  | zero => intro done a h w hw; rw [Nat.zero_add]; exact hL done a h w hw
  | succ f ih =>
    intro done a h w hw
    rw [Nat.succ_add]
    exact ⟨fun e => absurd e h.1, fun i hi => wpOp_of_qOp hw (fun a' w' hw' h' => ih _ a' h' w' hw') (h.2 i hi).2⟩

theorem Heads.first {i : Nat} {oi : Oper} {v : Value} {L : Array Bool → Act → Prop} (hi : ops[i]? = some oi) (hsel : Region.noSelect ops = true)
    (hs : Region.sinkB .any ops n = true) (hc : Region.chainB .any ops n = true) (hn : n < ops.size) (hin : i < n)
    (hL : ∀ done a, L done a → ∀ j ∈ Region.ready .any ops done, n ≤ j) :
    ∀ f done a, HeadInv .any ops n done →
      (∀ j oj, ops[j]? = some oj → j ≠ i → done.getD j true = false → (∀ e ∈ oj.after, Region.binds .any e = true → e.on ≠ i) → oi.apart ops oj = true) →
      i ∈ Region.ready .any ops done → YieldsIn P ops C oi v a → Heads P ops C n L f (done.setIfInBounds i true) (a.put oi.dst v) → Heads P ops C n L (f + 1) done a := by
  have sel := Region.noSelect_spec hsel
  have low : ∀ done, HeadInv .any ops n done → i ∈ Region.ready .any ops done → ∀ j ∈ Region.ready .any ops done, j < n := fun done inv hr j hj =>
    (Nat.lt_or_ge j n).resolve_right fun hge => tail_waits hs hc hn inv _ i rfl hin (mem_ready.1 hr).1 j hge hj
  intro f
  induction f with
  | zero =>
    intro done a inv _ hr hy H
    refine ⟨List.ne_nil_of_mem hr, fun j hj => ⟨low done inv hr j hj, ?_⟩⟩
    by_cases hji : j = i
    · subst hji; exact hy.qOp hi H
    · have h1 := hL _ _ H j (ready_mono hj hji)
      have h2 := low done inv hr j hj
      omega
  | succ f ih =>
    intro done a inv hfree hr hy H
    refine ⟨List.ne_nil_of_mem hr, fun j hj => ⟨low done inv hr j hj, ?_⟩⟩
    by_cases hji : j = i
    · subst hji; exact hy.qOp hi H
    · obtain ⟨hjun, oj, hoj, hall⟩ := mem_ready.1 hj
      have hnot : ∀ e ∈ oj.after, Region.binds .any e = true → e.on ≠ i := fun e he hb heq => by
        have h1 := hall e he hb
        rw [heq, getD_both (mem_ready.1 hr).1] at h1
        exact Bool.false_ne_true h1
      refine qOp_mono (fun a' h3 => ih (done.setIfInBounds j true) a' (inv.set hj (low done inv hr j hj)) (fun k ok hk hki hun hno => hfree k ok hk hki ?_ hno) (ready_mono hr (Ne.symm hji)) h3.1 ?_)
        (qOp_put hoj (hfree j oj hoj hji hjun hnot) (fun cs b => sel i oi cs b hi) (fun cs b => sel j oj cs b hoj) hy (H.2 j (ready_mono hj hji)).2)
      · by_cases hjk : j = k
        · subst hjk; exact hjun
        · rw [getD_set_ne true hjk] at hun; exact hun
      · rw [Array.setIfInBounds_comm _ _ hji]
        exact h3.2

theorem Heads.lex {g : Nat} {L : Act → Prop} (hsel : Region.noSelect ops = true) (hs : Region.sinkB .any ops n = true) (hc : Region.chainB .any ops n = true) (hn : n < ops.size) :
    ∀ (l : List Oper) (k : Nat) (done : Array Bool) (a : Act), (∀ j, j < l.length → l[j]? = ops[k + j]?) → k + l.length = n → HeadInv .any ops n done →
    Region.lexHead .any ops g l.length k done = true → wpQuiet P ops C L l a → Heads P ops C n (fun done' a' => Region.seqB .any ops g n done' = true ∧ L a') l.length done a := by
  intro l
  induction l with
  | nil =>
    intro k done a _ hk _ hB h
    obtain rfl : k = n := by simpa using hk
    exact ⟨by simpa [Region.lexHead] using hB, h⟩
  | cons o l ih =>
    intro k done a hl hk inv hB h
    have h0 : ops[k]? = some o := by simpa using (hl 0 (by simp)).symm
    simp only [List.length_cons, Region.lexHead, Bool.and_eq_true] at hB
    have hkn : k < n := by simp only [List.length_cons] at hk; omega
    have hr : k ∈ Region.ready .any ops done := by simpa using hB.1.1
    have hq : qOp P ops C k (wpQuiet P ops C L l) a := by unfold qOp; simp only [h0]; exact h
    obtain ⟨v, hy, hK⟩ := yieldsIn_of_qOp h0 hq
    exact Heads.first h0 hsel hs hc hn hkn (fun _ _ hL => seqB_ready hL.1) l.length done a inv (Region.free_spec h0 hB.1.2) hr hy
      (ih (k + 1) _ _ (fun j hj => by have := hl (j + 1) (by simp; omega); simpa [Nat.add_assoc, Nat.add_comm 1 j] using this) (by simp only [List.length_cons] at hk; omega) (inv.set hr hkn) hB.2 hK)
end

/-- A region that draws its order: its first n operations are quiet in the class, the others come behind them all, one by one. -/
theorem wp_region_class_tail {P : Program} {C : World → Prop} {id : Nat} {Q : Exit → Act → World → Prop} {a : Act} {w : World} {l : List Oper} (n : Nat) (hm : P.follows .mixedOrders = true) (hB : Region.lexTailB .any l.toArray n = true) (hC : C w.drew)
    (h : wpQuiet P l.toArray C (fun a' => ∀ w', C w' → wpList P l.toArray Q (l.drop n) a' w') (l.take n) a) : (Code.region id l.toArray true).wp P Q a w := by
  simp only [Region.lexTailB, Bool.and_eq_true, decide_eq_true_eq] at hB
  obtain ⟨⟨⟨⟨hsel, hn⟩, hs⟩, hc⟩, hlex⟩ := hB
  have hnl : n < l.length := by simpa using hn
  have htl : (l.take n).length = n := by simp; omega
  have hdl : (l.drop n).length = l.toArray.size - n := by simp
  have inv0 : HeadInv .any l.toArray n (Array.replicate l.toArray.size false) :=
    ⟨by simp, fun j oj _ hl => absurd hl (by rw [getD_replicate_false]; simp), fun t _ ht => getD_in (by simpa using ht) (getD_replicate_false _ _)⟩
  have H := Heads.lex (g := l.toArray.size - n) hsel hs hc hn (l.take n) 0 _ a (fun j hj => by rw [htl] at hj; simp [hj]) (by simpa using htl) inv0 (by rw [htl]; exact hlex) h
  have R := Heads.any (Q := Q) (g := l.toArray.size - n) (fun done a' hL w' hw' => by
    have := wpAny_of_seq (md := .any) (Q' := Q) (l.drop n) n done a' w' (fun j => by simp [List.getElem?_drop]) (by rw [hdl]; exact hL.1) (hL.2 w' hw')
    rwa [hdl] at this) _ _ _ H w.drew hC
  rw [htl, show n + (l.toArray.size - n) = l.toArray.size by omega] at R
  exact wp_region_any hm R

theorem wp_region_later_tail {P : Program} {id : Nat} {Q : Exit → Act → World → Prop} {a : Act} {w : World} {l : List Oper} (n : Nat) (hm : P.follows .mixedOrders = true) (hB : Region.lexTailB .any l.toArray n = true)
    (h : wpQuiet P l.toArray (fun w' => ∃ p : Later w, w' = p.val) (fun a' => ∀ w', (∃ p : Later w, w' = p.val) → wpList P l.toArray Q (l.drop n) a' w') (l.take n) a) : (Code.region id l.toArray true).wp P Q a w :=
  wp_region_class_tail n hm hB ⟨⟨w.drew, (Below.refl _ _).drew⟩, rfl⟩ h


end Wi
end Go.Proofs.Ytgdfmoehbgmfkaa

namespace Go.Proofs.Ytgdfmoehbgmfkaa
open Go.RowKit
namespace Wi
/-- The slice's own block is not among the first B. -/
def From (B : Nat) (v : Value) : Prop := ∀ k, v.ownBlock = some k → B ≤ k
/-- v' lies where v lay, or in memory that is new. -/
def Moved (w : World) (v v' : Value) : Prop := v'.ownBlock = v.ownBlock ∨ From w.heap.size v'
theorem From.moved {B : Nat} {w : World} {v v' : Value} (h : From B v) (hm : Moved w v v') (hB : B ≤ w.heap.size) : From B v' := fun k hk => by
  rcases hm with hm | hm
  · exact h k (hm ▸ hk)
  · exact Nat.le_trans hB (hm k hk)
theorem apart_moved {w : World} {v v' : Value} {g : Nat} (h : v.ownBlock ≠ some g) (hm : Moved w v v') (hg : g < w.heap.size) : v'.ownBlock ≠ some g := by
  rcases hm with hm | hm
  · rw [hm]; exact h
  · intro e; have := hm g e; omega
theorem Moved.refl (w : World) (v : Value) : Moved w v v := .inl rfl
theorem Moved.trans {w w1 : World} {v v1 v2 : Value} (h : Moved w v v1) (h1 : Moved w1 v1 v2) (hs : w.heap.size ≤ w1.heap.size) : Moved w v v2 := by
  rcases h1 with h1 | h1
  · rcases h with h | h
    · exact .inl (h1.trans h)
    · exact .inr fun k hk => h k (h1 ▸ hk)
  · exact .inr fun k hk => Nat.le_trans hs (h1 k hk)
theorem From.nil (B : Nat) (n c : Nat) : From B (.slice none n c) := fun k hk => by simp [Value.ownBlock] at hk
/-- A growth of one row of the call's own keeps all that lay below. -/
theorem below_grown {B : Nat} {a w w' : World} {v : Value} (h : Below B a w) (hg : w.grownBy w' v.ownBlock) (hB : B ≤ w.heap.size) (hv : From B v) : Below B a w' := h.grown hg hB hv

theorem run_append_moved {P : Program} {w : World} (t ty e : TypeId) (i : TypeInfo) (z : Value) (size bytes : Nat) (ht : P.underlying t = some (.slice e)) (hi : P.info? e = some i) (hz : i.zero = some z)
    (hsize : i.size = size) (hby : i.bytes = bytes) (hzs : z.cells.size = size) (hsz : 0 < size)
    (v : Value) (n : Nat) (xs : List Value) (hown : w.ownsRow 0 e size v n xs)
    (a : Addr) (m c : Nat) (news : List Value) (hl : news.length = m * size) (hnews : ∀ j u, news[j]? = some u → w.cell? (a.add j) = some u) (h1 : ∀ u ∈ news, u.oneCell' = true)
    (h63 : n + m ≤ maxLen) (hbytes : (n + m) * bytes ≤ 140737488355328) :
    ∃ v' w', (Builtin.append_ #[t, t] ty #[v, .slice (some a) m c]).run P w = .ok v' w' ∧ w'.ownsRow 0 e size v' (n + m) (xs ++ news) ∧ w.grownBy w' v.ownBlock ∧ Moved w v v' := by
  obtain ⟨v', w', hr, ho, hg, hn⟩ := run_append_own (P := P) w 0 t ty e i z size bytes ht hi hz hsize hby hzs hsz v n xs hown a m c news hl hnews h1 h63 hbytes (Nat.zero_le _)
  refine ⟨v', w', hr, ho, hg, ?_⟩
  subst hsize
  rcases hown.2 with ⟨hv, hn0⟩ | ⟨g, cap, cur, hv, hbg, hgg, hnc, hcm, hcs, htake⟩
  · obtain ⟨v2, w2, hr2, ho2, _⟩ := run_append_own (P := P) w w.heap.size t ty e i z i.size bytes ht hi hz rfl hby hzs hsz v n xs ⟨hown.1, .inl ⟨hv, hn0⟩⟩ a m c news hl hnews h1 h63 hbytes (Nat.le_refl _)
    rw [hr] at hr2
    cases hr2
    exact .inr fun k hk => (ho2.lt k hk).1
  · by_cases hroom : n + m ≤ cap
    · have hfit : n * i.size + news.length ≤ cur.size := by rw [hl, hcs, ← Nat.add_mul]; exact Nat.mul_le_mul_right _ hroom
      have hr2 := run_append_room (P := P) w t ty e i ht hi g n cap cur hgg a m c news hl hnews h1 hroom hfit
      rw [hv] at hr ⊢
      rw [hr2] at hr
      cases hr
      exact .inl rfl
    · subst hv
      have holds : ∀ j u, xs[j]? = some u → w.cell? ((⟨g, 0, none⟩ : Addr).add j) = some u := hown.cells (g := g) rfl
      subst hby
      have hr2 := run_append_grow (P := P) w t ty e i z ht hi hz ⟨g, 0, none⟩ n cap xs hown.1 holds a m c news hl hnews (by omega) (by simp only [maxLen] at h63; omega) (growslice_fits (by omega) hbytes)
      rw [hr2] at hr
      cases hr
      exact .inr fun k hk => by simp [Value.ownBlock] at hk; omega

theorem wpList_append_moved {P : Program} {w : World} {ops : Array Oper} {rest : List Oper} {o : Oper} {a : Act} {Q : Exit → Act → World → Prop} (hgd : o.guard = none) (s x : Operand) (t : TypeId)
    (ho : o.op = .call { callee := .builtin .append, args := #[s, x], argTypes := #[t, t] })
    (e : TypeId) (i : TypeInfo) (z : Value) (size bytes : Nat) (ht : P.underlying t = some (.slice e)) (hi : P.info? e = some i) (hz : i.zero = some z)
    (hsize : i.size = size) (hby : i.bytes = bytes) (hzs : z.cells.size = size) (hsz : 0 < size)
    (v : Value) (n : Nat) (xs : List Value) (hs : a.eval s = v) (hown : w.ownsRow 0 e size v n xs)
    (ad : Addr) (m c : Nat) (news : List Value) (hx : a.eval x = .slice (some ad) m c) (hl : news.length = m * size) (hnews : ∀ j u, news[j]? = some u → w.cell? (ad.add j) = some u) (h1 : ∀ u ∈ news, u.oneCell' = true)
    (h63 : n + m ≤ maxLen) (hbytes : (n + m) * bytes ≤ 140737488355328)
    (h : ∀ v' w', w'.ownsRow 0 e size v' (n + m) (xs ++ news) → w.grownBy w' v.ownBlock → Moved w v v' → wpList P ops Q rest (a.put o.dst v') w') : wpList P ops Q (o :: rest) a w := by
  refine wpList_plain hgd fun _ hK => ?_
  obtain ⟨v', w', hr, h2, h3, h4⟩ := run_append_moved (P := P) (w := w) t o.type e i z size bytes ht hi hz hsize hby hzs hsz v n xs hown ad m c news hl hnews h1 h63 hbytes
  unfold Oper.wp execOp
  simp only [ho, resolve, invoke, builtin, Sem.run_bind, Sem.run_pure, Result.andThen_ok, List.map_toArray, List.map_cons, List.map_nil, hs, hx, hr]
  exact hK _ _ (h v' w' h2 h3 h4)


/-- Bytes as cells. -/
def encB (l : List Nat) : List Value := l.map fun b => .int .u8 (b : Nat)
theorem encB_length (l : List Nat) : (encB l).length = l.length := by simp [encB]
theorem encB_append (l m : List Nat) : encB (l ++ m) = encB l ++ encB m := by simp [encB]
theorem encB_oneCell (l : List Nat) : ∀ u ∈ encB l, u.oneCell' = true := by
  intro u h
  simp only [encB, List.mem_map] at h
  obtain ⟨b, _, rfl⟩ := h
  rfl
theorem encB_get {l : List Nat} {i x : Nat} (h : l[i]? = some x) : (encB l)[i]? = some (.int .u8 (x : Nat)) := by simp [encB, h]
/-- The value v owns the bytes l. -/
def OwnB (w : World) (v : Value) (l : List Nat) : Prop := w.ownsRow 0 5 1 v l.length (encB l)
theorem OwnB.nil (w : World) : OwnB w (.slice none 0 0) [] := World.ownsRow_nil w 0 5 1
theorem OwnB.kept {w w' : World} {v : Value} {xs : List Nat} {row : Option Nat} (h : OwnB w v xs) (hg : w.grownBy w' row) (hne : v.ownBlock = none ∨ v.ownBlock ≠ row) : OwnB w' v xs := World.ownsRow.kept h hg hne
theorem OwnB.later {w w' : World} {v : Value} {xs : List Nat} (h : OwnB w v xs) (hb : Below w.heap.size w w') : OwnB w' v xs :=
  h.kept (row := none) ⟨hb.os, hb.tape, hb.output, hb.size, fun k hk _ => hb.block k hk⟩ (by rcases hv : v.ownBlock with _ | k <;> simp)

theorem info5 : (Try.prog.info? 5).map (fun i => (i.zero, i.size, i.bytes)) = some (some (.int .u8 0), 1, 1) := by kernel_rfl
theorem info_parts {t : TypeId} {z : Option Value} {s b : Nat} (h : (Try.prog.info? t).map (fun i => (i.zero, i.size, i.bytes)) = some (z, s, b)) : ∃ i, Try.prog.info? t = some i ∧ i.zero = z ∧ i.size = s ∧ i.bytes = b := by
  cases hi : Try.prog.info? t with
  | none => simp [hi] at h
  | some i => simp [hi] at h; exact ⟨i, rfl, h.1, h.2.1, h.2.2⟩
theorem cells_one {w : World} {a : Addr} {u : Value} (h : w.cell? (a.add 0) = some u) : ∀ j x, ([u] : List Value)[j]? = some x → w.cell? (a.add j) = some x := by
  intro j x hx
  cases j with
  | zero => simp at hx; subst hx; exact h
  | succ j => simp at hx

theorem one_oneCell (k : IntKind) (n : Int) : ∀ u ∈ [Value.int k n], u.oneCell' = true := by
  intro u hu
  rw [List.mem_singleton.1 hu]
  rfl

end Wi
end Go.Proofs.Ytgdfmoehbgmfkaa

namespace Go.Proofs.Ytgdfmoehbgmfkaa
open Go.RowKit
namespace Wi
/-- Nothing that lay has turned but blocks of X. -/
structure Keep (X : Nat → Prop) (w w' : World) : Prop where
  os : w'.os = w.os
  tape : w'.tape = w.tape
  output : w'.output = w.output
  size : w.heap.size ≤ w'.heap.size
  block : ∀ k, k < w.heap.size → ¬ X k → w'.heap[k]? = w.heap[k]?
theorem Keep.refl (X : Nat → Prop) (w : World) : Keep X w w := ⟨rfl, rfl, rfl, Nat.le_refl _, fun _ _ _ => rfl⟩
theorem Keep.of_below {X : Nat → Prop} {w w' : World} (h : Below w.heap.size w w') : Keep X w w' := ⟨h.os, h.tape, h.output, h.size, fun k hk _ => h.block k hk⟩
theorem Keep.trans {X Y : Nat → Prop} {w a b : World} (h : Keep X w a) (k : Keep Y a b) (hy : ∀ i, i < w.heap.size → Y i → X i) : Keep X w b :=
  ⟨k.os.trans h.os, k.tape.trans h.tape, k.output.trans h.output, Nat.le_trans h.size k.size, fun i hi hx => (k.block i (Nat.lt_of_lt_of_le hi h.size) fun y => hx (hy i hi y)).trans (h.block i hi hx)⟩
theorem Keep.below {X : Nat → Prop} {w w' : World} {B : Nat} (h : Keep X w w') (hB : B ≤ w.heap.size) (hx : ∀ k, k < B → ¬ X k) : Below B w w' :=
  ⟨h.os, h.tape, h.output, h.size, fun k hk => h.block k (Nat.lt_of_lt_of_le hk hB) (hx k hk)⟩
theorem Keep.grown {X : Nat → Prop} {w w' : World} {row : Option Nat} (h : w.grownBy w' row) (hx : ∀ k, row = some k → X k) : Keep X w w' :=
  ⟨h.os, h.tape, h.output, h.size, fun k hk hn => h.block k hk fun e => hn (hx k e.symm)⟩
theorem Keep.setCell {X : Nat → Prop} (w : World) (p : Addr) (u : Value) (hx : X p.block) : Keep X w (w.setCell p u) :=
  ⟨rfl, rfl, rfl, by simp [World.setCell], fun k _ hn => Below.heap_setCell _ _ _ _ fun e => hn (e ▸ hx)⟩
theorem Keep.drew {X : Nat → Prop} {w w' : World} (h : Keep X w w') : Keep X w w'.drew := ⟨h.os, h.tape, h.output, h.size, h.block⟩
theorem OwnB.keep {X : Nat → Prop} {w w' : World} {v : Value} {l : List Nat} (h : OwnB w v l) (k : Keep X w w') (hx : ∀ i, v.ownBlock = some i → ¬ X i) : OwnB w' v l := by
  refine ⟨h.1, ?_⟩
  rcases h.2 with hn | ⟨g, cap, cur, rfl, hb, hgg, rest⟩
  · exact .inl hn
  · refine .inr ⟨g, cap, cur, rfl, hb, ?_, rest⟩
    rw [k.block g (lt_of_block hgg) (hx g rfl)]
    exact hgg
theorem OwnB.lt {w : World} {v : Value} {l : List Nat} (h : OwnB w v l) : ∀ k, v.ownBlock = some k → k < w.heap.size := by
  intro k hk
  rcases h.2 with ⟨hv, _⟩ | ⟨g, cap, cur, rfl, hb, hgg, rest⟩
  · rw [hv] at hk; simp [Value.ownBlock] at hk
  · simp [Value.ownBlock] at hk; subst hk; exact lt_of_block hgg
theorem step_append_moved {P : Program} {ops : Array Oper} {o : Oper} {a : Act} {w : World} {K : Act → World → Prop} {Q : Exit → Act → World → Prop} {E : Prop}
    (hg : o.guard = none) (s x : Operand) (t : TypeId) (hop : o.op = Op.call { callee := Callee.builtin Builtin.append, args := #[s, x], argTypes := #[t, t] })
    (e : TypeId) (i : TypeInfo) (z : Value) (size bytes : Nat) (ht : P.underlying t = some (.slice e)) (hi : P.info? e = some i) (hz : i.zero = some z)
    (hsize : i.size = size) (hby : i.bytes = bytes) (hzs : z.cells.size = size) (hsz : 0 < size)
    (v : Value) (n : Nat) (xs : List Value) (hs : a.eval s = v) (hown : w.ownsRow 0 e size v n xs)
    (ad : Addr) (m c : Nat) (news : List Value) (hx : a.eval x = .slice (some ad) m c) (hl : news.length = m * size) (hnews : ∀ j u, news[j]? = some u → w.cell? (ad.add j) = some u) (h1 : ∀ u ∈ news, u.oneCell' = true)
    (h63 : n + m ≤ maxLen) (hbytes : (n + m) * bytes ≤ 140737488355328)
    (hK : ∀ v' w', w'.ownsRow 0 e size v' (n + m) (xs ++ news) → w.grownBy w' v.ownBlock → Moved w v v' → K (a.put o.dst v') w') :
    if Region.wanted o (yielded ops a.tmps) = true then Oper.wp P o a w K Q else E := by
  have hw : Region.wanted o (yielded ops a.tmps) = true := by simp [Region.wanted, hg]
  rw [if_pos hw]
  obtain ⟨v', w', hrun, r1, r2, r3⟩ := run_append_moved (P := P) (w := w) t o.type e i z size bytes ht hi hz hsize hby hzs hsz v n xs hown ad m c news hl hnews h1 h63 hbytes
  unfold Oper.wp
  simp [execOp, hop, resolve, invoke, builtin, hs, hx, hrun, Result.andThen]
  exact hK v' w' r1 r2 r3
theorem own_form {w : World} {v : Value} {e : TypeId} {size n : Nat} {xs : List Value} (h : w.ownsRow 0 e size v n xs) : ∃ a m c, v = .slice a m c := by
  rcases h.2 with ⟨hv, _⟩ | ⟨g, cap, cur, hv, _⟩
  · exact ⟨_, _, _, hv⟩
  · exact ⟨_, _, _, hv⟩

/-- So many bytes 0. -/
def zs (n : Nat) : Array Value := madeCells (Value.int .u8 0).cells n
theorem zs_size (n : Nat) : (zs n).size = n := size_madeCells _ _
theorem zs_list (n : Nat) : zs n = (encB (List.replicate n 0)).toArray := by
  apply Array.ext'
  rw [zs, show (Value.int .u8 0).cells = #[Value.int .u8 0] from rfl, toList_madeCells_one]
  simp [encB]
section
variable {α : Type} {f : α → List Value} {k : Nat}
theorem flat_len : ∀ l : List α, (∀ x ∈ l, (f x).length = k) → (l.flatMap f).length = l.length * k
  | [], _ => by simp
  | x :: r, h => by
    rw [List.flatMap_cons, List.length_append, flat_len r fun y hy => h y (by simp [hy]), h x (by simp), List.length_cons, Nat.add_mul]
    omega
theorem flat_part : ∀ (l : List α) (i : Nat) (x : α), (∀ y ∈ l, (f y).length = k) → l[i]? = some x → ((l.flatMap f).drop (i * k)).take k = f x
  | [], _, _, _, h => by simp at h
  | y :: r, 0, x, hk, h => by
    simp at h
    subst h
    rw [List.flatMap_cons, Nat.zero_mul, List.drop_zero, ← hk y (by simp), List.take_left]
  | y :: r, i + 1, x, hk, h => by
    have := flat_part r i x (fun z hz => hk z (by simp [hz])) (by simpa using h)
    rw [List.flatMap_cons, Nat.add_mul, Nat.one_mul, Nat.add_comm, ← List.drop_drop, ← hk y (by simp), List.drop_left, hk y (by simp)]
    exact this
theorem splice_zero {β : Type} (A c R : List β) (h : c.length = A.length) : splice (A ++ R) 0 c = c ++ R := by
  simp [splice, h]
theorem splice_behind {β : Type} (A L c : List β) (o : Nat) : splice (A ++ L) (A.length + o) c = A ++ splice L o c := by
  unfold splice
  rw [List.take_length_add_append, Nat.add_assoc, List.drop_length_add_append, List.append_assoc]
theorem flat_set : ∀ (l : List α) (i : Nat) (x : α), (∀ y ∈ l, (f y).length = k) → (f x).length = k → i < l.length → (l.set i x).flatMap f = splice (l.flatMap f) (i * k) (f x)
  | [], _, _, _, _, h => by simp at h
  | y :: r, 0, x, hk, hx, _ => by
    rw [List.set_cons_zero, List.flatMap_cons, List.flatMap_cons, Nat.zero_mul, splice_zero _ _ _ (by rw [hx, hk y (by simp)])]
  | y :: r, i + 1, x, hk, hx, h => by
    rw [List.set_cons_succ, List.flatMap_cons, List.flatMap_cons, flat_set r i x (fun z hz => hk z (by simp [hz])) hx (by simpa using h), Nat.add_mul, Nat.one_mul, Nat.add_comm, ← hk y (by simp), splice_behind]
end
theorem splice_mid {β : Type} (A Z c : List β) (n : Nat) (h : A.length = n) : splice (A ++ Z) n c = A ++ c ++ Z.drop c.length := by
  subst h
  have := splice_behind A Z c 0
  rw [Nat.add_zero] at this
  rw [this]
  simp [splice]
theorem splice_take {β : Type} (L c : List β) (o m : Nat) (h : o + c.length ≤ m) (hm : m ≤ L.length) : (splice L o c).take m = splice (L.take m) o c := by
  unfold splice
  have h1 : (L.take o).length = o := by rw [List.length_take]; omega
  rw [List.take_append, h1, List.take_of_length_le (by omega), List.take_append, List.take_take, show min o m = o by omega, List.take_of_length_le (l := c) (by omega), List.drop_take, show m - (o + c.length) = m - o - c.length by omega]
/-- Sectors as cells. -/
def encS (l : List (List Nat)) : List Value := l.flatMap encB
/-- A change as cells. -/
def encC (p : Nat × List Nat) : List Value := .int .i64 (p.1 : Nat) :: encB p.2
def encL (l : List (Nat × List Nat)) : List Value := l.flatMap encC
theorem encC_oneCell (p : Nat × List Nat) : ∀ u ∈ encC p, u.oneCell' = true := by
  intro u hu
  rw [encC, List.mem_cons] at hu
  rcases hu with rfl | hu
  · rfl
  · exact encB_oneCell _ u hu
theorem encC_length {p : Nat × List Nat} (h : p.2.length = 64) : (encC p).length = 65 := by rw [encC, List.length_cons, encB_length, h]
section
variable {w : World} {e : TypeId} {size n cap g : Nat} {xs : List Value}
theorem row_range (h : w.ownsRow 0 e size (.slice (some ⟨g, 0, none⟩) n cap) n xs) (o m : Nat) : w.rangeAt g o ((xs.drop o).take m) := fun j v hv => by
  have hj : ((xs.drop o).take m)[j]? = xs[o + j]? := by
    rw [List.getElem?_take]
    split
    · rw [List.getElem?_drop]
    · rename_i hh
      rw [List.getElem?_eq_none (by rw [List.length_take]; omega)] at hv
      cases hv
  rw [hj] at hv
  have hlt : o + j < xs.length := (List.getElem?_eq_some_iff.1 hv).1
  rw [World.ownsRow.cellAt h _ (by rw [← h.1]; exact hlt)]
  exact hv
theorem row_free (h : w.ownsRow 0 e size (.slice (some ⟨g, 0, none⟩) n cap) n xs) (j : Nat) : w.frozen? ⟨g, j, none⟩ = false := by
  rcases h.2 with ⟨hv, _⟩ | ⟨g', cap', cur, hv, _, hgg, _⟩
  · cases hv
  · cases hv
    exact frozen_of_row w _ _ _ _ hgg
theorem row_there (h : w.ownsRow 0 e size (.slice (some ⟨g, 0, none⟩) n cap) n xs) {o m : Nat} (hm : o + m ≤ n * size) : w.there g o m := fun j hj => by
  refine ⟨?_, row_free h _⟩
  rw [World.ownsRow.cellAt h _ (by omega), List.getElem?_eq_getElem (by rw [h.1]; omega)]
  rfl
theorem setCells_eq_setRow {t : TypeId} {cur : Array Value} (hg : w.heap[g]? = some (.cells cur t (0, 0))) {o : Nat} {vs : List Value} (hl : o + vs.length ≤ cur.size) (h1 : ∀ v ∈ vs, v.oneCell' = true) :
    w.setCells g o vs = w.setRow g (splice cur.toList o vs).toArray := by
  have a1 := run_storeCells_at Try.prog g o t vs 0 cur w hg (by omega) h1
  have a2 := run_storeCells_cells (P := Try.prog) g o vs 0 w (fun j hj => by
    rw [Nat.add_zero, cell_of_row w g (o + j) cur t (0, 0) hg, Array.getElem?_eq_getElem (by omega)]
    rfl) (fun j _ => frozen_of_row w _ _ _ _ hg) h1
  rw [a1] at a2
  simp only [Nat.add_zero] at a2
  injection a2 with _ e2
  rw [← e2, splice, List.append_assoc]
theorem Keep.setCells {X : Nat → Prop} (g : Nat) (hx : X g) : ∀ (vs : List Value) (o : Nat) (w : World), Keep X w (w.setCells g o vs)
  | [], _, _ => Keep.refl _ _
  | v :: r, o, w => (Keep.setCell (X := X) w ⟨g, o, none⟩ v hx).trans (Keep.setCells g hx r (o + 1) _) fun _ _ e => e
theorem heap_setCells_other (w : World) (g o : Nat) (vs : List Value) {k : Nat} (h : k ≠ g) (hk : k < w.heap.size) : (w.setCells g o vs).heap[k]? = w.heap[k]? :=
  (Keep.setCells (X := fun j => j = g) g rfl vs o w).block k hk h
theorem row_store (h : w.ownsRow 0 e size (.slice (some ⟨g, 0, none⟩) n cap) n xs) {o : Nat} {vs : List Value} (hl : o + vs.length ≤ n * size) (h1 : ∀ v ∈ vs, v.oneCell' = true) :
    (w.setCells g o vs).ownsRow 0 e size (.slice (some ⟨g, 0, none⟩) n cap) n (splice xs o vs) := by
  have hx := h.1
  rcases h.2 with ⟨hv, _⟩ | ⟨g', cap', cur, hv, hb, hgg, hnc, hcm, hcs, htake⟩
  · cases hv
  · cases hv
    have hle : n * size ≤ cur.size := by rw [hcs]; exact Nat.mul_le_mul_right _ hnc
    refine ⟨by rw [length_splice _ _ _ (by omega)]; exact hx, .inr ⟨g, cap, (splice cur.toList o vs).toArray, rfl, hb, ?_, hnc, hcm, ?_, ?_⟩⟩
    · rw [setCells_eq_setRow hgg (by omega) h1]
      exact setRow_heap w g _ _ _ _ hgg
    · rw [List.size_toArray, length_splice _ _ _ (by simpa using (by omega : o + vs.length ≤ cur.size)), ← hcs]
      simp
    · rw [List.toList_toArray, splice_take _ _ _ _ hl (by simpa using hle), htake]
theorem row_keep {X : Nat → Prop} {w' : World} {v : Value} (h : w.ownsRow 0 e size v n xs) (k : Keep X w w') (hx : ∀ i, v.ownBlock = some i → ¬ X i) : w'.ownsRow 0 e size v n xs := by
  refine ⟨h.1, ?_⟩
  rcases h.2 with hn | ⟨g, cap, cur, rfl, hb, hgg, rest⟩
  · exact .inl hn
  · refine .inr ⟨g, cap, cur, rfl, hb, ?_, rest⟩
    rw [k.block g (lt_of_block hgg) (hx g rfl)]
    exact hgg
theorem row_form {v : Value} (h : w.ownsRow 0 e size v n xs) (hn : 0 < n) : ∃ g cap, v = .slice (some ⟨g, 0, none⟩) n cap ∧ g < w.heap.size := by
  rcases h.2 with ⟨_, h0⟩ | ⟨g, cap, cur, hv, _, hgg, _⟩
  · omega
  · exact ⟨g, cap, hv, lt_of_block hgg⟩
theorem row_slice {v : Value} (h : w.ownsRow 0 e size v n xs) : ∃ a cap, v = .slice a n cap := by
  rcases h.2 with ⟨hv, h0⟩ | ⟨g, cap, cur, hv, _⟩
  · subst h0; exact ⟨_, _, hv⟩
  · exact ⟨_, _, hv⟩
end
theorem cells_new (w : World) (l : List Value) (t : TypeId) : ∀ j u, l[j]? = some u → (w.alloc (.cells l.toArray t)).drew.cell? ((⟨w.heap.size, 0, none⟩ : Addr).add j) = some u := by
  intro j u h
  rw [Addr.add_mid, Nat.zero_add]
  show (w.alloc (.cells l.toArray t)).cell? ⟨w.heap.size, j, none⟩ = some u
  rw [cell_of_row _ _ _ _ _ _ (heap_alloc_new w _)]
  simpa using h
theorem cell_grown {w w2 : World} {o : Obj} {b i : Nat} {v u : Value} (h : w.cell? ⟨b, i, none⟩ = some u) (hb : b < w.heap.size) (hne : v.ownBlock ≠ some b) (hg : (w.alloc o).drew.grownBy w2 v.ownBlock) : w2.cell? ⟨b, i, none⟩ = some u := by
  rw [← h, World.cell?_of_block (w := (w.alloc o).drew) (hg.block b (by show b < (w.alloc o).heap.size; simp; omega) fun e => hne e.symm)]
  exact (below_alloc w o).cell hb
theorem free_grown {w w2 : World} {o : Obj} {b i : Nat} {v : Value} (h : w.frozen? ⟨b, i, none⟩ = false) (hb : b < w.heap.size) (hne : v.ownBlock ≠ some b) (hg : (w.alloc o).drew.grownBy w2 v.ownBlock) : w2.frozen? ⟨b, i, none⟩ = false := by
  rw [← h, World.frozen?_of_block (w := (w.alloc o).drew) (hg.block b (by show b < (w.alloc o).heap.size; simp; omega) fun e => hne e.symm)]
  exact (below_alloc w o).frozen hb
/-- A thing in memory, and its blocks. -/
def Th : Type := World → (Nat → Prop) → Prop
structure Th.Good (A : Th) : Prop where
  keep : ∀ {w w' : World} {X Y : Nat → Prop}, A w X → Keep Y w w' → (∀ i, X i → ¬ Y i) → A w' X
  lt : ∀ {w : World} {X : Nat → Prop}, A w X → ∀ k, X k → k < w.heap.size
theorem Th.Good.later {A : Th} (h : A.Good) {w w' : World} {X : Nat → Prop} (ha : A w X) (hb : Below w.heap.size w w') : A w' X := h.keep (Y := fun _ => False) ha (Keep.of_below hb) fun _ _ => id
/-- Two things that share no block. -/
def Th.and (A B : Th) : Th := fun w Z => ∃ X Y, A w X ∧ B w Y ∧ (∀ k, X k → ¬ Y k) ∧ ∀ k, Z k ↔ X k ∨ Y k
theorem Th.Good.and {A B : Th} (ha : A.Good) (hb : B.Good) : (A.and B).Good :=
  ⟨fun ⟨X, Y, h1, h2, h3, h4⟩ k hx => ⟨X, Y, ha.keep h1 k fun i hi => hx i ((h4 i).2 (.inl hi)), hb.keep h2 k fun i hi => hx i ((h4 i).2 (.inr hi)), h3, h4⟩,
   fun ⟨_, _, h1, h2, _, h4⟩ k hk => ((h4 k).1 hk).elim (ha.lt h1 k) (hb.lt h2 k)⟩
/-- What a call leaves of a thing. -/
def LeftT (A : Th) (w : World) (X : Nat → Prop) (w' : World) : Prop := ∃ X', A w' X' ∧ Keep X w w' ∧ ∀ k, X' k → X k ∨ w.heap.size ≤ k
theorem LeftT.first {A : Th} {w w1 w2 : World} {X : Nat → Prop} (hb : Below w.heap.size w w1) (h : LeftT A w1 X w2) : LeftT A w X w2 := by
  obtain ⟨X', h1, h2, h3⟩ := h
  exact ⟨X', h1, (Keep.of_below (X := X) hb).trans h2 fun _ _ e => e, fun k hk => (h3 k hk).imp id fun e => Nat.le_trans hb.size e⟩
theorem LeftT.later {A : Th} (hA : A.Good) {w w1 w2 : World} {X : Nat → Prop} (h : LeftT A w X w1) (hb : Below w1.heap.size w1 w2) : LeftT A w X w2 := by
  obtain ⟨X', h1, h2, h3⟩ := h
  exact ⟨X', hA.later h1 hb, h2.trans (Keep.of_below (X := X) hb) fun _ _ e => e, h3⟩
/-- A thing of the call's own. -/
def Mine (W w : World) (A : Th) : Prop := ∃ X, A w X ∧ (∀ k, X k → W.heap.size ≤ k) ∧ Below W.heap.size W w
theorem Mine.below {W w : World} {A : Th} (h : Mine W w A) : Below W.heap.size W w := let ⟨_, _, _, hb⟩ := h; hb
theorem Mine.later {W w w' : World} {A : Th} (hA : A.Good) (h : Mine W w A) (hb : Below w.heap.size w w') : Mine W w' A := by
  obtain ⟨X, h1, h2, h3⟩ := h
  exact ⟨X, hA.later h1 hb, h2, h3.trans (hb.mono h3.size)⟩
theorem Mine.swap {W w : World} {A B : Th} (h : Mine W w (A.and B)) : Mine W w (B.and A) := by
  obtain ⟨Z, ⟨X, Y, h1, h2, h3, h4⟩, h5, h6⟩ := h
  exact ⟨Z, ⟨Y, X, h2, h1, fun k hk hx => h3 k hx hk, fun k => (h4 k).trans or_comm⟩, h5, h6⟩
theorem Mine.rot {W w : World} {A B C : Th} (h : Mine W w (A.and (B.and C))) : Mine W w (B.and (A.and C)) := by
  obtain ⟨Z, ⟨X, U, h1, ⟨Y, V, k1, k2, k3, k4⟩, h3, h4⟩, h5, h6⟩ := h
  refine ⟨Z, ⟨Y, fun k => X k ∨ V k, k1, ⟨X, V, h1, k2, fun k hx hv => h3 k hx ((k4 k).2 (.inr hv)), fun k => Iff.rfl⟩, fun k hy hz => hz.elim (fun hx => h3 k hx ((k4 k).2 (.inl hy))) (k3 k hy), fun k => ?_⟩, h5, h6⟩
  rw [h4 k, k4 k]
  exact or_left_comm
theorem Mine.go {W w : World} {A B : Th} (hB : B.Good) (h : Mine W w (A.and B)) : ∃ X, A w X ∧ (∀ k, X k → W.heap.size ≤ k) ∧ ∀ {w' : World} {A' : Th}, LeftT A' w X w' → Mine W w' (A'.and B) := by
  obtain ⟨Z, ⟨X, Y, h1, h2, h3, h4⟩, h5, h6⟩ := h
  refine ⟨X, h1, fun k hk => h5 k ((h4 k).2 (.inl hk)), fun {w' A'} ⟨X', l1, l2, l3⟩ => ⟨fun k => X' k ∨ Y k, ⟨X', Y, l1, hB.keep h2 l2 fun i hi hx => h3 i hx hi, fun k hx hy => ?_, fun k => Iff.rfl⟩, fun k hk => ?_, h6.trans (l2.below h6.size fun k hk hx => ?_)⟩⟩
  · rcases l3 k hx with h | h
    · exact h3 k h hy
    · exact Nat.lt_irrefl _ (Nat.lt_of_lt_of_le (hB.lt h2 k hy) h)
  · rcases hk with hk | hk
    · rcases l3 k hk with h | h
      · exact h5 k ((h4 k).2 (.inl h))
      · exact Nat.le_trans h6.size h
    · exact h5 k ((h4 k).2 (.inr hk))
  · exact Nat.lt_irrefl _ (Nat.lt_of_lt_of_le hk (h5 k ((h4 k).2 (.inl hx))))
theorem Mine.new {W w w' : World} {A B : Th} (hA : A.Good) (h : Mine W w A) (hb : Below w.heap.size w w') (hn : ∃ X, B w' X ∧ ∀ k, X k → w.heap.size ≤ k) : Mine W w' (B.and A) := by
  obtain ⟨X, h1, h2, h3⟩ := h
  obtain ⟨Y, k1, k2⟩ := hn
  refine ⟨fun k => Y k ∨ X k, ⟨Y, X, k1, hA.later h1 hb, fun k hy hx => ?_, fun k => Iff.rfl⟩, fun k hk => hk.elim (fun e => Nat.le_trans h3.size (k2 k e)) (h2 k), h3.trans (hb.mono h3.size)⟩
  exact Nat.lt_irrefl _ (Nat.lt_of_lt_of_le (hA.lt h1 k hx) (k2 k hy))
theorem row_later {w w' : World} {e : TypeId} {size n : Nat} {v : Value} {xs : List Value} (h : w.ownsRow 0 e size v n xs) (hb : Below w.heap.size w w') : w'.ownsRow 0 e size v n xs := row_keep (X := fun _ => False) h (Keep.of_below hb) fun _ _ => id
theorem same_b {P : Program} {f : FuncId} {args : Array Value} {w : World} {v : Value} (h : Calls P f args w fun e w' => e = .returned v ∧ w' = w) : Calls P f args w fun e w' => e = .returned v ∧ Below w.heap.size w w' :=
  h.mono fun _ _ ⟨h1, h2⟩ => ⟨h1, h2 ▸ Below.refl _ _⟩
theorem setCell_blk {w : World} {b i : Nat} {cs : Array Value} {t : TypeId} (h : w.heap[b]? = some (.cells cs t (0, 0))) (v : Value) : (w.setCell ⟨b, i, none⟩ v).heap[b]? = some (.cells (cs.setIfInBounds i v) t (0, 0)) := by
  rw [setCell_eq_setRow w b i cs t (0, 0) v h]
  exact setRow_heap w b _ _ _ _ h
theorem keep_cell {X : Nat → Prop} {w w' : World} (k : Keep X w w') {g i : Nat} (hg : g < w.heap.size) (hx : ¬ X g) : w'.cell? ⟨g, i, none⟩ = w.cell? ⟨g, i, none⟩ := World.cell?_of_block (k.block g hg hx)
end Wi
end Go.Proofs.Ytgdfmoehbgmfkaa

namespace Go.Proofs.Ytgdfmoehbgmfkaa
open Go.RowKit
namespace Wi

/-- The value v is a slice of n elements that hold xs, from some place of a block on. -/
def Rw (w : World) (e : TypeId) (size : Nat) (v : Value) (n : Nat) (xs : List Value) : Prop :=
  xs.length = n * size ∧ ((v = .slice none 0 0 ∧ n = 0) ∨
    ∃ g off cap cur, v = .slice (some ⟨g, off, none⟩) n cap ∧ w.heap[g]? = some (.cells cur e (0, 0)) ∧ n ≤ cap ∧ cap ≤ maxLen ∧ off + cap * size ≤ cur.size ∧ (cur.toList.drop off).take (n * size) = xs)
section
variable {w w' : World} {e : TypeId} {size n : Nat} {v : Value} {xs : List Value}
theorem Rw.nil (w : World) (e : TypeId) (size : Nat) : Rw w e size (.slice none 0 0) 0 [] := ⟨by simp, .inl ⟨rfl, rfl⟩⟩
theorem Rw.of_own (h : w.ownsRow 0 e size v n xs) : Rw w e size v n xs := by
  refine ⟨h.1, ?_⟩
  rcases h.2 with hn | ⟨g, cap, cur, hv, _, hg, hnc, hcm, hcs, ht⟩
  · exact .inl hn
  · exact .inr ⟨g, 0, cap, cur, hv, hg, hnc, hcm, by omega, by simpa using ht⟩
theorem Rw.keep {X : Nat → Prop} (h : Rw w e size v n xs) (k : Keep X w w') (hx : ∀ i, v.ownBlock = some i → ¬ X i) : Rw w' e size v n xs := by
  refine ⟨h.1, ?_⟩
  rcases h.2 with hn | ⟨g, off, cap, cur, hv, hg, rest⟩
  · exact .inl hn
  · exact .inr ⟨g, off, cap, cur, hv, (k.block g (lt_of_block hg) (hx g (by rw [hv]; rfl))).trans hg, rest⟩
theorem Rw.later (h : Rw w e size v n xs) (hb : Below w.heap.size w w') : Rw w' e size v n xs := h.keep (X := fun _ => False) (Keep.of_below hb) fun _ _ => id
theorem Rw.lt (h : Rw w e size v n xs) : ∀ k, v.ownBlock = some k → k < w.heap.size := fun k hk => by
  rcases h.2 with ⟨rfl, _⟩ | ⟨g, off, cap, cur, rfl, hg, _⟩
  · simp [Value.ownBlock] at hk
  · simp [Value.ownBlock] at hk
    subst hk
    exact lt_of_block hg
theorem Rw.form (h : Rw w e size v n xs) : ∃ a cap, v = .slice a n cap := by
  rcases h.2 with ⟨rfl, rfl⟩ | ⟨g, off, cap, cur, rfl, _⟩
  · exact ⟨_, _, rfl⟩
  · exact ⟨_, _, rfl⟩
theorem Rw.pos (h : Rw w e size v n xs) (hn : 0 < n) : ∃ g off cap, v = .slice (some ⟨g, off, none⟩) n cap ∧ g < w.heap.size ∧ n ≤ cap ∧ cap ≤ maxLen := by
  rcases h.2 with ⟨rfl, rfl⟩ | ⟨g, off, cap, cur, rfl, hg, h1, h2, _⟩
  · omega
  · exact ⟨g, off, cap, rfl, lt_of_block hg, h1, h2⟩
theorem Rw.cell {g off cap : Nat} (h : Rw w e size (.slice (some ⟨g, off, none⟩) n cap) n xs) {j : Nat} {u : Value} (hj : xs[j]? = some u) : w.cell? ⟨g, off + j, none⟩ = some u ∧ w.frozen? ⟨g, off + j, none⟩ = false := by
  rcases h.2 with ⟨hv, _⟩ | ⟨g', off', cap', cur, hv, hg, h1, h2, h3, h4⟩
  · cases hv
  · cases hv
    refine ⟨?_, frozen_of_row w _ _ _ _ hg⟩
    rw [cell_of_row _ _ _ _ _ _ hg]
    have hl := (List.getElem?_eq_some_iff.1 hj).1
    rw [← h4, List.getElem?_take_of_lt (by rw [h.1] at hl; exact hl), List.getElem?_drop] at hj
    simpa using hj
theorem Rw.cells {g off cap : Nat} (h : Rw w e size (.slice (some ⟨g, off, none⟩) n cap) n xs) : ∀ j u, xs[j]? = some u → w.cell? ((⟨g, off, none⟩ : Addr).add j) = some u := fun j u hj => by
  rw [Addr.add_mid]
  exact (h.cell hj).1
/-- The part of a slice from the element k on. -/
theorem Rw.drop {a : Option Addr} {cap k : Nat} (h : Rw w e size (.slice a n cap) n xs) (hk : k ≤ n) : Rw w e size (.slice (if cap = k then a else a.map (·.add (k * size))) (n - k) (cap - k)) (n - k) (xs.drop (k * size)) := by
  refine ⟨by rw [List.length_drop, h.1, Nat.sub_mul], ?_⟩
  rcases h.2 with ⟨hv, rfl⟩ | ⟨g, off, cap', cur, hv, hg, h1, h2, h3, h4⟩
  · cases hv
    obtain rfl : k = 0 := by omega
    exact .inl ⟨by simp, by simp⟩
  · cases hv
    by_cases hc : cap = k
    · subst hc
      obtain rfl : cap = n := by omega
      refine .inr ⟨g, off, 0, cur, by simp, hg, by omega, by omega, by omega, ?_⟩
      rw [Nat.sub_self, Nat.zero_mul, List.take_zero, ← h.1, List.drop_length]
    · refine .inr ⟨g, off + k * size, cap - k, cur, by rw [if_neg hc]; simp [Addr.add_mid], hg, by omega, by omega, ?_, ?_⟩
      · rw [Nat.sub_mul]
        have : k * size ≤ cap * size := Nat.mul_le_mul_right _ (by omega)
        omega
      · rw [← h4, List.drop_take, Nat.sub_mul, List.drop_drop]
theorem drop_own {a : Option Addr} {n cap k size : Nat} : (Value.slice (if cap = k then a else a.map (·.add (k * size))) (n - k) (cap - k)).ownBlock = (Value.slice a n cap).ownBlock := by
  split
  · cases a <;> rfl
  · cases a with
    | none => rfl
    | some a => simp [Value.ownBlock, Addr.add]; split <;> rfl
/-- Cells of it are written. -/
theorem Rw.set {g off cap : Nat} (h : Rw w e size (.slice (some ⟨g, off, none⟩) n cap) n xs) {o : Nat} {vs : List Value} (hl : o + vs.length ≤ n * size) (h1 : ∀ u ∈ vs, u.oneCell' = true) : Rw (w.setCells g (off + o) vs) e size (.slice (some ⟨g, off, none⟩) n cap) n (splice xs o vs) := by
  rcases h.2 with ⟨hv, _⟩ | ⟨g', off', cap', cur, hv, hg, k1, k2, k3, k4⟩
  · cases hv
  · cases hv
    have hle : n * size ≤ cap * size := Nat.mul_le_mul_right _ k1
    refine ⟨by rw [length_splice _ _ _ (by rw [h.1]; exact hl), h.1], .inr ⟨g, off, cap, _, rfl, by rw [setCells_eq_setRow hg (by omega) h1]; exact setRow_heap w g cur _ e _ hg, k1, k2, ?_, ?_⟩⟩
    · simp only [List.size_toArray]
      rw [length_splice _ _ _ (by simp; omega)]
      simpa using k3
    · have e1 : cur.toList = cur.toList.take off ++ cur.toList.drop off := (List.take_append_drop _ _).symm
      have hA : (cur.toList.take off).length = off := by rw [List.length_take]; simp; omega
      have e2 : splice cur.toList (off + o) vs = cur.toList.take off ++ splice (cur.toList.drop off) o vs := by
        have := splice_behind (cur.toList.take off) (cur.toList.drop off) vs o
        rw [← e1, hA] at this
        exact this
      simp only [e2]
      rw [List.drop_left' hA, splice_take _ _ _ _ hl (by simp; omega), k4]
end
/-- append, onto such a slice. -/
theorem run_append_rw {P : Program} {w : World} (t ty e : TypeId) (i : TypeInfo) (z : Value) (size bytes : Nat) (ht : P.underlying t = some (.slice e)) (hi : P.info? e = some i) (hz : i.zero = some z)
    (hsize : i.size = size) (hby : i.bytes = bytes) (hzs : z.cells.size = size) (hsz : 0 < size)
    (v : Value) (n : Nat) (xs : List Value) (hown : Rw w e size v n xs)
    (a : Addr) (m c : Nat) (news : List Value) (hl : news.length = m * size) (hnews : ∀ j u, news[j]? = some u → w.cell? (a.add j) = some u) (h1 : ∀ u ∈ news, u.oneCell' = true)
    (h63 : n + m ≤ maxLen) (hbytes : (n + m) * bytes ≤ 140737488355328) :
    ∃ v' w', (Builtin.append_ #[t, t] ty #[v, .slice (some a) m c]).run P w = .ok v' w' ∧ Rw w' e size v' (n + m) (xs ++ news) ∧ w.grownBy w' v.ownBlock ∧ Moved w v v' := by
  subst hsize
  subst hby
  rcases hown.2 with ⟨rfl, rfl⟩ | ⟨g, off, cap, cur, rfl, hg, hnc, hcm, hcs, htake⟩
  · have hx : xs = [] := List.eq_nil_of_length_eq_zero (by simpa using hown.1)
    subst hx
    obtain ⟨v', w', hr, ho, hgr, hm⟩ := run_append_moved (P := P) (w := w) t ty e i z i.size i.bytes ht hi hz rfl rfl hzs hsz (.slice none 0 0) 0 [] (World.ownsRow_nil w 0 e i.size) a m c news hl hnews h1 h63 hbytes
    exact ⟨v', w', hr, Rw.of_own ho, hgr, hm⟩
  · have hlen : (xs ++ news).length = (n + m) * i.size := by rw [List.length_append, hown.1, hl, Nat.add_mul]
    by_cases hroom : n + m ≤ cap
    · have hle : (n + m) * i.size ≤ cap * i.size := Nat.mul_le_mul_right _ hroom
      have hfit : off + n * i.size + news.length ≤ cur.size := by rw [hl]; rw [Nat.add_mul] at hle; omega
      have hr := run_append_room_cells (P := P) w t ty e i ht hi g off n cap a m c news hl hnews h1 hroom
        (fun j hj => by rw [cell_of_row _ _ _ _ _ _ hg, Array.getElem?_eq_getElem (by omega)]; rfl) (fun j _ => frozen_of_row w _ _ _ _ hg)
      refine ⟨_, _, hr, ⟨hlen, .inr ⟨g, off, cap, _, rfl, by rw [setCells_eq_setRow hg hfit h1]; exact setRow_heap w g cur _ e _ hg, hroom, hcm, ?_, ?_⟩⟩, ?_, .inl rfl⟩
      · simp only [List.size_toArray]
        rw [length_splice _ _ _ (by simpa using hfit)]
        simpa using hcs
      · have e1 : cur.toList = cur.toList.take off ++ cur.toList.drop off := (List.take_append_drop _ _).symm
        have hA : (cur.toList.take off).length = off := by rw [List.length_take]; simp; omega
        have e2 : splice cur.toList (off + n * i.size) news = cur.toList.take off ++ splice (cur.toList.drop off) (n * i.size) news := by
          have := splice_behind (cur.toList.take off) (cur.toList.drop off) news (n * i.size)
          rw [← e1, hA] at this
          exact this
        simp only [e2]
        rw [List.drop_left' hA, splice, htake, ← List.append_assoc, ← hlen, List.take_left]
      · have k := Keep.setCells (X := fun j => j = g) g rfl news (off + n * i.size) w
        exact ⟨k.os, k.tape, k.output, k.size, fun j hj hn => k.block j hj fun e => hn (by rw [e]; rfl)⟩
    · have hr := run_append_grow (P := P) w t ty e i z ht hi hz ⟨g, off, none⟩ n cap xs hown.1 hown.cells a m c news hl hnews (by omega) (by simp only [maxLen] at h63; omega) (growslice_fits (by omega) hbytes)
      have hge := grownCap_ge w (n + m) cap e
      have hcm : grownCap w (n + m) cap e ≤ maxLen := grownCap_le_maxLen w (n + m) cap e h63
      refine ⟨_, _, hr, Rw.of_own ⟨hlen, .inr ⟨w.heap.size, _, _, rfl, Nat.zero_le _, heap_alloc_new w.drew _, hge, hcm, ?_, ?_⟩⟩, ⟨rfl, rfl, rfl, by simp, fun k hk _ => heap_alloc_old w.drew _ hk⟩, .inr fun k hk => by simp [Value.ownBlock] at hk; omega⟩
      · simp only [Array.size_append, List.size_toArray, size_zeroCells, hzs, hown.1, hl, ← Nat.add_mul]
        congr 1
        omega
      · simp only [Array.toList_append, List.append_assoc]
        rw [← List.append_assoc, ← hlen]
        exact List.take_left
theorem step_append_rw {P : Program} {ops : Array Oper} {o : Oper} {a : Act} {w : World} {K : Act → World → Prop} {Q : Exit → Act → World → Prop} {E : Prop}
    (hg : o.guard = none) (s x : Operand) (t : TypeId) (hop : o.op = Op.call { callee := Callee.builtin Builtin.append, args := #[s, x], argTypes := #[t, t] })
    (e : TypeId) (i : TypeInfo) (z : Value) (size bytes : Nat) (ht : P.underlying t = some (.slice e)) (hi : P.info? e = some i) (hz : i.zero = some z)
    (hsize : i.size = size) (hby : i.bytes = bytes) (hzs : z.cells.size = size) (hsz : 0 < size)
    (v : Value) (n : Nat) (xs : List Value) (hs : a.eval s = v) (hown : Rw w e size v n xs)
    (ad : Addr) (m c : Nat) (news : List Value) (hx : a.eval x = .slice (some ad) m c) (hl : news.length = m * size) (hnews : ∀ j u, news[j]? = some u → w.cell? (ad.add j) = some u) (h1 : ∀ u ∈ news, u.oneCell' = true)
    (h63 : n + m ≤ maxLen) (hbytes : (n + m) * bytes ≤ 140737488355328)
    (hK : ∀ v' w', Rw w' e size v' (n + m) (xs ++ news) → w.grownBy w' v.ownBlock → Moved w v v' → K (a.put o.dst v') w') :
    if Region.wanted o (yielded ops a.tmps) = true then Oper.wp P o a w K Q else E := by
  have hw : Region.wanted o (yielded ops a.tmps) = true := by simp [Region.wanted, hg]
  rw [if_pos hw]
  obtain ⟨v', w', hrun, r1, r2, r3⟩ := run_append_rw (P := P) (w := w) t o.type e i z size bytes ht hi hz hsize hby hzs hsz v n xs hown ad m c news hl hnews h1 h63 hbytes
  unfold Oper.wp
  simp [execOp, hop, resolve, invoke, builtin, hs, hx, hrun, Result.andThen]
  exact hK v' w' r1 r2 r3
theorem wpList_append_rw {P : Program} {w : World} {ops : Array Oper} {rest : List Oper} {o : Oper} {a : Act} {Q : Exit → Act → World → Prop} (hgd : o.guard = none) (s x : Operand) (t : TypeId)
    (ho : o.op = .call { callee := .builtin .append, args := #[s, x], argTypes := #[t, t] })
    (e : TypeId) (i : TypeInfo) (z : Value) (size bytes : Nat) (ht : P.underlying t = some (.slice e)) (hi : P.info? e = some i) (hz : i.zero = some z)
    (hsize : i.size = size) (hby : i.bytes = bytes) (hzs : z.cells.size = size) (hsz : 0 < size)
    (v : Value) (n : Nat) (xs : List Value) (hs : a.eval s = v) (hown : Rw w e size v n xs)
    (ad : Addr) (m c : Nat) (news : List Value) (hx : a.eval x = .slice (some ad) m c) (hl : news.length = m * size) (hnews : ∀ j u, news[j]? = some u → w.cell? (ad.add j) = some u) (h1 : ∀ u ∈ news, u.oneCell' = true)
    (h63 : n + m ≤ maxLen) (hbytes : (n + m) * bytes ≤ 140737488355328)
    (h : ∀ v' w', Rw w' e size v' (n + m) (xs ++ news) → w.grownBy w' v.ownBlock → Moved w v v' → wpList P ops Q rest (a.put o.dst v') w') : wpList P ops Q (o :: rest) a w := by
  refine wpList_plain hgd fun _ hK => ?_
  obtain ⟨v', w', hr, h2, h3, h4⟩ := run_append_rw (P := P) (w := w) t o.type e i z size bytes ht hi hz hsize hby hzs hsz v n xs hown ad m c news hl hnews h1 h63 hbytes
  unfold Oper.wp execOp
  simp only [ho, resolve, invoke, builtin, Sem.run_bind, Sem.run_pure, Result.andThen_ok, List.map_toArray, List.map_cons, List.map_nil, hs, hx, hr]
  exact hK _ _ (h v' w' h2 h3 h4)
theorem Rw.own_form {w : World} {v : Value} {e : TypeId} {size n : Nat} {xs : List Value} (h : Rw w e size v n xs) : ∃ a m c, v = .slice a m c := let ⟨a, c, h⟩ := h.form; ⟨a, n, c, h⟩

end Wi
end Go.Proofs.Ytgdfmoehbgmfkaa
