/- A part of the proofs about package crc: what its functions answer, call by call. -/
import Derived.Test.YtjopjffecnflkaaDoorWf
import Derived.Laws.AppendOwn
import Derived.Laws.BytesArg
import Derived.Laws.MakeOwn
namespace Go.Proofs.YtjopjffecnflkaaDoor
open Go.RowKit
namespace Cr
/-- The slice's own block is not among the first B. -/
def From (B : Nat) (v : Value) : Prop := ∀ k, v.ownBlock = some k → B ≤ k
/-- v' lies where v lay, or in memory that is new. -/
def Moved (w : World) (v v' : Value) : Prop := v'.ownBlock = v.ownBlock ∨ From w.heap.size v'
theorem From.moved {B : Nat} {w : World} {v v' : Value} (h : From B v) (hm : Moved w v v') (hB : B ≤ w.heap.size) : From B v' := fun k hk => by
  rcases hm with hm | hm
  · exact h k (hm ▸ hk)
  · exact Nat.le_trans hB (hm k hk)
theorem apart_moved {w : World} {v v' : Value} {g : Nat} (h : v.ownBlock ≠ some g) (hm : Moved w v v') (hg : g < w.heap.size) : v'.ownBlock ≠ some g := by
  rcases hm with hm | hm
  · rw [hm]; exact h
  · intro e; have := hm g e; omega
theorem Moved.refl (w : World) (v : Value) : Moved w v v := .inl rfl
theorem Moved.trans {w w1 : World} {v v1 v2 : Value} (h : Moved w v v1) (h1 : Moved w1 v1 v2) (hs : w.heap.size ≤ w1.heap.size) : Moved w v v2 := by
  rcases h1 with h1 | h1
  · rcases h with h | h
    · exact .inl (h1.trans h)
    · exact .inr fun k hk => h k (h1 ▸ hk)
  · exact .inr fun k hk => Nat.le_trans hs (h1 k hk)
theorem From.nil (B : Nat) (n c : Nat) : From B (.slice none n c) := fun k hk => by simp [Value.ownBlock] at hk
/-- A growth of one row of the call's own keeps all that lay below. -/
theorem below_grown {B : Nat} {a w w' : World} {v : Value} (h : Below B a w) (hg : w.grownBy w' v.ownBlock) (hB : B ≤ w.heap.size) (hv : From B v) : Below B a w' := h.grown hg hB hv

theorem run_append_moved {P : Program} {w : World} (t ty e : TypeId) (i : TypeInfo) (z : Value) (size bytes : Nat) (ht : P.underlying t = some (.slice e)) (hi : P.info? e = some i) (hz : i.zero = some z)
    (hsize : i.size = size) (hby : i.bytes = bytes) (hzs : z.cells.size = size) (hsz : 0 < size)
    (v : Value) (n : Nat) (xs : List Value) (hown : w.ownsRow 0 e size v n xs)
    (a : Addr) (m c : Nat) (news : List Value) (hl : news.length = m * size) (hnews : ∀ j u, news[j]? = some u → w.cell? (a.add j) = some u) (h1 : ∀ u ∈ news, u.oneCell' = true)
    (h63 : n + m ≤ maxLen) (hbytes : (n + m) * bytes ≤ 140737488355328) :
    ∃ v' w', (Builtin.append_ #[t, t] ty #[v, .slice (some a) m c]).run P w = .ok v' w' ∧ w'.ownsRow 0 e size v' (n + m) (xs ++ news) ∧ w.grownBy w' v.ownBlock ∧ Moved w v v' := by
  obtain ⟨v', w', hr, ho, hg, hn⟩ := run_append_own (P := P) w 0 t ty e i z size bytes ht hi hz hsize hby hzs hsz v n xs hown a m c news hl hnews h1 h63 hbytes (Nat.zero_le _)
  refine ⟨v', w', hr, ho, hg, ?_⟩
  subst hsize
  rcases hown.2 with ⟨hv, hn0⟩ | ⟨g, cap, cur, hv, hbg, hgg, hnc, hcm, hcs, htake⟩
  · obtain ⟨v2, w2, hr2, ho2, _⟩ := run_append_own (P := P) w w.heap.size t ty e i z i.size bytes ht hi hz rfl hby hzs hsz v n xs ⟨hown.1, .inl ⟨hv, hn0⟩⟩ a m c news hl hnews h1 h63 hbytes (Nat.le_refl _)
    rw [hr] at hr2
    cases hr2
    exact .inr fun k hk => (ho2.lt k hk).1
  · by_cases hroom : n + m ≤ cap
    · have hfit : n * i.size + news.length ≤ cur.size := by rw [hl, hcs, ← Nat.add_mul]; exact Nat.mul_le_mul_right _ hroom
      have hr2 := run_append_room (P := P) w t ty e i ht hi g n cap cur hgg a m c news hl hnews h1 hroom hfit
      rw [hv] at hr ⊢
      rw [hr2] at hr
      cases hr
      exact .inl rfl
    · subst hv
      have holds : ∀ j u, xs[j]? = some u → w.cell? ((⟨g, 0, none⟩ : Addr).add j) = some u := hown.cells (g := g) rfl
      subst hby
      have hr2 := run_append_grow (P := P) w t ty e i z ht hi hz ⟨g, 0, none⟩ n cap xs hown.1 holds a m c news hl hnews (by omega) (by simp only [maxLen] at h63; omega) (growslice_fits (by omega) hbytes)
      rw [hr2] at hr
      cases hr
      exact .inr fun k hk => by simp [Value.ownBlock] at hk; omega

theorem wpList_append_moved {P : Program} {w : World} {ops : Array Oper} {rest : List Oper} {o : Oper} {a : Act} {Q : Exit → Act → World → Prop} (hgd : o.guard = none) (s x : Operand) (t : TypeId)
    (ho : o.op = .call { callee := .builtin .append, args := #[s, x], argTypes := #[t, t] })
    (e : TypeId) (i : TypeInfo) (z : Value) (size bytes : Nat) (ht : P.underlying t = some (.slice e)) (hi : P.info? e = some i) (hz : i.zero = some z)
    (hsize : i.size = size) (hby : i.bytes = bytes) (hzs : z.cells.size = size) (hsz : 0 < size)
    (v : Value) (n : Nat) (xs : List Value) (hs : a.eval s = v) (hown : w.ownsRow 0 e size v n xs)
    (ad : Addr) (m c : Nat) (news : List Value) (hx : a.eval x = .slice (some ad) m c) (hl : news.length = m * size) (hnews : ∀ j u, news[j]? = some u → w.cell? (ad.add j) = some u) (h1 : ∀ u ∈ news, u.oneCell' = true)
    (h63 : n + m ≤ maxLen) (hbytes : (n + m) * bytes ≤ 140737488355328)
    (h : ∀ v' w', w'.ownsRow 0 e size v' (n + m) (xs ++ news) → w.grownBy w' v.ownBlock → Moved w v v' → wpList P ops Q rest (a.put o.dst v') w') : wpList P ops Q (o :: rest) a w := by
  refine wpList_plain hgd fun _ hK => ?_
  obtain ⟨v', w', hr, h2, h3, h4⟩ := run_append_moved (P := P) (w := w) t o.type e i z size bytes ht hi hz hsize hby hzs hsz v n xs hown ad m c news hl hnews h1 h63 hbytes
  unfold Oper.wp execOp
  simp only [ho, resolve, invoke, builtin, Sem.run_bind, Sem.run_pure, Result.andThen_ok, List.map_toArray, List.map_cons, List.map_nil, hs, hx, hr]
  exact hK _ _ (h v' w' h2 h3 h4)


/-- Bytes as cells. -/
def encB (l : List Nat) : List Value := l.map fun b => .int .u8 (b : Nat)
theorem encB_length (l : List Nat) : (encB l).length = l.length := by simp [encB]
theorem encB_append (l m : List Nat) : encB (l ++ m) = encB l ++ encB m := by simp [encB]
theorem encB_oneCell (l : List Nat) : ∀ u ∈ encB l, u.oneCell' = true := by
  intro u h
  simp only [encB, List.mem_map] at h
  obtain ⟨b, _, rfl⟩ := h
  rfl
theorem encB_get {l : List Nat} {i x : Nat} (h : l[i]? = some x) : (encB l)[i]? = some (.int .u8 (x : Nat)) := by simp [encB, h]
/-- The value v owns the bytes l. -/
def OwnB (w : World) (v : Value) (l : List Nat) : Prop := w.ownsRow 0 5 1 v l.length (encB l)
theorem OwnB.nil (w : World) : OwnB w (.slice none 0 0) [] := World.ownsRow_nil w 0 5 1
theorem OwnB.kept {w w' : World} {v : Value} {xs : List Nat} {row : Option Nat} (h : OwnB w v xs) (hg : w.grownBy w' row) (hne : v.ownBlock = none ∨ v.ownBlock ≠ row) : OwnB w' v xs := World.ownsRow.kept h hg hne
theorem OwnB.later {w w' : World} {v : Value} {xs : List Nat} (h : OwnB w v xs) (hb : Below w.heap.size w w') : OwnB w' v xs :=
  h.kept (row := none) ⟨hb.os, hb.tape, hb.output, hb.size, fun k hk _ => hb.block k hk⟩ (by rcases hv : v.ownBlock with _ | k <;> simp)

theorem conv_bytes (w : World) (b off len cap : Nat) (l : List Nat) (hl : l.length = len) (hcell : ∀ i x, l[i]? = some x → w.cell? ⟨b, off + i, none⟩ = some (.int .u8 (x : Nat))) :
    (convert 47 9 (.slice (some ⟨b, off, none⟩) len cap)).run Tryd.prog w = .ok (.string (str l)) w := by
  have h := run_convert_bytes_arg (P := Tryd.prog) w 47 5 Tryd.underlying47 Tryd.underlying5 b off len cap (l.map fun x => ((x : Nat) : Int)) (by simpa using hl) (fun i hi => by
    have hx : l[i]? = some l[i] := List.getElem?_eq_getElem (by omega)
    rw [hcell i _ hx]
    simp [List.getD, hx]) 9 Tryd.underlying9
  rw [h]
  congr 2
  apply ByteArray.ext
  simp [strOfNums, str, Function.comp_def]
theorem conv_nil (w : World) (n c : Nat) : (convert 47 9 (.slice none n c)).run Tryd.prog w = .ok (.string (str [])) w :=
  run_convert_bytes_nil (P := Tryd.prog) w 47 5 Tryd.underlying47 Tryd.underlying5 n c 9 Tryd.underlying9
theorem OwnB.conv {w : World} {v : Value} {l : List Nat} (h : OwnB w v l) : (convert 47 9 v).run Tryd.prog w = .ok (.string (str l)) w := by
  rcases id h with ⟨hl, ⟨hv, hn⟩ | ⟨g, cap, cur, hv, hbg, hgg, hnc, hcm, hcs, htake⟩⟩
  · have : l = [] := List.eq_nil_of_length_eq_zero hn
    subst this; subst hv
    exact conv_nil w 0 0
  · subst hv
    refine conv_bytes w g 0 _ _ l rfl fun i x hx => ?_
    have hi : i < l.length := (List.getElem?_eq_some_iff.1 hx).1
    have := World.ownsRow.cellAt (w := w) (base := 0) (e := 5) (size := 1) (g := g) (n := l.length) (cap := cap) (xs := encB l) h i (by omega)
    rw [Nat.zero_add, this, encB_get hx]
theorem info5 : (Tryd.prog.info? 5).map (fun i => (i.zero, i.size, i.bytes)) = some (some (.int .u8 0), 1, 1) := by kernel_rfl
theorem info_parts {t : TypeId} {z : Option Value} {s b : Nat} (h : (Tryd.prog.info? t).map (fun i => (i.zero, i.size, i.bytes)) = some (z, s, b)) : ∃ i, Tryd.prog.info? t = some i ∧ i.zero = z ∧ i.size = s ∧ i.bytes = b := by
  cases hi : Tryd.prog.info? t with
  | none => simp [hi] at h
  | some i => simp [hi] at h; exact ⟨i, rfl, h.1, h.2.1, h.2.2⟩
theorem cells_one {w : World} {a : Addr} {u : Value} (h : w.cell? (a.add 0) = some u) : ∀ j x, ([u] : List Value)[j]? = some x → w.cell? (a.add j) = some x := by
  intro j x hx
  cases j with
  | zero => simp at hx; subst hx; exact h
  | succ j => simp at hx

theorem one_oneCell (k : IntKind) (n : Int) : ∀ u ∈ [Value.int k n], u.oneCell' = true := by
  intro u hu
  rw [List.mem_singleton.1 hu]
  rfl
theorem div256 (c k : Nat) : c / 256 ^ k / 256 = c / 256 ^ (k + 1) := by rw [Nat.div_div_eq_div_mul, ← Nat.pow_succ]
theorem low_four (c : Nat) : low c 4 = four c := by
  simp [low, four, List.range_succ]
set_option maxHeartbeats 1000000 in
theorem rfour_any (c : Nat) (hc : c < 4294967296) (w : World) :
    Calls Tryd.prog 25 #[.int .u32 (c : Nat)] w fun e w' => e = .returned (.string (str (four c))) ∧ Below w.heap.size w w' := by
  obtain ⟨i0, hi, hz0, hz1, hz2⟩ := info_parts info5
  have HLF := hide (low_four c)
  go_enter Tryd.func25, Tryd.ntmps25
  go_wp2
  go_loopw [0, 3, 4] (fun x v i wr => ∃ k : Nat, k ≤ 4 ∧ i = .int .i64 k ∧ x = .int .u32 (c / 256 ^ k : Nat) ∧ OwnB wr v (low c k) ∧ From w.heap.size v ∧ Below w.heap.size w wr) (fun _ _ i _ => 4 - (intOf i).toNat)
  case atStart => exact ⟨0, Nat.zero_le _, rfl, by simp, OwnB.nil _, From.nil _ _ _, Below.refl _ _⟩
  case round =>
    obtain ⟨k, hk, rfl, rfl, hown, hfrom, hbr⟩ := hrel
    by_cases hlt : k < 4
    · have HD := hide (div256 c k)
      have HS := hide (low_succ c k)
      have hll : (low c k).length = k := by simp [low]
      have hxl : c / 256 ^ k < 4294967296 := Nat.lt_of_le_of_lt (Nat.div_le_self _ _) hc
      generalize c / 256 ^ k = X at *
      have hkk : ∀ o, (wr.alloc o).ownsRow 0 5 1 u3 (low c k).length (encB (low c k)) := fun o => hown.later (below_alloc _ _)
      go_wp2_with (at_builtin; refine wpList_append_moved rfl (.tmp 9) (.tmp 13) 47 rfl 5 i0 _ 1 1 Tryd.underlying47 hi hz0 hz1 hz2 rfl (by decide) _ _ _ rfl (hkk _) ⟨wr.heap.size, 0, none⟩ 1 1 [.int .u8 ((X : Int) % 256)] rfl rfl (cell_one_new _ _ _) (one_oneCell _ _) (by unfold maxLen; omega) (by omega) ?_; intro v' w' h1 h2 h3)
      have R2 := hide (below_grown (hbr.trans ((below_alloc _ _).mono hbr.size)) h2 (by have := hbr.size; simp; omega) hfrom)
      have R3 := hide (hfrom.moved h3 (by have := hbr.size; simp; omega))
      have R4 : Hid (OwnB w' v' (low c (k + 1))) := by
        show OwnB w' v' _
        unfold OwnB
        rw [HS.out, encB_append, List.length_append]
        simpa [encB] using h1
      clear h1 h2 h3 hkk hll
      go_wp2
      go_roundw
      case rel => exact ⟨k + 1, by omega, by go_num, by rw [← HD.out]; go_num, R4.out, R3.out, R2.out⟩
      case measure => simp [intOf]; omega
    · obtain rfl : k = 4 := by omega
      have hcv := hown.conv
      rw [HLF.out] at hcv
      go_wp2
      go_ret
      exact ⟨rfl, hbr⟩

end Cr
end Go.Proofs.YtjopjffecnflkaaDoor
