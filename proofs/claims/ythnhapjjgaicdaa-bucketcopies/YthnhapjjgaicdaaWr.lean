/- Package bucket: fates are told, late calls land or are dropped. -/
import Derived.Test.YthnhapjjgaicdaaWq
namespace Go.Proofs.Ythnhapjjgaicdaa
open Go.RowKit
namespace Wi

/-- The numbers of a slice that is handed in. -/
structure Is (w : World) (X : Nat → Prop) (a : Option Addr) (n : Nat) (l : List Int) : Prop where
  len : n = l.length
  most : n ≤ 9223372036854775807
  num : ∀ x ∈ l, Num x
  cells : ∀ i x, l[i]? = some x → ∃ g off, a = some ⟨g, off, none⟩ ∧ g < w.heap.size ∧ ¬ X g ∧ w.cell? ⟨g, off + i, none⟩ = some (.int .i64 x)
def fateOf (x : Int) : Nat := (x % 4).toNat
theorem fateOf_lt (x : Int) : fateOf x < 4 := by unfold fateOf; omega
def Bk.tell (d : Bk) (l : List Int) : Bk := { d with fates := d.fates ++ l.map fateOf }
theorem Bk.Ok.tell {d : Bk} (h : d.Ok) (l : List Int) : (d.tell l).Ok := ⟨h.rise, h.room, h.most, fun x hx => by
  rcases List.mem_append.1 hx with h1 | h1
  · exact h.fate x h1
  · obtain ⟨y, _, rfl⟩ := List.mem_map.1 h1
    exact fateOf_lt y, h.late⟩
theorem info3 : (Try.prog.info? 3).map (fun i => (i.zero, i.size, i.bytes)) = some (some (.int .i64 0), 1, 8) := by kernel_rfl
theorem rest4 (x : Int) : ∃ r : Int, x.tmod 4 = r ∧ -3 ≤ r ∧ r ≤ 3 ∧ (r + 4) % 4 = (fateOf x : Int) := by
  refine ⟨x.tmod 4, rfl, ?_⟩
  unfold fateOf
  rw [Int.tmod_eq_emod]
  split <;> omega
/-- Other fates, and the store of their slice. -/
theorem RawB.putFates {w w' : World} {b : Nat} {ov fv lv : Value} {used quota : Int} {objs : List Ob} {fates : List Nat} {late : List Ch} (h : RawB w b ov fv lv used quota objs fates late) {fates' : List Nat} {v : Value} (hg : Grew w 3 1 fv fates'.length (encF fates') w' v) : RawB (w'.setCell ⟨b, 3, none⟩ v) b ov v lv used quota objs fates' late ∧ Keep (xB b ov fv lv) w (w'.setCell ⟨b, 3, none⟩ v) ∧ ∀ k, xB b ov v lv k → xB b ov fv lv k ∨ w.heap.size ≤ k := by
  have hne : v.ownBlock ≠ some b := apart_moved h.nf hg.moved h.lt
  have k := Keep.setCell (X := fun j => j = b) w' ⟨b, 3, none⟩ v rfl
  have hblk := (hg.keep.block b h.lt h.nf).trans h.blk
  refine ⟨⟨setCell_blk hblk _, (h.os.keep hg.keep fun i hi e => h.nof i hi e).keep k fun i hi e => h.no (e ▸ hi), hg.row.keep k fun i hi e => hne (e ▸ hi), (h.ls.keep hg.keep fun i hi e => h.nfl i e hi).keep k fun i hi e => h.nl (e ▸ hi), h.no, hne, h.nl, fun i hi => apart_moved (h.nof i hi) hg.moved (h.os.lt i hi), h.nol, fun i hi hf => apart_moved (fun e => h.nfl i e hf) hg.moved (h.ls.lt i hf) hi⟩, ?_, fun i hi => ?_⟩
  · refine Keep.trans (X := xB b ov fv lv) ⟨hg.keep.os, hg.keep.tape, hg.keep.output, hg.keep.size, fun i hi hn => hg.keep.block i hi fun e => hn (.inr (.inr (.inl e)))⟩ (Keep.setCell (X := xB b ov fv lv) w' _ _ (.inl rfl)) fun _ _ e => e
  · rcases hi with e | e | e | e
    · exact .inl (.inl e)
    · exact .inl (.inr (.inl e))
    · rcases hg.moved with hm | hm
      · exact .inl (.inr (.inr (.inl (hm ▸ e))))
      · exact .inr (hm i e)
    · exact .inl (.inr (.inr (.inr e)))
theorem tell_snoc {d : Bk} {l : List Int} {k : Nat} {x : Int} (h : l[k]? = some x) : d.tell (l.take (k + 1)) = { d with fates := (d.fates ++ (l.take k).map fateOf) ++ [fateOf x] } := by
  unfold Bk.tell
  rw [snoc_take _ _ _ h, List.map_append, ← List.append_assoc]
  rfl
theorem grown_cell {w w2 : World} {o : Obj} {b i : Nat} {v u : Value} (h : w.cell? ⟨b, i, none⟩ = some u) (hb : b < w.heap.size) (hne : v.ownBlock ≠ some b) (hg : (w.alloc o).grownBy w2 v.ownBlock) : w2.cell? ⟨b, i, none⟩ = some u := by
  rw [← h, World.cell?_of_block (w := w.alloc o) (hg.block b (by simp; omega) fun e => hne e.symm)]
  exact (below_alloc w o).cell hb
theorem grown_free {w w2 : World} {o : Obj} {b i : Nat} {v : Value} (h : w.frozen? ⟨b, i, none⟩ = false) (hb : b < w.heap.size) (hne : v.ownBlock ≠ some b) (hg : (w.alloc o).grownBy w2 v.ownBlock) : w2.frozen? ⟨b, i, none⟩ = false := by
  rw [← h, World.frozen?_of_block (w := w.alloc o) (hg.block b (by simp; omega) fun e => hne e.symm)]
  exact (below_alloc w o).frozen hb
theorem fates_nil (v : Value) (w : World) : Calls Try.prog 27 #[.pointer none, v] w fun e w' => e = .returned (.tuple #[]) ∧ w' = w := by
  go_enter Try.func27, Try.ntmps27
  go_wp2
  (try simp only [Exit.inBlock, Exit.then])
  refine bodyPost_ret (results_none rfl _ _ _) rfl ?_
  exact ⟨rfl, rfl⟩
set_option maxHeartbeats 4000000 in
theorem fates_any {w : World} {b : Nat} {X : Nat → Prop} {d : Bk} (h : bkT b d w X) {a : Option Addr} {n cap : Nat} {l : List Int} (hI : Is w X a n l) (hf : d.fates.length + n ≤ 1000000) : Calls Try.prog 27 #[.pointer (some ⟨b, 0, none⟩), .slice a n cap] w fun e w' => e = .returned (.tuple #[]) ∧ LeftT (bkT b (d.tell l)) w X w' := by
  obtain ⟨i0, hi, hz0, hz1, hz2⟩ := info_parts info3
  have HL := hide hI.len
  have hok : d.Ok := by obtain ⟨_, _, _, h, _⟩ := h; exact h.ok
  have HS : Hid (LeftT (bkT b (d.tell (l.take 0))) w X w) := by
    have : d.tell (l.take 0) = d := by simp [Bk.tell]
    show LeftT _ _ _ _
    rw [this]
    exact LeftT.refl h
  have HX := hide ((bkT_good b d).lt h)
  clear h
  go_enter Try.func27, Try.ntmps27
  go_wp2
  go_loopw [10] (fun i wr => ∃ k : Nat, k ≤ n ∧ i = .int .i64 k ∧ LeftT (bkT b (d.tell (l.take k))) w X wr) (fun i _ => n - (intOf i).toNat)
  case atStart => exact ⟨0, Nat.zero_le _, rfl, HS.out⟩
  case round =>
    clear HS
    obtain ⟨k, hk, rfl, hLf⟩ := hrel
    by_cases hlt : k < n
    · obtain ⟨x, hx⟩ : ∃ x, l[k]? = some x := ⟨_, List.getElem?_eq_getElem (by have := HL.out; omega)⟩
      obtain ⟨m1, m2⟩ := hI.num x (List.mem_of_getElem? hx)
      obtain ⟨g, off, rfl, hgl, hgx, cx⟩ := hI.cells k x hx
      have HT := hide (tell_snoc (d := d) hx)
      obtain ⟨X2, ⟨ov, fv, lv, hA, rfl⟩, hk2, hm2⟩ := hLf
      have cx' := (keep_cell hk2 hgl hgx).trans cx
      have HK2 := hide hk2
      have HM2 := hide hm2
      have HA := hide hA
      have c3 := hA.raw.c.2.2.2.1
      have f3 := hA.raw.fr 3
      have lB := hA.raw.lt
      have nB := hA.raw.nf
      obtain ⟨r, hr, r1, r2, r3⟩ := rest4 x
      have hb3 := below_alloc wr (.cells #[.int .i64 (fateOf x : Nat)] 3)
      have hrow := hide (hA.raw.fs.later hb3)
      have HB3 := hide hb3
      have hlen : (d.tell (l.take k)).fates.length ≤ 1000000 - 1 := by
        show (d.fates ++ _).length ≤ _
        rw [List.length_append, List.length_map, List.length_take]
        omega
      have hmx : (d.tell (l.take k)).fates.length + 1 ≤ maxLen := by unfold maxLen; omega
      have hby : ((d.tell (l.take k)).fates.length + 1) * 8 ≤ 140737488355328 := by omega
      have HCN := hide (cell_one_new wr (.int .i64 (fateOf x : Nat)) 3)
      have HNX := hide (hok.tell (l.take (k + 1)))
      clear hx cx hk2 hm2 hA hb3
      generalize fateOf x = f at *
      go_wp2_with (at_builtin; refine wpList_append_rw rfl (.tmp 18) (.tmp 23) 31 rfl 3 i0 _ 1 8 Try.underlying31 hi hz0 hz1 hz2 rfl (by decide) _ _ _ rfl hrow.out ⟨wr.heap.size, 0, none⟩ 1 1 [.int .i64 (f : Nat)] rfl rfl HCN.out (one_oneCell _ _) hmx hby ?_; intro v2 w3 g1 g2 g3; obtain ⟨a2, n2, c2, rfl⟩ := g1.own_form; have cB2 := grown_cell c3 lB nB g2; have fB2 := grown_free f3 lB nB g2; replace g1 := hide g1; replace g2 := hide g2; replace g3 := hide g3)
      have HF : Hid (LeftT (bkT b (d.tell (l.take (k + 1)))) w X (w3.setCell ⟨b, 3, none⟩ (.slice a2 n2 c2))) := by
        have hG : Grew wr 3 1 fv ((d.fates ++ (l.take k).map fateOf) ++ [f]).length (encF ((d.fates ++ (l.take k).map fateOf) ++ [f])) w3 (.slice a2 n2 c2) := by
          refine ⟨by rw [encF_append, List.length_append]; exact g1.out, (Keep.of_below (X := fun k => fv.ownBlock = some k) HB3.out).trans (Keep.grown g2.out fun _ e => e) fun _ _ e => e, g3.out.imp id fun hf k hk => Nat.le_trans HB3.out.size (hf k hk)⟩
        obtain ⟨q1, q2, q3⟩ := HA.out.raw.putFates hG
        have ho := HNX.out
        rw [HT.out] at ho
        show LeftT _ _ _ _
        rw [HT.out]
        exact LeftT.trans HK2.out HM2.out ⟨_, ⟨ov, _, lv, ⟨q1, ho⟩, rfl⟩, q2, q3⟩
      clear g1 g2 g3
      go_roundw
      case rel => exact ⟨k + 1, by omega, by go_num, HF.out⟩
      case measure => simp [intOf]; omega
    · obtain rfl : k = n := by omega
      have HF : Hid (LeftT (bkT b (d.tell l)) w X wr) := by
        rw [HL.out, List.take_length] at hLf
        exact hLf
      clear hLf
      go_wp2
      go_end0
      exact ⟨rfl, HF.out⟩

end Wi
end Go.Proofs.Ythnhapjjgaicdaa
