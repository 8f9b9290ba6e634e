/- The document's bucket in memory. -/
import Derived.Test.YthnhapjjgaicdaaMg
import Derived.Test.YthnhapjjgaicdaaWt
namespace Go.Proofs.Ythnhapjjgaicdaa
open Go.RowKit
namespace Wi

def encI (l : List Int) : List Value := l.map fun x => .int .i64 x
def encK (c : Ch) : List Value := [.bool c.1, .string c.2.1, .string c.2.2]
def encKs (l : List Ch) : List Value := l.flatMap encK
theorem encKs_length (l : List Ch) : (encKs l).length = l.length * 3 := flat_len (k := 3) l fun _ _ => rfl
theorem encKs_append (l m : List Ch) : encKs (l ++ m) = encKs l ++ encKs m := List.flatMap_append
theorem encI_append (l m : List Int) : encI (l ++ m) = encI l ++ encI m := List.map_append
theorem encI_length (l : List Int) : (encI l).length = l.length := List.length_map ..
theorem encK_one (c : Ch) : ∀ u ∈ encK c, u.oneCell' = true := by
  intro u hu
  simp only [encK, List.mem_cons, List.not_mem_nil, or_false] at hu
  rcases hu with rfl | rfl | rfl <;> rfl
theorem encI_one (l : List Int) : ∀ u ∈ encI l, u.oneCell' = true := by
  intro u hu
  obtain ⟨o, _, rfl⟩ := List.mem_map.1 hu
  rfl
theorem encI_drop (l : List Int) (k : Nat) : (encI l).drop k = encI (l.drop k) := by simp [encI, List.map_drop]
theorem encKs_drop (l : List Ch) (k : Nat) (hk : k ≤ l.length) : (encKs l).drop (k * 3) = encKs (l.drop k) := by
  have e : encKs l = encKs (l.take k) ++ encKs (l.drop k) := by rw [← encKs_append, List.take_append_drop]
  have hl : (encKs (l.take k)).length = k * 3 := by rw [encKs_length, List.length_take, Nat.min_eq_left hk]
  rw [e, ← hl, List.drop_left]
structure RawD (w : World) (b : Nat) (ov fv lv : Value) (quota : Int) (objs : List Ob) (fates : List Int) (late : List Ch) : Prop where
  blk : w.heap[b]? = some (.cells #[ov, .int .i64 quota, fv, lv] 34 (0, 0))
  os : Rw w 73 2 ov objs.length (encOs objs)
  fs : Rw w 3 1 fv fates.length (encI fates)
  ls : Rw w 88 3 lv late.length (encKs late)
  no : ov.ownBlock ≠ some b
  nf : fv.ownBlock ≠ some b
  nl : lv.ownBlock ≠ some b
  nof : ∀ k, ov.ownBlock = some k → fv.ownBlock ≠ some k
  nol : ∀ k, ov.ownBlock = some k → lv.ownBlock ≠ some k
  nfl : ∀ k, fv.ownBlock = some k → lv.ownBlock ≠ some k
section
variable {w w' : World} {b : Nat} {ov fv lv : Value} {quota : Int} {objs : List Ob} {fates : List Int} {late : List Ch}
theorem RawD.lt (h : RawD w b ov fv lv quota objs fates late) : b < w.heap.size := lt_of_block h.blk
theorem RawD.c (h : RawD w b ov fv lv quota objs fates late) : w.cell? ⟨b, 0, none⟩ = some ov ∧ w.cell? ⟨b, 1, none⟩ = some (.int .i64 quota) ∧ w.cell? ⟨b, 2, none⟩ = some fv ∧ w.cell? ⟨b, 3, none⟩ = some lv :=
  ⟨by rw [cell_of_row w b 0 _ _ _ h.blk]; rfl, by rw [cell_of_row w b 1 _ _ _ h.blk]; rfl, by rw [cell_of_row w b 2 _ _ _ h.blk]; rfl, by rw [cell_of_row w b 3 _ _ _ h.blk]; rfl⟩
theorem RawD.fr (h : RawD w b ov fv lv quota objs fates late) (i : Nat) : w.frozen? ⟨b, i, none⟩ = false := frozen_of_row w _ _ _ _ h.blk
theorem RawD.keep {X : Nat → Prop} (h : RawD w b ov fv lv quota objs fates late) (k : Keep X w w') (hx : ∀ i, xB b ov fv lv i → ¬ X i) : RawD w' b ov fv lv quota objs fates late :=
  ⟨(k.block b h.lt (hx b (.inl rfl))).trans h.blk, h.os.keep k fun i hi => hx i (.inr (.inl hi)), h.fs.keep k fun i hi => hx i (.inr (.inr (.inl hi))), h.ls.keep k fun i hi => hx i (.inr (.inr (.inr hi))), h.no, h.nf, h.nl, h.nof, h.nol, h.nfl⟩
theorem RawD.later (h : RawD w b ov fv lv quota objs fates late) (hb : Below w.heap.size w w') : RawD w' b ov fv lv quota objs fates late :=
  h.keep (X := fun _ => False) (Keep.of_below hb) fun _ _ => id
theorem RawD.xlt (h : RawD w b ov fv lv quota objs fates late) : ∀ k, xB b ov fv lv k → k < w.heap.size := fun k hk => by
  rcases hk with rfl | hk | hk | hk
  · exact h.lt
  · exact h.os.lt k hk
  · exact h.fs.lt k hk
  · exact h.ls.lt k hk
/-- Other objects, in new memory, and the store of their slice. -/
theorem RawD.newObjs (h : RawD w b ov fv lv quota objs fates late) {objs' : List Ob} {v : Value} (hb : Below w.heap.size w w') (hr : Rw w' 73 2 v objs'.length (encOs objs')) (hf : From w.heap.size v) : RawD (w'.setCell ⟨b, 0, none⟩ v) b v fv lv quota objs' fates late ∧ Keep (xB b ov fv lv) w (w'.setCell ⟨b, 0, none⟩ v) ∧ ∀ k, xB b v fv lv k → xB b ov fv lv k ∨ w.heap.size ≤ k := by
  have hl := h.lt
  have hne : v.ownBlock ≠ some b := fun e => by have := hf b e; omega
  have k := Keep.setCell (X := fun j => j = b) w' ⟨b, 0, none⟩ v rfl
  have h' := h.later hb
  refine ⟨⟨setCell_blk h'.blk _, hr.keep k fun i hi e => hne (e ▸ hi), h'.fs.keep k fun i hi e => h.nf (e ▸ hi), h'.ls.keep k fun i hi e => h.nl (e ▸ hi), hne, h.nf, h.nl, fun i hi e => ?_, fun i hi e => ?_, h.nfl⟩, ?_, fun i hi => ?_⟩
  · have h1 := hf i hi
    have h2 := h.fs.lt i e
    omega
  · have h1 := hf i hi
    have h2 := h.ls.lt i e
    omega
  · exact (Keep.of_below (X := xB b ov fv lv) hb).trans (Keep.setCell (X := xB b ov fv lv) w' _ _ (.inl rfl)) fun _ _ e => e
  · rcases hi with e | e | e | e
    · exact .inl (.inl e)
    · exact .inr (hf i e)
    · exact .inl (.inr (.inr (.inl e)))
    · exact .inl (.inr (.inr (.inr e)))
/-- Other fates, in the same memory. -/
theorem RawD.setFates (h : RawD w b ov fv lv quota objs fates late) {fates' : List Int} {v : Value} (hf : Rw w 3 1 v fates'.length (encI fates')) (ho : v.ownBlock = fv.ownBlock) : RawD (w.setCell ⟨b, 2, none⟩ v) b ov v lv quota objs fates' late := by
  have k := Keep.setCell (X := fun j => j = b) w ⟨b, 2, none⟩ v rfl
  exact ⟨setCell_blk h.blk _, h.os.keep k fun i hi e => h.no (e ▸ hi), hf.keep k fun i hi e => h.nf (by rw [← ho, hi, e]), h.ls.keep k fun i hi e => h.nl (e ▸ hi), h.no, by rw [ho]; exact h.nf, h.nl, by rw [ho]; exact h.nof, h.nol, by rw [ho]; exact h.nfl⟩
/-- Other late calls, in the same memory. -/
theorem RawD.setLate (h : RawD w b ov fv lv quota objs fates late) {late' : List Ch} {v : Value} (hf : Rw w 88 3 v late'.length (encKs late')) (ho : v.ownBlock = lv.ownBlock) : RawD (w.setCell ⟨b, 3, none⟩ v) b ov fv v quota objs fates late' := by
  have k := Keep.setCell (X := fun j => j = b) w ⟨b, 3, none⟩ v rfl
  exact ⟨setCell_blk h.blk _, h.os.keep k fun i hi e => h.no (e ▸ hi), h.fs.keep k fun i hi e => h.nf (e ▸ hi), hf.keep k fun i hi e => h.nl (by rw [← ho, hi, e]), h.no, h.nf, by rw [ho]; exact h.nl, h.nof, by rw [ho]; exact h.nol, by rw [ho]; exact h.nfl⟩
/-- Other fates, and the store of their slice. -/
theorem RawD.putFates (h : RawD w b ov fv lv quota objs fates late) {fates' : List Int} {v : Value} (hg : Grew w 3 1 fv fates'.length (encI fates') w' v) : RawD (w'.setCell ⟨b, 2, none⟩ v) b ov v lv quota objs fates' late ∧ Keep (xB b ov fv lv) w (w'.setCell ⟨b, 2, none⟩ v) ∧ ∀ k, xB b ov v lv k → xB b ov fv lv k ∨ w.heap.size ≤ k := by
  have hne : v.ownBlock ≠ some b := apart_moved h.nf hg.moved h.lt
  have k := Keep.setCell (X := fun j => j = b) w' ⟨b, 2, none⟩ v rfl
  have hblk := (hg.keep.block b h.lt h.nf).trans h.blk
  refine ⟨⟨setCell_blk hblk _, (h.os.keep hg.keep fun i hi e => h.nof i hi e).keep k fun i hi e => h.no (e ▸ hi), hg.row.keep k fun i hi e => hne (e ▸ hi), (h.ls.keep hg.keep fun i hi e => h.nfl i e hi).keep k fun i hi e => h.nl (e ▸ hi), h.no, hne, h.nl, fun i hi => apart_moved (h.nof i hi) hg.moved (h.os.lt i hi), h.nol, fun i hi hf => apart_moved (fun e => h.nfl i e hf) hg.moved (h.ls.lt i hf) hi⟩, ?_, fun i hi => ?_⟩
  · refine Keep.trans (X := xB b ov fv lv) ⟨hg.keep.os, hg.keep.tape, hg.keep.output, hg.keep.size, fun i hi hn => hg.keep.block i hi fun e => hn (.inr (.inr (.inl e)))⟩ (Keep.setCell (X := xB b ov fv lv) w' _ _ (.inl rfl)) fun _ _ e => e
  · rcases hi with e | e | e | e
    · exact .inl (.inl e)
    · exact .inl (.inr (.inl e))
    · rcases hg.moved with hm | hm
      · exact .inl (.inr (.inr (.inl (hm ▸ e))))
      · exact .inr (hm i e)
    · exact .inl (.inr (.inr (.inr e)))
/-- Other late calls, and the store of their slice. -/
theorem RawD.putLate (h : RawD w b ov fv lv quota objs fates late) {late' : List Ch} {v : Value} (hg : Grew w 88 3 lv late'.length (encKs late') w' v) : RawD (w'.setCell ⟨b, 3, none⟩ v) b ov fv v quota objs fates late' ∧ Keep (xB b ov fv lv) w (w'.setCell ⟨b, 3, none⟩ v) ∧ ∀ k, xB b ov fv v k → xB b ov fv lv k ∨ w.heap.size ≤ k := by
  have hne : v.ownBlock ≠ some b := apart_moved h.nl hg.moved h.lt
  have k := Keep.setCell (X := fun j => j = b) w' ⟨b, 3, none⟩ v rfl
  have hblk := (hg.keep.block b h.lt h.nl).trans h.blk
  refine ⟨⟨setCell_blk hblk _, (h.os.keep hg.keep fun i hi e => h.nol i hi e).keep k fun i hi e => h.no (e ▸ hi), (h.fs.keep hg.keep fun i hi e => h.nfl i hi e).keep k fun i hi e => h.nf (e ▸ hi), hg.row.keep k fun i hi e => hne (e ▸ hi), h.no, h.nf, hne, h.nof, fun i hi => apart_moved (h.nol i hi) hg.moved (h.os.lt i hi), fun i hi => apart_moved (h.nfl i hi) hg.moved (h.fs.lt i hi)⟩, ?_, fun i hi => ?_⟩
  · refine Keep.trans (X := xB b ov fv lv) ⟨hg.keep.os, hg.keep.tape, hg.keep.output, hg.keep.size, fun i hi hn => hg.keep.block i hi fun e => hn (.inr (.inr (.inr e)))⟩ (Keep.setCell (X := xB b ov fv lv) w' _ _ (.inl rfl)) fun _ _ e => e
  · rcases hi with e | e | e | e
    · exact .inl (.inl e)
    · exact .inl (.inr (.inl e))
    · exact .inl (.inr (.inr (.inl e)))
    · rcases hg.moved with hm | hm
      · exact .inl (.inr (.inr (.inr (hm ▸ e))))
      · exact .inr (hm i e)
end
/-- The document's bucket, and its blocks: fates are told as they came. -/
def refT (b : Nat) (d : Bk) : Th := fun w X => ∃ ov fv lv fs, RawD w b ov fv lv (d.quota : Nat) d.objs fs d.late ∧ fs.map fateOf = d.fates ∧ (∀ x ∈ fs, Num x) ∧ d.Ok ∧ X = xB b ov fv lv
theorem refT_good (b : Nat) (d : Bk) : (refT b d).Good :=
  ⟨fun ⟨ov, fv, lv, fs, h, h1, h2, h3, e⟩ k hx => ⟨ov, fv, lv, fs, h.keep k (by rw [← e]; exact hx), h1, h2, h3, e⟩, fun ⟨_, _, _, _, h, _, _, _, e⟩ => by rw [e]; exact h.xlt⟩
theorem refT.ok {b : Nat} {d : Bk} {w : World} {X : Nat → Prop} (h : refT b d w X) : d.Ok := let ⟨_, _, _, _, _, _, _, h, _⟩ := h; h
/-- An object's cells. -/
theorem rob_cells {w : World} {g off cap : Nat} {objs : List Ob} (h : Rw w 73 2 (.slice (some ⟨g, off, none⟩) objs.length cap) objs.length (encOs objs)) {i : Nat} {o : Ob} (hi : objs[i]? = some o) : w.cell? ⟨g, off + i * 2, none⟩ = some (.string o.1) ∧ w.cell? ⟨g, off + i * 2 + 1, none⟩ = some (.string o.2) := by
  have hp := flat_part (f := encO) (k := 2) objs i o (fun _ _ => rfl) hi
  have h0 : (encOs objs)[i * 2]? = some (.string o.1) := by
    have : ((encOs objs).drop (i * 2)).take 2 = encO o := hp
    have e := congrArg (fun l : List Value => l[0]?) this
    simpa [encO] using e
  have h1 : (encOs objs)[i * 2 + 1]? = some (.string o.2) := by
    have : ((encOs objs).drop (i * 2)).take 2 = encO o := hp
    have e := congrArg (fun l : List Value => l[1]?) this
    simpa [encO] using e
  exact ⟨(h.cell h0).1, (h.cell h1).1⟩
theorem rch_cells {w : World} {g off cap : Nat} {late : List Ch} (h : Rw w 88 3 (.slice (some ⟨g, off, none⟩) late.length cap) late.length (encKs late)) {i : Nat} {c : Ch} (hi : late[i]? = some c) : w.cell? ⟨g, off + i * 3, none⟩ = some (.bool c.1) ∧ w.cell? ⟨g, off + i * 3 + 1, none⟩ = some (.string c.2.1) ∧ w.cell? ⟨g, off + i * 3 + 2, none⟩ = some (.string c.2.2) := by
  have hp : ((encKs late).drop (i * 3)).take 3 = encK c := flat_part (f := encK) (k := 3) late i c (fun _ _ => rfl) hi
  have h0 : (encKs late)[i * 3]? = some (.bool c.1) := by
    have e := congrArg (fun l : List Value => l[0]?) hp
    simpa [encK] using e
  have h1 : (encKs late)[i * 3 + 1]? = some (.string c.2.1) := by
    have e := congrArg (fun l : List Value => l[1]?) hp
    simpa [encK] using e
  have h2 : (encKs late)[i * 3 + 2]? = some (.string c.2.2) := by
    have e := congrArg (fun l : List Value => l[2]?) hp
    simpa [encK] using e
  exact ⟨(h.cell h0).1, (h.cell h1).1, (h.cell h2).1⟩

end Wi
end Go.Proofs.Ythnhapjjgaicdaa
