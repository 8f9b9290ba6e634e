/- Package bucket: fates, and objects that are made and taken away. -/
import Derived.Test.YthnhapjjgaicdaaWj
namespace Go.Proofs.Ythnhapjjgaicdaa
open Go.RowKit
namespace Wi

structure BkAt (w : World) (b : Nat) (ov fv lv : Value) (d : Bk) : Prop where
  raw : RawB w b ov fv lv (total d.objs : Nat) (d.quota : Nat) d.objs d.fates d.late
  ok : d.Ok
def bkT (b : Nat) (d : Bk) : Th := fun w X => ∃ ov fv lv, BkAt w b ov fv lv d ∧ X = xB b ov fv lv
theorem bkT_good (b : Nat) (d : Bk) : (bkT b d).Good :=
  ⟨fun ⟨ov, fv, lv, h, e⟩ k hx => ⟨ov, fv, lv, ⟨h.raw.keep k (by rw [← e]; exact hx), h.ok⟩, e⟩, fun ⟨_, _, _, h, e⟩ => by rw [e]; exact h.raw.xlt⟩
/-- The bucket whose fates and late calls lie where they lay. -/
def oT (fv lv : Value) (b : Nat) (d : Bk) : Th := fun w X => ∃ ov, BkAt w b ov fv lv d ∧ X = xB b ov fv lv
theorem oT_good (fv lv : Value) (b : Nat) (d : Bk) : (oT fv lv b d).Good :=
  ⟨fun ⟨ov, h, e⟩ k hx => ⟨ov, ⟨h.raw.keep k (by rw [← e]; exact hx), h.ok⟩, e⟩, fun ⟨_, h, e⟩ => by rw [e]; exact h.raw.xlt⟩
theorem bkT.o {b : Nat} {d : Bk} {w : World} {X : Nat → Prop} (h : bkT b d w X) : ∃ fv lv, oT fv lv b d w X := let ⟨ov, fv, lv, h⟩ := h; ⟨fv, lv, ov, h⟩
theorem oT.bk {fv lv : Value} {b : Nat} {d : Bk} {w : World} {X : Nat → Prop} (h : oT fv lv b d w X) : bkT b d w X := let ⟨ov, h⟩ := h; ⟨ov, fv, lv, h⟩
theorem LeftT.bk {fv lv : Value} {b : Nat} {d : Bk} {w w' : World} {X : Nat → Prop} (h : LeftT (oT fv lv b d) w X w') : LeftT (bkT b d) w X w' := let ⟨X', h1, h2⟩ := h; ⟨X', h1.bk, h2⟩
theorem LeftT.refl {A : Th} {w : World} {X : Nat → Prop} (h : A w X) : LeftT A w X w := ⟨X, h, Keep.refl _ _, fun _ e => .inl e⟩
theorem LeftT.trans {B : Th} {w w1 w2 : World} {X X1 : Nat → Prop} (hk : Keep X w w1) (hm : ∀ k, X1 k → X k ∨ w.heap.size ≤ k) (h : LeftT B w1 X1 w2) : LeftT B w X w2 := by
  obtain ⟨X', h1, h2, h3⟩ := h
  refine ⟨X', h1, hk.trans h2 fun i hi e => ?_, fun k hx => ?_⟩
  · rcases hm i e with h | h
    · exact h
    · omega
  · rcases h3 k hx with h | h
    · exact hm k h
    · exact .inr (Nat.le_trans hk.size h)
section
variable {w w' : World} {b : Nat} {ov fv lv : Value} {used quota : Int} {objs : List Ob} {fates : List Nat} {late : List Ch}
theorem RawB.setUsed (h : RawB w b ov fv lv used quota objs fates late) (u : Int) : RawB (w.setCell ⟨b, 1, none⟩ (.int .i64 u)) b ov fv lv u quota objs fates late := by
  have k := Keep.setCell (X := fun j => j = b) w ⟨b, 1, none⟩ (.int .i64 u) rfl
  exact ⟨setCell_blk h.blk _, h.os.keep k fun i hi e => h.no (e ▸ hi), h.fs.keep k fun i hi e => h.nf (e ▸ hi), h.ls.keep k fun i hi e => h.nl (e ▸ hi), h.no, h.nf, h.nl, h.nof, h.nol, h.nfl⟩
/-- Other objects, and the store of their slice. -/
theorem RawB.putObjs (h : RawB w b ov fv lv used quota objs fates late) {objs' : List Ob} {v : Value} (hg : Grew w 76 2 ov objs'.length (encOs objs') w' v) : RawB (w'.setCell ⟨b, 0, none⟩ v) b v fv lv used quota objs' fates late ∧ Keep (xB b ov fv lv) w (w'.setCell ⟨b, 0, none⟩ v) ∧ ∀ k, xB b v fv lv k → xB b ov fv lv k ∨ w.heap.size ≤ k := by
  have hne : v.ownBlock ≠ some b := apart_moved h.no hg.moved h.lt
  have k := Keep.setCell (X := fun j => j = b) w' ⟨b, 0, none⟩ v rfl
  have hblk := (hg.keep.block b h.lt h.no).trans h.blk
  refine ⟨⟨setCell_blk hblk _, hg.row.keep k fun i hi e => hne (e ▸ hi), (h.fs.keep hg.keep fun i hi e => h.nof i e hi).keep k fun i hi e => h.nf (e ▸ hi), (h.ls.keep hg.keep fun i hi e => h.nol i e hi).keep k fun i hi e => h.nl (e ▸ hi), hne, h.nf, h.nl, fun i hi hf => apart_moved (fun e => h.nof i e hf) hg.moved (h.fs.lt i hf) hi, fun i hi hf => apart_moved (fun e => h.nol i e hf) hg.moved (h.ls.lt i hf) hi, h.nfl⟩, ?_, fun i hi => ?_⟩
  · refine Keep.trans (X := xB b ov fv lv) ⟨hg.keep.os, hg.keep.tape, hg.keep.output, hg.keep.size, fun i hi hn => hg.keep.block i hi fun e => hn (.inr (.inl e))⟩ (Keep.setCell (X := xB b ov fv lv) w' _ _ (.inl rfl)) fun _ _ e => e
  · rcases hi with e | e | e | e
    · exact .inl (.inl e)
    · rcases hg.moved with hm | hm
      · exact .inl (.inr (.inl (hm ▸ e)))
      · exact .inr (hm i e)
    · exact .inl (.inr (.inr (.inl e)))
    · exact .inl (.inr (.inr (.inr e)))
/-- Other fates, in the same memory. -/
theorem RawB.setFates (h : RawB w b ov fv lv used quota objs fates late) {fates' : List Nat} {v : Value} (hf : Rw w 3 1 v fates'.length (encF fates')) (ho : v.ownBlock = fv.ownBlock) : RawB (w.setCell ⟨b, 3, none⟩ v) b ov v lv used quota objs fates' late := by
  have k := Keep.setCell (X := fun j => j = b) w ⟨b, 3, none⟩ v rfl
  exact ⟨setCell_blk h.blk _, h.os.keep k fun i hi e => h.no (e ▸ hi), hf.keep k fun i hi e => h.nf (by rw [← ho, hi, e]), h.ls.keep k fun i hi e => h.nl (e ▸ hi), h.no, by rw [ho]; exact h.nf, h.nl, by rw [ho]; exact h.nof, h.nol, by rw [ho]; exact h.nfl⟩
end
theorem encF_drop (l : List Nat) (k : Nat) : (encF l).drop k = encF (l.drop k) := by simp [encF, List.map_drop]
theorem encLs_drop (l : List Ch) (k : Nat) (hk : k ≤ l.length) : (encLs l).drop (k * 3) = encLs (l.drop k) := by
  have e : encLs l = encLs (l.take k) ++ encLs (l.drop k) := by rw [← encLs_append, List.take_append_drop]
  have hl : (encLs (l.take k)).length = k * 3 := by rw [encLs_length, List.length_take, Nat.min_eq_left hk]
  rw [e, ← hl, List.drop_left]
theorem next_left {w : World} {b : Nat} {ov fv lv : Value} {d : Bk} (h : BkAt w b ov fv lv d) {v : Value} (hr : Rw w 3 1 v d.fates.tail.length (encF d.fates.tail)) (ho : v.ownBlock = fv.ownBlock) : LeftT (bkT b d.next) w (xB b ov fv lv) (w.setCell ⟨b, 3, none⟩ v) :=
  ⟨xB b ov v lv, ⟨ov, v, lv, ⟨h.raw.setFates hr ho, h.ok.next⟩, rfl⟩, Keep.setCell w _ _ (.inl rfl), fun k hk => .inl (by
    rcases hk with e | e | e | e
    · exact .inl e
    · exact .inr (.inl e)
    · rw [ho] at e; exact .inr (.inr (.inl e))
    · exact .inr (.inr (.inr e)))⟩
set_option maxHeartbeats 2000000 in
theorem fate_any {w : World} {b : Nat} {X : Nat → Prop} {d : Bk} (h : bkT b d w X) (hn : d.fates.length ≤ 1000000) : Calls Try.prog 48 #[.pointer (some ⟨b, 0, none⟩)] w fun e w' => e = .returned (.int .i64 (d.fate0 : Nat)) ∧ LeftT (bkT b d.next) w X w' := by
  have h0 := h
  obtain ⟨ov, fv, lv, h, rfl⟩ := h
  obtain ⟨c0, c1, c2, c3, c4⟩ := h.raw.c
  cases hf : d.fates with
  | nil =>
    have hv : d.next = d := by
      obtain ⟨o, q, f, l⟩ := d
      simp only at hf
      subst hf
      rfl
    have e0 : d.fate0 = 0 := by simp [Bk.fate0, hf]
    obtain ⟨a, cap, rfl⟩ := h.raw.fs.form
    rw [hf] at c3
    rw [hv, e0]
    have HL := hide (LeftT.refl h0)
    clear h0 h hv e0
    go_enter Try.func48, Try.ntmps48
    go_wp2
    go_ret
    exact ⟨rfl, HL.out⟩
  | cons x r =>
    obtain ⟨g, off, cap, rfl, hgl, hnc, hcm⟩ := h.raw.fs.pos (by rw [hf]; simp)
    have hx : (encF d.fates)[0]? = some (.int .i64 (x : Nat)) := by rw [hf]; rfl
    obtain ⟨q0, _⟩ := h.raw.fs.cell hx
    have f3 := h.raw.fr 3
    have e0 : d.fate0 = x := by simp [Bk.fate0, hf]
    have hl : d.fates.length = r.length + 1 := by rw [hf]; rfl
    have hd := h.raw.fs.drop (k := 1) (by omega)
    rw [encF_drop, Nat.one_mul, List.drop_one] at hd
    have ho := drop_own (a := some ⟨g, off, none⟩) (n := d.fates.length) (cap := cap) (k := 1) (size := 1)
    have HF := hide (next_left h (by rw [List.length_tail]; exact hd) ho)
    clear ho
    rw [e0]
    have hx4 : x < 4 := h.ok.fate x (by rw [hf]; simp)
    have hc1 : 1 ≤ cap := by omega
    rw [hl] at c3 hnc HF
    have hr1 : r.length ≤ 1000000 := by omega
    clear h0 h hd hx hf hl e0
    rw [Nat.add_zero] at q0
    by_cases hc : cap = 1
    · subst hc
      have hrl : r.length = 0 := by omega
      rw [hrl] at c3 HF
      simp only [if_true, Nat.sub_self] at HF
      clear hrl
      go_enter Try.func48, Try.ntmps48
      go_wp2
      go_ret
      exact ⟨rfl, HF.out⟩
    · simp only [if_neg hc, Nat.add_sub_cancel] at HF
      go_enter Try.func48, Try.ntmps48
      go_wp2
      go_ret
      exact ⟨rfl, HF.out⟩

end Wi
end Go.Proofs.Ythnhapjjgaicdaa
