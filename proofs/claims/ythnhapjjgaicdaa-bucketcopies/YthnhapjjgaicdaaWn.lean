/- Package bucket: an object is taken away. -/
import Derived.Test.YthnhapjjgaicdaaWm
namespace Go.Proofs.Ythnhapjjgaicdaa
open Go.RowKit
namespace Wi

set_option maxHeartbeats 4000000 in
theorem remove_o {w : World} {b : Nat} {X : Nat → Prop} {d : Bk} {fv lv : Value} (h : oT fv lv b d w X) (hn : d.objs.length ≤ 1000000) (s x : ByteArray) : Calls Try.prog 49 #[.pointer (some ⟨b, 0, none⟩), .string s, .string x] w fun e w' => e = .returned (.int .i64 (d.removeE s)) ∧ LeftT (oT fv lv b (d.remove s)) w X w' := by
  have h0 := h
  obtain ⟨ov, h, rfl⟩ := h
  have hf := find_any h.raw h.ok.rise hn s
  have hpl := place_le d.objs s
  have hroom := h.ok.room
  have hmost := h.ok.most
  cases hfd : foundB d.objs s with
  | false =>
    have e1 : d.removeE s = 15 := by simp [Bk.removeE, hfd]
    have e2 : d.remove s = d := by simp [Bk.remove, hfd]
    rw [e1, e2]
    rw [hfd] at hf
    have HL := hide h0
    clear e1 e2 h0 h hfd
    go_enter Try.func49, Try.ntmps49
    go_wp2_with fail
    refine hf.mono ?_
    rintro e w2 ⟨rfl, hb2⟩
    clear hf
    go_wp2
    go_ret
    exact ⟨rfl, (LeftT.refl HL.out).later (oT_good _ _ _ _) hb2⟩
  | true =>
    have e1 : d.removeE s = 0 := by simp [Bk.removeE, hfd]
    have e2 : d.remove s = { d with objs := cut d.objs s } := by simp [Bk.remove, hfd]
    have hok := h.ok.remove s
    rw [e2] at hok
    rw [e1, e2]
    rw [hfd] at hf
    obtain ⟨o, ho, hos⟩ := foundB_some hfd
    have hlt := (List.getElem?_eq_some_iff.1 ho).1
    have HR := hide h.raw
    have HP := hide (total_cut ho)
    have HPL := hide (cut_length hfd)
    obtain ⟨g, off, cap, rfl, hgl, hnc, hcm⟩ := h.raw.os.pos (by omega)
    have hcells : ∀ w', Below w.heap.size w w' → w'.cell? ⟨g, off + place d.objs s * 2 + 1, none⟩ = some (.string o.2) := fun w' hb => (ob_cells (h.raw.later hb).os ho).2
    have HC := hide hcells
    have HI : Hid (∀ {w : World} {v : Value}, Rw w 76 2 v d.objs.length (encOs d.objs) → Calls Try.prog 59 #[v, .int .i64 (place d.objs s : Nat), .int .i64 ((place d.objs s : Nat) + 1 : Int)] w fun e w' => ∃ v', e = .returned v' ∧ Grew w 76 2 v (d.objs.length - 1) (encOs (cut d.objs s)) w' v') := fun hr => delete_any hr hn hlt
    have htot : o.2.size ≤ total d.objs := by have := HP.out; omega
    have hc63 : cap ≤ 9223372036854775807 := by unfold maxLen at hcm; omega
    clear e1 e2 h0 h hfd ho hos hcells hcm
    obtain ⟨U, hU⟩ : ∃ U, U = total d.objs := ⟨_, rfl⟩
    rw [← hU] at HR HP hroom htot
    clear hU
    generalize hPP : place d.objs s = P at *
    clear hPP
    obtain ⟨O1, O2⟩ := o
    simp only at *
    generalize hNN : d.objs.length = N at *
    have HNN := hide hNN
    clear hNN
    go_enter Try.func49, Try.ntmps49
    go_wp2_with fail
    refine hf.mono ?_
    rintro e w2 ⟨rfl, hb2⟩
    clear hf
    have hR2 := HR.out.later hb2
    have c0' : ∀ p : Later w2, p.val.cell? ⟨b, 0, none⟩ = some (.slice (some ⟨g, off, none⟩) N cap) := fun p => (hR2.later p.below).c.1
    have c1' : ∀ p : Later w2, p.val.cell? ⟨b, 1, none⟩ = some (.int .i64 (U : Nat)) := fun p => (hR2.later p.below).c.2.1
    have c5' : ∀ p : Later w2, p.val.cell? ⟨g, off + P * 2 + 1, none⟩ = some (.string O2) := fun p => HC.out _ (hb2.trans (p.below.mono hb2.size))
    have f1' : ∀ p : Later w2, p.val.frozen? ⟨b, 1, none⟩ = false := fun p => (hR2.later p.below).fr 1
    have hne := later_ne w2
    have w1 : IntKind.i64.wrap ((U : Int) - (O2.size : Int)) = (U : Int) - (O2.size : Int) := by rw [IntKind.wrap_i64]; omega
    have HB := hide hb2
    have HR2 := hide hR2
    clear hR2 hb2 HC
    go_wp2
    refine wp_region_later_tail 16 (by kernel_rfl) (by kernel_rfl) ?_
    simp only [List.take, List.drop]
    (repeat (first | go_big_quiet_skip | (go_big_quiet_want; go_big_quiet_op; go_big_quiet_on)))
    refine wpQuiet_nil ?_
    rintro _ ⟨p, rfl⟩
    have hRp := HR2.out.later p.below
    have HB3 := hide (HB.out.trans (p.below.mono HB.out.size))
    have k1 := c1' p
    have k6 := f1' p
    clear c0' c1' c5' f1' hne HB HR2
    generalize p.val = w3 at *
    have hR4 := hRp.setUsed ((U : Int) - (O2.size : Int))
    have HK4 : Hid (Keep (xB b (.slice (some ⟨g, off, none⟩) N cap) fv lv) w (w3.setCell ⟨b, 1, none⟩ (.int .i64 ((U : Int) - (O2.size : Int))))) := (Keep.of_below (X := xB b (.slice (some ⟨g, off, none⟩) N cap) fv lv) HB3.out).trans (Keep.setCell (X := xB b (.slice (some ⟨g, off, none⟩) N cap) fv lv) w3 _ _ (.inl rfl)) fun _ _ e => e
    have hos := hR4.os
    rw [HNN.out] at hos
    have hc := HI.out hos
    clear hRp HB3
    have HR4 := hide hR4
    obtain ⟨m0, m1, m2, m3, m4⟩ := hR4.c
    have hP1 : P ≤ 1000000 := by omega
    clear hR4 hos m1 m2 m3 m4
    go_wp2_with fail
    refine hc.mono ?_
    rintro e w5 ⟨v5, rfl, hG⟩
    rw [← HPL.out] at hG
    obtain ⟨a5, n5, q5, rfl⟩ := hG.row.own_form
    obtain ⟨hR5, hK5, hX5⟩ := HR4.out.putObjs hG
    have hblk := (hG.keep.block b HR4.out.lt HR4.out.no).trans HR4.out.blk
    have d0 : w5.cell? ⟨b, 0, none⟩ = some (.slice (some ⟨g, off, none⟩) N cap) := by rw [cell_of_row _ _ _ _ _ _ hblk]; rfl
    have f0 : w5.frozen? ⟨b, 0, none⟩ = false := frozen_of_row w5 _ _ _ _ hblk
    have HF : Hid (LeftT (oT fv lv b { d with objs := cut d.objs s }) w (xB b (.slice (some ⟨g, off, none⟩) N cap) fv lv) (w5.setCell ⟨b, 0, none⟩ (.slice a5 n5 q5))) := by
      refine ⟨xB b (.slice a5 n5 q5) fv lv, ⟨.slice a5 n5 q5, ⟨?_, hok⟩, rfl⟩, ?_, ?_⟩
      · show RawB _ b (.slice a5 n5 q5) fv lv ((total (cut d.objs s) : Nat) : Int) ((d.quota : Nat) : Int) (cut d.objs s) d.fates d.late
        have : ((total (cut d.objs s) : Nat) : Int) = (U : Int) - (O2.size : Int) := by have := HP.out; omega
        rw [this]
        exact hR5
      · exact HK4.out.trans hK5 fun _ _ e => e
      · exact fun k hk => (hX5 k hk).imp id fun e => Nat.le_trans HK4.out.size e
    clear hc hG hR5 hK5 hX5 hblk HR4
    go_wp2
    go_ret
    exact ⟨rfl, HF.out⟩

end Wi
end Go.Proofs.Ythnhapjjgaicdaa
