/- Package bucket: objects that are made and taken away. -/
import Derived.Test.YthnhapjjgaicdaaWl
namespace Go.Proofs.Ythnhapjjgaicdaa
open Go.RowKit
namespace Wi

set_option maxHeartbeats 4000000 in
theorem add_o {w : World} {b : Nat} {X : Nat → Prop} {d : Bk} {fv lv : Value} (h : oT fv lv b d w X) (hn : d.objs.length ≤ 1000000) (s x : ByteArray) (hx : x.size ≤ 65536) : Calls Try.prog 44 #[.pointer (some ⟨b, 0, none⟩), .string s, .string x] w fun e w' => e = .returned (.int .i64 (d.addE s x)) ∧ LeftT (oT fv lv b (d.add s x)) w X w' := by
  have h0 := h
  obtain ⟨ov, h, rfl⟩ := h
  have hf := find_any h.raw h.ok.rise hn s
  have hpl := place_le d.objs s
  have hroom := h.ok.room
  have hmost := h.ok.most
  cases hfd : foundB d.objs s with
  | true =>
    have e1 : d.addE s x = 16 := by simp [Bk.addE, hfd]
    have e2 : d.add s x = d := by simp [Bk.add, hfd]
    rw [e1, e2]
    rw [hfd] at hf
    have HL := hide h0
    clear e1 e2 h0 h hfd
    go_enter Try.func44, Try.ntmps44
    go_wp2_with fail
    refine hf.mono ?_
    rintro e w2 ⟨rfl, hb2⟩
    clear hf
    go_wp2
    go_ret
    exact ⟨rfl, (LeftT.refl HL.out).later (oT_good _ _ _ _) hb2⟩
  | false =>
    rw [hfd] at hf
    by_cases hq : d.quota < total d.objs + x.size
    · have e1 : d.addE s x = 33 := by simp [Bk.addE, hfd, hq]
      have e2 : d.add s x = d := by simp [Bk.add, hfd, hq]
      rw [e1, e2]
      have HL := hide h0
      have HR := hide h.raw
      clear e1 e2 h0 h hfd
      generalize total d.objs = U at *
      generalize d.quota = Q at *
      generalize place d.objs s = P at *
      go_enter Try.func44, Try.ntmps44
      go_wp2_with fail
      refine hf.mono ?_
      rintro e w2 ⟨rfl, hb2⟩
      clear hf
      have hR2 := HR.out.later hb2
      have c1' : ∀ p : Later w2, p.val.cell? ⟨b, 1, none⟩ = some (.int .i64 (U : Nat)) := fun p => (hR2.later p.below).c.2.1
      have c2' : ∀ p : Later w2, p.val.cell? ⟨b, 2, none⟩ = some (.int .i64 (Q : Nat)) := fun p => (hR2.later p.below).c.2.2.1
      have hne := later_ne w2
      have w1 : IntKind.i64.wrap ((Q : Int) - (U : Int)) = (Q : Int) - (U : Int) := by rw [IntKind.wrap_i64]; omega
      have d1 : decide ((Q : Int) - (U : Int) < (x.size : Int)) = true := by simp; omega
      have HB := hide hb2
      clear hR2 hb2
      go_wp2
      refine wp_region_later (by kernel_rfl) (by kernel_rfl) ?_
      (repeat (first | go_big_quiet_skip | (go_big_quiet_want; go_big_quiet_op; go_big_quiet_on)))
      refine wpQuiet_nil ?_
      rintro _ ⟨p, rfl⟩
      go_wp2
      go_ret
      exact ⟨rfl, (LeftT.refl HL.out).later (oT_good _ _ _ _) (HB.out.trans (p.below.mono HB.out.size))⟩
    · have e1 : d.addE s x = 0 := by simp [Bk.addE, hfd, hq]
      have e2 : d.add s x = { d with objs := put d.objs s x } := by simp [Bk.add, hfd, hq]
      have hok := h.ok.add s x
      rw [e2] at hok
      rw [e1, e2]
      have HR := hide h.raw
      have HP := hide (total_put d.objs s x)
      have HPL := hide (put_length d.objs s x)
      have HI : Hid (∀ {w : World} {v : Value} (g1 : Nat), Rw w 76 2 v d.objs.length (encOs d.objs) → w.heap[g1]? = some (.cells #[.string s, .string x] 76 (0, 0)) → v.ownBlock ≠ some g1 → Calls Try.prog 57 #[v, .int .i64 (place d.objs s : Nat), .slice (some ⟨g1, 0, none⟩) 1 1] w fun e w' => ∃ v', e = .returned v' ∧ Grew w 76 2 v (d.objs.length + 1) (encOs (put d.objs s x)) w' v') :=
        fun g1 hr hg hne => insert_any hr hn hpl (s, x) g1 hg hne
      clear e1 e2 h0 h hfd
      obtain ⟨U, hU⟩ : ∃ U, U = total d.objs := ⟨_, rfl⟩
      obtain ⟨Q, hQ⟩ : ∃ Q, Q = d.quota := ⟨_, rfl⟩
      rw [← hU] at HR HP hq hroom
      rw [← hQ] at HR hq hroom hmost
      have HQ := hide hQ
      clear hU hQ
      generalize hPP : place d.objs s = P at *
      clear hPP
      go_enter Try.func44, Try.ntmps44
      go_wp2_with fail
      refine hf.mono ?_
      rintro e w2 ⟨rfl, hb2⟩
      clear hf
      have hR2 := HR.out.later hb2
      have c1' : ∀ p : Later w2, p.val.cell? ⟨b, 1, none⟩ = some (.int .i64 (U : Nat)) := fun p => (hR2.later p.below).c.2.1
      have c2' : ∀ p : Later w2, p.val.cell? ⟨b, 2, none⟩ = some (.int .i64 (Q : Nat)) := fun p => (hR2.later p.below).c.2.2.1
      have hne := later_ne w2
      have w1 : IntKind.i64.wrap ((Q : Int) - (U : Int)) = (Q : Int) - (U : Int) := by rw [IntKind.wrap_i64]; omega
      have d1 : decide ((Q : Int) - (U : Int) < (x.size : Int)) = false := by simp; omega
      have HB := hide hb2
      clear hR2 hb2
      go_wp2
      refine wp_region_later (by kernel_rfl) (by kernel_rfl) ?_
      (repeat (first | go_big_quiet_skip | (go_big_quiet_want; go_big_quiet_op; go_big_quiet_on)))
      refine wpQuiet_nil ?_
      rintro _ ⟨p, rfl⟩
      have HB3 := hide (HB.out.trans (p.below.mono HB.out.size))
      clear HB
      generalize p.val = w3 at *
      clear c1' c2' hne w1 d1
      have hR3 := HR.out.later HB3.out
      obtain ⟨k0, k1, k2, k3, k4⟩ := hR3.c
      have hb4 := below_alloc w3 (.cells #[.string s, .string x] 76)
      have hR4 := hR3.later hb4
      have hc := HI.out w3.heap.size hR4.os (heap_alloc_new w3 _) (fun e => Nat.lt_irrefl _ (hR3.os.lt _ e))
      have HR4 := hide hR4
      have HB4 := hide (HB3.out.trans (hb4.mono HB3.out.size))
      clear HI hR3 hR4 hb4
      go_wp2_with fail
      refine hc.mono ?_
      rintro e w5 ⟨v5, rfl, hG⟩
      rw [← HPL.out] at hG
      obtain ⟨a5, n5, q5, rfl⟩ := hG.row.own_form
      obtain ⟨hR5, hK5, hX5⟩ := HR4.out.putObjs hG
      have hblk := (hG.keep.block b HR4.out.lt HR4.out.no).trans HR4.out.blk
      have d0 : w5.cell? ⟨b, 0, none⟩ = some ov := by rw [cell_of_row _ _ _ _ _ _ hblk]; rfl
      have f0 : w5.frozen? ⟨b, 0, none⟩ = false := frozen_of_row w5 _ _ _ _ hblk
      obtain ⟨m0, m1, m2, m3, m4⟩ := hR5.c
      have n1 := hR5.fr 1
      have HF : Hid (LeftT (oT fv lv b { d with objs := put d.objs s x }) w (xB b ov fv lv) ((w5.setCell ⟨b, 0, none⟩ (.slice a5 n5 q5)).setCell ⟨b, 1, none⟩ (.int .i64 ((U : Int) + (x.size : Int))))) := by
        have hR6 := hR5.setUsed ((U : Int) + (x.size : Int))
        refine ⟨xB b (.slice a5 n5 q5) fv lv, ⟨.slice a5 n5 q5, ⟨?_, hok⟩, rfl⟩, ?_, ?_⟩
        · show RawB _ b (.slice a5 n5 q5) fv lv ((total (put d.objs s x) : Nat) : Int) ((d.quota : Nat) : Int) (put d.objs s x) d.fates d.late
          rw [HP.out, ← HQ.out, Int.natCast_add]
          exact hR6
        · exact ((Keep.of_below (X := xB b ov fv lv) HB4.out).trans hK5 fun _ _ e => e).trans (Keep.setCell (X := xB b ov fv lv) _ _ _ (.inl rfl)) fun _ _ e => e
        · exact fun k hk => (hX5 k hk).imp id fun e => Nat.le_trans HB4.out.size e
      have w6 : IntKind.i64.wrap ((U : Int) + (x.size : Int)) = (U : Int) + (x.size : Int) := by rw [IntKind.wrap_i64]; omega
      clear hc hG hR5 hK5 hX5 hblk HR4
      go_wp2
      go_ret
      exact ⟨rfl, HF.out⟩

end Wi
end Go.Proofs.Ythnhapjjgaicdaa
