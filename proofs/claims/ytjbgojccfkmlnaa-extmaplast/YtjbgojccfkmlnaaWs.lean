/- What of a map lies in a span, as a list of its own. -/
import Derived.Test.YtjbgojccfkmlnaaWr
import Derived.Test.YtjbgojccfkmlnaaMf
namespace Go.Proofs.Ytjbgojccfkmlnaa
open Go.RowKit
namespace Wi

set_option maxHeartbeats 8000000 in
set_option maxRecDepth 100000 in
theorem rep_insert {w : World} {v : Value} {n m i : Nat} {va : Option Addr} {vc : Nat} {xs ys : List Value} (h : Rw w 40 4 v n xs) (hx : ∀ u ∈ xs, u.oneCell' = true) (hn : n ≤ 1000000) (hmm : m ≤ 1000000) (hv : Rw w 40 4 (.slice va m vc) m ys) (h1 : ∀ u ∈ ys, u.oneCell' = true) (hi : i ≤ n) (hne : ∀ k, (Value.slice va m vc).ownBlock = some k → v.ownBlock ≠ some k) :
    Calls Try.prog 54 #[v, .int .i64 (i : Nat), .int .i64 (i : Nat), .slice va m vc] w fun e w' => ∃ v', e = .returned v' ∧ Grew w 40 4 v (n + m) (xs.take (i * 4) ++ (ys ++ xs.drop (i * 4))) w' v' := by
  have hc := insert_any h hx hn hmm hv h1 hi hne
  obtain ⟨a, cap, rfl⟩ := h.form
  have hcc : n ≤ cap := by
    rcases h.2 with ⟨hv, h0⟩ | ⟨g, off, cap', cur, hv, _, k1, k2, _⟩
    · cases hv; omega
    · cases hv; omega
  obtain ⟨a', s0⟩ : ∃ a', ∀ w', (Instr.slice 30 (.slice a n cap) (some (.int .i64 (i : Nat))) (some (.int .i64 (i : Nat))) none).run Try.prog w' = .ok (.slice a' (i - i) (cap - i)) w' := ⟨_, fun w' => run_slb (n := n) a w' (Nat.le_refl _) (by omega)⟩
  clear h hx hv h1
  go_enter Try.func54, Try.ntmps54
  go_wp2_with fail
  refine hc.mono ?_
  rintro e w2 ⟨v2, rfl, hG⟩
  have HG := hide hG
  clear hc hG
  go_wp2
  go_ret
  exact ⟨_, rfl, HG.out⟩
theorem replace_any {w : World} {v : Value} {n m i j : Nat} {va : Option Addr} {vc : Nat} {xs ys : List Value} (h : Rw w 40 4 v n xs) (hx : ∀ u ∈ xs, u.oneCell' = true) (hn : n ≤ 1000000) (hmm : m ≤ 1000000) (hv : Rw w 40 4 (.slice va m vc) m ys) (h1 : ∀ u ∈ ys, u.oneCell' = true) (hij : i ≤ j) (hj : j ≤ n) (hne : ∀ k, (Value.slice va m vc).ownBlock = some k → v.ownBlock ≠ some k) :
    Calls Try.prog 54 #[v, .int .i64 (i : Nat), .int .i64 (j : Nat), .slice va m vc] w fun e w' => ∃ v', e = .returned v' ∧ Grew w 40 4 v (i + m + (n - j)) (xs.take (i * 4) ++ (ys ++ xs.drop (j * 4))) w' v' := by
  by_cases he : i = j
  · subst he
    have := rep_insert h hx hn hmm hv h1 hj hne
    rwa [show n + m = i + m + (n - i) by omega] at this
  · obtain ⟨g, off, cap, rfl, hgl, hc, hcm⟩ := h.pos (by omega)
    have hcm' : cap ≤ 9223372036854775807 := by unfold maxLen at hcm; omega
    have hne' : ∀ k, (Value.slice va m vc).ownBlock = some k → k ≠ g := fun k hk e => hne k hk (by rw [e]; rfl)
    by_cases hq : j = n
    · have := rep_end (i := i) h hx hn hmm hc hcm' hv h1 (by omega) hq hne'
      have e : xs.drop (j * 4) = [] := List.drop_eq_nil_of_le (by rw [h.1]; omega)
      rw [e, List.append_nil, show i + m + (n - j) = i + m by omega]
      exact this
    · by_cases hg : cap < i + m + (n - j)
      · exact rep_grow h hx hn hmm hc hcm' hv h1 (by omega) (by omega) hne' (by omega) hg
      · by_cases hme : i + m ≤ j
        · exact rep_less h hx hn hmm hc hcm' hv h1 (by omega) (by omega) hne' (by omega) hme
        · exact rep_more h hx hn hmm hc hcm' hv h1 (by omega) (by omega) hne' (by omega) (by omega) (by omega)
/-- The same, of extents. -/
theorem replace_xs {w : World} {v f : Value} {l F : List Xt} {i j : Nat} (h : Xs w v l) (hn : l.length ≤ 1000000) (hf : Xs w f F) (hm : F.length ≤ 1000000) (hij : i ≤ j) (hj : j ≤ l.length) (hne : ∀ k, f.ownBlock = some k → v.ownBlock ≠ some k) :
    Calls Try.prog 54 #[v, .int .i64 (i : Nat), .int .i64 (j : Nat), f] w fun e w' => ∃ v', e = .returned v' ∧ Xs w' v' (l.take i ++ F ++ l.drop j) ∧ Keep (fun k => v.ownBlock = some k) w w' ∧ Moved w v v' := by
  obtain ⟨fa, fc, rfl, _, _⟩ := hf.len
  refine (replace_any h (encXs_oneCell l) hn hm hf (encXs_oneCell F) hij hj hne).mono ?_
  rintro e w' ⟨v', rfl, hG⟩
  refine ⟨v', rfl, ?_, hG.keep, hG.moved⟩
  have hr := hG.row
  rw [(encXs_parts l i (by omega)).1, (encXs_parts l j hj).2, ← encXs_append, ← encXs_append, ← List.append_assoc] at hr
  unfold Xs
  rw [show (l.take i ++ F ++ l.drop j).length = i + F.length + (l.length - j) by rw [List.length_append, List.length_append, List.length_take, List.length_drop]; omega]
  exact hr
/-- A list of extents in memory that nobody else has. -/
def listT (v : Value) (l : List Xt) : Th := fun w X => Xs w v l ∧ ∀ k, X k ↔ v.ownBlock = some k
theorem listT_good (v : Value) (l : List Xt) : (listT v l).Good :=
  ⟨fun ⟨h1, h2⟩ k hx => ⟨Rw.keep h1 k fun i hi => hx i ((h2 i).2 hi), h2⟩, fun ⟨h1, h2⟩ k hk => Rw.lt h1 k ((h2 k).1 hk)⟩
/-- A map in memory. -/
def mapT (b : Nat) (l : List Xt) : Th := fun w X => ∃ v, RawM w b v l ∧ ∀ k, X k ↔ k = b ∨ v.ownBlock = some k
theorem mapT_good (b : Nat) (l : List Xt) : (mapT b l).Good :=
  ⟨fun ⟨v, h1, h2⟩ k hx => ⟨v, ⟨(k.block b h1.lt (hx b ((h2 b).2 (.inl rfl)))).trans h1.blk, Rw.keep h1.xs k fun i hi => hx i ((h2 i).2 (.inr hi)), h1.no⟩, h2⟩,
   fun ⟨v, h1, h2⟩ k hk => by
    rcases (h2 k).1 hk with rfl | hk
    · exact h1.lt
    · exact Rw.lt h1.xs k hk⟩
/-- What of the list the places of a span take. -/
theorem split3 {l : List Xt} {i j : Nat} (hij : i ≤ j) : l = l.take i ++ (l.drop i).take (j - i) ++ l.drop j := by
  have : (l.drop i).take (j - i) ++ l.drop j = l.drop i := by
    have := List.take_append_drop (j - i) (l.drop i)
    rwa [List.drop_drop, show i + (j - i) = j by omega] at this
  rw [List.append_assoc, this, List.take_append_drop]
theorem front_ends {l : List Xt} {a : Int} : ∀ x ∈ l.take (idx (endsP a) l), (x.fin : Int) ≤ a := fun x hx => by
  obtain ⟨i, hi, rfl⟩ := List.mem_iff_getElem.1 hx
  rw [List.length_take] at hi
  rw [List.getElem_take]
  have := idx_no (p := endsP a) (l := l) (i := i) (by omega) (List.getElem?_eq_getElem (by omega))
  unfold endsP at this
  simpa using this
theorem rear_begins {l : List Xt} {a : Int} (hr : Ris l) : ∀ x ∈ l.drop (idx (atP a) l), a ≤ (x.at_ : Int) := fun x hx => by
  obtain ⟨i, hi, rfl⟩ := List.mem_iff_getElem.1 hx
  rw [List.length_drop] at hi
  rw [List.getElem_drop]
  have := idx_yes (atP_mono a) hr (i := idx (atP a) l + i) (by omega) (List.getElem?_eq_getElem (by omega))
  have h2 := this
  unfold atP at h2
  simp only [decide_eq_true_eq] at h2
  exact h2
theorem within_part {l : List Xt} {a b : Nat} (hr : Ris l) (hab : a < b) : wasL ((l.drop (idx (endsP (a : Nat)) l)).take (idx (atP (b : Nat)) l - idx (endsP (a : Nat)) l)) a b = wasL l a b := by
  have hij := idx_idx (a := (a : Nat)) (b := (b : Nat)) (by omega) hr
  have hs := split3 (l := l) hij
  have hrB : Ris (l.drop (idx (atP (b : Nat)) l)) := Ris.right (A := l.take (idx (endsP (a : Nat)) l) ++ (l.drop (idx (endsP (a : Nat)) l)).take (idx (atP (b : Nat)) l - idx (endsP (a : Nat)) l)) (by rw [← hs]; exact hr)
  have hA : ∀ x ∈ l.take (idx (endsP (a : Nat)) l), x.fin ≤ a := fun x hx => by have := front_ends x hx; omega
  have hB : ∀ c, c ≤ b → ∀ x ∈ l.drop (idx (atP (b : Nat)) l), c ≤ x.at_ ∧ 1 ≤ x.len := fun c hc x hx => ⟨by have := rear_begins hr x hx; omega, hrB.get_pos x hx⟩
  conv => rhs; rw [hs]
  rw [wasL, wasL, behind_rear (hB a (by omega)), behind_front hA, ahead_rear (hB b (Nat.le_refl _))]
theorem Ris.mid {l : List Xt} (h : Ris l) (i j : Nat) (hij : i ≤ j) : Ris ((l.drop i).take (j - i)) := by
  have hs := split3 (l := l) hij
  rw [hs] at h
  exact Ris.right (A := l.take i) (Ris.left h)
theorem Sm.mid {l : List Xt} (h : Sm l) (i j : Nat) : Sm ((l.drop i).take (j - i)) := fun x hx => h x (List.mem_of_mem_drop (List.mem_of_mem_take hx))
theorem Sm.ahead {l : List Xt} {a : Nat} (hr : Ris l) (h : Sm l) : Sm (aheadL l a) := fun x hx => by
  obtain ⟨h1, y, hy, h2, h3, h4, h5⟩ := ahead_from hr x hx
  obtain ⟨k1, k2, k3⟩ := h y hy
  unfold Xt.Sm Xt.fin at *
  omega
theorem Sm.behind {l : List Xt} {a : Nat} (hr : Ris l) (h : Sm l) : Sm (behindL l a) := fun x hx => by
  obtain ⟨h1, y, hy, h2, h3, h4, h5⟩ := behind_from hr x hx
  obtain ⟨k1, k2, k3⟩ := h y hy
  unfold Xt.Sm Xt.fin at *
  omega
theorem ahead_len : ∀ (l : List Xt) (a : Nat), (aheadL l a).length ≤ l.length
  | [], _ => Nat.le_refl _
  | x :: r, a => by
    have := ahead_len r a
    rw [aheadL]
    split
    · simp; exact this
    · split <;> simp
theorem behind_len : ∀ (l : List Xt) (a : Nat), (behindL l a).length ≤ l.length
  | [], _ => Nat.le_refl _
  | x :: r, a => by
    have := behind_len r a
    rw [behindL]
    split
    · simp; omega
    · split <;> simp
def Spec.two (A B : List Xt) : Spec := ⟨fun v w => ∃ v1 v2, v = .tuple #[v1, v2] ∧ Xs w v1 A ∧ Xs w v2 B, fun _ _ _ ⟨v1, v2, h1, h2, h3⟩ hb => ⟨v1, v2, h1, h2.later hb, h3.later hb⟩⟩
theorem goes_cut {S : List Xt} {a : Nat} {w : World} {r : Result Next} {args : Array Value} {f : FuncId} (h : r = .ok (.enter f args) w) (hc : Calls Try.prog f args w fun e w' => ∃ v1 v2, e = .returned (.tuple #[v1, v2]) ∧ Xs w' v1 (aheadL S a) ∧ Xs w' v2 (behindL S a) ∧ Below w.heap.size w w') : GoesTo Try.prog (Spec.two (aheadL S a) (behindL S a)).ok w r := by
  rw [h]
  exact hc.mono fun e w' ⟨v1, v2, he, h1, h2, hb⟩ => ⟨_, he, ⟨v1, v2, rfl, h1, h2⟩, hb⟩

set_option maxHeartbeats 8000000 in
set_option maxRecDepth 100000 in
theorem within_any {w : World} {b : Nat} {v : Value} {l : List Xt} (h : RawM w b v l) (hr : Ris l) (hs : Sm l) (hn : l.length ≤ 1000000) (at_ n : Nat) (h1 : 1 ≤ n) (h2 : at_ + n ≤ 65536) :
    Calls Try.prog 41 #[.pointer (some ⟨b, 0, none⟩), .agg #[.int .i64 (at_ : Nat), .int .i64 (n : Nat)]] w fun e w' => ∃ v', e = .returned v' ∧ Xs w' v' (wasL l at_ (at_ + n)) ∧ From w.heap.size v' ∧ Below w.heap.size w w' := by
  obtain ⟨a, cap, rfl, hlc, hcm⟩ := h.xs.len
  have hij := idx_idx (a := (at_ : Nat)) (b := ((at_ + n : Nat) : Int)) (by omega) hr
  have hjl := idx_le (atP ((at_ + n : Nat) : Int)) l
  have hwp := within_part (a := at_) (b := at_ + n) hr (by omega)
  obtain ⟨p1, hp1, hp2, _⟩ := Xs.sl3 h.xs (lo := idx (endsP (at_ : Nat)) l) (hi := idx (atP ((at_ + n : Nat) : Int)) l) (mx := idx (atP ((at_ + n : Nat) : Int)) l) hij hjl (Nat.le_refl _) (by omega)
  have hS1 := hr.mid _ _ hij
  have hS2 := hs.mid (idx (endsP (at_ : Nat)) l) (idx (atP ((at_ + n : Nat) : Int)) l)
  have hS3 : ((l.drop (idx (endsP (at_ : Nat)) l)).take (idx (atP ((at_ + n : Nat) : Int)) l - idx (endsP (at_ : Nat)) l)).length ≤ 1000000 := by rw [List.length_take, List.length_drop]; omega
  have HPL : Hid (∀ w', Below w.heap.size w w' → Calls Try.prog 50 #[.pointer (some ⟨b, 0, none⟩), .int .i64 (at_ : Nat), .int .i64 ((at_ + n : Nat) : Int)] w' fun e w'' => e = .returned (.tuple #[.int .i64 (idx (endsP (at_ : Nat)) l : Nat), .int .i64 (idx (atP ((at_ + n : Nat) : Int)) l : Nat)]) ∧ Below w'.heap.size w' w'') := fun w' hb => places_any (h.later hb) hr hs hn _ _
  have HM : Hid (∀ w', Below w.heap.size w w' → w'.cell? ⟨b, 0, none⟩ = some (.slice a l.length cap)) := fun w' hb => (h.later hb).c
  have HP := hide hp2
  rw [← hwp]
  have HBL := hide (Nat.le_trans (behind_len ((l.drop (idx (endsP (at_ : Nat)) l)).take (idx (atP ((at_ + n : Nat) : Int)) l - idx (endsP (at_ : Nat)) l)) at_) hS3)
  have HAL := hide (Nat.le_trans (ahead_len (behindL ((l.drop (idx (endsP (at_ : Nat)) l)).take (idx (atP ((at_ + n : Nat) : Int)) l - idx (endsP (at_ : Nat)) l)) at_) (at_ + n)) HBL.out)
  have HS1 := hide hS1
  have HS2 := hide hS2
  have HS3 := hide hS3
  unfold wasL
  generalize (l.drop (idx (endsP (at_ : Nat)) l)).take (idx (atP ((at_ + n : Nat) : Int)) l - idx (endsP (at_ : Nat)) l) = S at *
  generalize idx (endsP (at_ : Nat)) l = I at *
  generalize idx (atP ((at_ + n : Nat) : Int)) l = J at *
  clear h hr hs hwp hp2 hS1 hS2 hS3
  generalize l.length = L at *
  obtain ⟨fin, hfin⟩ : ∃ fin, at_ + n = fin := ⟨_, rfl⟩
  rw [hfin] at HAL HPL ⊢
  have HE : Hid (∀ w', Calls Try.prog 43 #[.agg #[.int .i64 (at_ : Nat), .int .i64 (n : Nat)]] w' fun e w'' => e = .returned (.int .i64 (fin : Nat)) ∧ Below w'.heap.size w' w'') := fun w' => by
    have := end_any at_ n ⟨by omega, by omega⟩ w'
    rwa [show ((at_ : Nat) : Int) + (n : Int) = (fin : Nat) by omega] at this
  have hfb : fin ≤ 65536 := by omega
  clear hfin
  obtain ⟨W, hW⟩ : ∃ W, W = w.alloc (.cells #[.int .i64 (at_ : Nat), .int .i64 (n : Nat)] 38) := ⟨_, rfl⟩
  have HB : Hid (Below w.heap.size w W) := by show Below _ _ _; rw [hW]; exact below_alloc _ _
  have HX : Hid (∀ w', Below W.heap.size W w' → w'.cell? ⟨w.heap.size, 0, none⟩ = some (.int .i64 (at_ : Nat)) ∧ w'.cell? ⟨w.heap.size, 1, none⟩ = some (.int .i64 (n : Nat))) := fun w' hb => by
    have e := heap_alloc_new w (.cells #[.int .i64 (at_ : Nat), .int .i64 (n : Nat)] 38)
    rw [← hW] at e
    have hl := lt_of_block e
    refine ⟨(hb.cell (p := ⟨w.heap.size, 0, none⟩) hl).trans ?_, (hb.cell (p := ⟨w.heap.size, 1, none⟩) hl).trans ?_⟩
    · rw [cell_of_row _ _ _ _ _ _ e]; rfl
    · rw [cell_of_row _ _ _ _ _ _ e]; rfl
  have c0 : ∀ P : Later W, P.val.cell? ⟨w.heap.size, 0, none⟩ = some (.int .i64 (at_ : Nat)) := fun P => (HX.out _ P.below).1
  have c1 : ∀ P : Later W, P.val.cell? ⟨w.heap.size, 1, none⟩ = some (.int .i64 (n : Nat)) := fun P => (HX.out _ P.below).2
  have hc1 : ∀ P : Later W, _ := fun P => HE.out P.val
  have hc2 : ∀ P : Later W, _ := fun P => HPL.out P.val (HB.out.trans (P.below.mono HB.out.size))
  have hne := later_ne W
  have HW := hide hW
  clear hW
  go_enter Try.func41, Try.ntmps41
  go_wp2
  rw [← HW.out]
  refine wp_region_later (by kernel_rfl) (by kernel_rfl) ?_
  (repeat (first | go_big_quiet_skip | (go_big_quiet_want; go_big_quiet_op; go_big_quiet_on)))
  (go_big_quiet_want; go_big_quiet_op; apply Exists.intro; refine ⟨fun p => ?_, ?_⟩; (· exact later_of (hc1 p)); go_big_quiet_on)
  (repeat (first | go_big_quiet_skip | (go_big_quiet_want; go_big_quiet_op; go_big_quiet_on)))
  (go_big_quiet_want; go_big_quiet_op; apply Exists.intro; refine ⟨fun p => ?_, ?_⟩; (· exact later_of (hc2 p)); go_big_quiet_on)
  (repeat (first | go_big_quiet_skip | (go_big_quiet_want; go_big_quiet_op; go_big_quiet_on)))
  refine wpQuiet_nil ?_
  rintro _ ⟨P, rfl⟩
  have HB2 := hide (HB.out.trans (P.below.mono HB.out.size))
  have HP2 := hide P.below
  clear c0 c1 hc1 hc2 hne
  generalize P.val = w2 at *
  have HX2 : Hid (∀ w', Below w2.heap.size w2 w' → w'.cell? ⟨w.heap.size, 0, none⟩ = some (.int .i64 (at_ : Nat)) ∧ w'.cell? ⟨w.heap.size, 1, none⟩ = some (.int .i64 (n : Nat))) := fun w' hb => HX.out w' (HP2.out.trans (hb.mono HP2.out.size))
  clear HP2 HX
  go_wp2_with fail
  refine wp_region_specs [.val (.pointer (some ⟨b, 0, none⟩)), .val (.pointer (some ⟨b, 0, none⟩)), .val (.pointer (some ⟨b, 0, none⟩)), .val (.slice a L cap), .val (.int .i64 (I : Nat)), .val (.int .i64 (J : Nat)), .val (.int .i64 (J : Nat)), .val (.slice p1 (J - I) (J - I)), .val (.pointer (some ⟨w.heap.size, 0, none⟩)), .val (.int .i64 (at_ : Nat)), Spec.two (aheadL S at_) (behindL S at_), Spec.two (aheadL S at_) (behindL S at_), Spec.xs (aheadL S at_), Spec.xs (behindL S at_), Spec.xs (aheadL S at_), Spec.xs (behindL S at_)] (by kernel_rfl) (by kernel_rfl) ?_ ?_
  · skip
    refine ⟨?_, ?_⟩
    · intro A w1 hb ho hd
      have e0 : A.tmps[0]?.getD undef = .pointer (some ⟨b, 0, none⟩) := olds_get ho 0 (by kernel_rfl)
      refine ⟨rfl, goes_value (v := .pointer (some ⟨b, 0, none⟩)) ?_ rfl⟩
      simp [go_sem, e0]
    refine ⟨?_, ?_⟩
    · intro A w1 hb ho hd
      have e21 : A.tmps[21]?.getD undef = .pointer (some ⟨b, 0, none⟩) := getq (hd _ (Array.mem_of_getElem? (i := 0) rfl) rfl _ _ rfl rfl)
      refine ⟨rfl, goes_value (v := .pointer (some ⟨b, 0, none⟩)) ?_ rfl⟩
      simp [go_sem, e21]
    refine ⟨?_, ?_⟩
    · intro A w1 hb ho hd
      have e22 : A.tmps[22]?.getD undef = .pointer (some ⟨b, 0, none⟩) := getq (hd _ (Array.mem_of_getElem? (i := 0) rfl) rfl _ _ rfl rfl)
      refine ⟨rfl, goes_value (v := .pointer (some ⟨b, 0, none⟩)) ?_ rfl⟩
      simp [go_sem, e22]
    refine ⟨?_, ?_⟩
    · intro A w1 hb ho hd
      have e23 : A.tmps[23]?.getD undef = .pointer (some ⟨b, 0, none⟩) := getq (hd _ (Array.mem_of_getElem? (i := 0) rfl) rfl _ _ rfl rfl)
      have y := HM.out w1 (HB2.out.trans (hb.mono HB2.out.size))
      refine ⟨rfl, goes_value (v := .slice a L cap) ?_ rfl⟩
      simp [go_sem, e23, y]
    refine ⟨?_, ?_⟩
    · intro A w1 hb ho hd
      have e5 : A.tmps[5]?.getD undef = .int .i64 (I : Nat) := olds_get ho 5 (by kernel_rfl)
      refine ⟨rfl, goes_value (v := .int .i64 (I : Nat)) ?_ rfl⟩
      simp [go_sem, e5]
    refine ⟨?_, ?_⟩
    · intro A w1 hb ho hd
      have e6 : A.tmps[6]?.getD undef = .int .i64 (J : Nat) := olds_get ho 6 (by kernel_rfl)
      refine ⟨rfl, goes_value (v := .int .i64 (J : Nat)) ?_ rfl⟩
      simp [go_sem, e6]
    refine ⟨?_, ?_⟩
    · intro A w1 hb ho hd
      have e6 : A.tmps[6]?.getD undef = .int .i64 (J : Nat) := olds_get ho 6 (by kernel_rfl)
      refine ⟨rfl, goes_value (v := .int .i64 (J : Nat)) ?_ rfl⟩
      simp [go_sem, e6]
    refine ⟨?_, ?_⟩
    · intro A w1 hb ho hd
      have e24 : A.tmps[24]?.getD undef = .slice a L cap := getq (hd _ (Array.mem_of_getElem? (i := 0) rfl) rfl _ _ rfl rfl)
      have e25 : A.tmps[25]?.getD undef = .int .i64 (I : Nat) := getq (hd _ (Array.mem_of_getElem? (i := 1) rfl) rfl _ _ rfl rfl)
      have e26 : A.tmps[26]?.getD undef = .int .i64 (J : Nat) := getq (hd _ (Array.mem_of_getElem? (i := 2) rfl) rfl _ _ rfl rfl)
      have e27 : A.tmps[27]?.getD undef = .int .i64 (J : Nat) := getq (hd _ (Array.mem_of_getElem? (i := 3) rfl) rfl _ _ rfl rfl)
      refine ⟨rfl, goes_value (v := .slice p1 (J - I) (J - I)) ?_ rfl⟩
      simp [go_sem, e24, e25, e26, e27, hp1]
    refine ⟨?_, ?_⟩
    · intro A w1 hb ho hd
      have e3 : A.tmps[3]?.getD undef = .pointer (some ⟨w.heap.size, 0, none⟩) := olds_get ho 3 (by kernel_rfl)
      refine ⟨rfl, goes_value (v := .pointer (some ⟨w.heap.size, 0, none⟩)) ?_ rfl⟩
      simp [go_sem, e3]
    refine ⟨?_, ?_⟩
    · intro A w1 hb ho hd
      have e29 : A.tmps[29]?.getD undef = .pointer (some ⟨w.heap.size, 0, none⟩) := getq (hd _ (Array.mem_of_getElem? (i := 0) rfl) rfl _ _ rfl rfl)
      have y := (HX2.out w1 hb).1
      refine ⟨rfl, goes_value (v := .int .i64 (at_ : Nat)) ?_ rfl⟩
      simp [go_sem, e29, y]
    refine ⟨?_, ?_⟩
    · intro A w1 hb ho hd
      have e28 : A.tmps[28]?.getD undef = .slice p1 (J - I) (J - I) := getq (hd _ (Array.mem_of_getElem? (i := 0) rfl) rfl _ _ rfl rfl)
      have e30 : A.tmps[30]?.getD undef = .int .i64 (at_ : Nat) := getq (hd _ (Array.mem_of_getElem? (i := 1) rfl) rfl _ _ rfl rfl)
      have hX := HP.out.later (HB2.out.trans (hb.mono HB2.out.size))
      refine ⟨rfl, goes_cut (f := 51) (args := #[.slice p1 (J - I) (J - I), .int .i64 (at_ : Nat)]) ?_ (cut_any hX HS1.out HS2.out HS3.out at_ (by omega))⟩
      simp [go_sem, e28, e30]
    refine ⟨?_, ?_⟩
    · intro A w1 hb ho hd
      obtain Sc := hd _ (Array.mem_of_getElem? (i := 0) rfl) rfl _ _ rfl rfl
      have e31 := getq (A := A) (d := 31) rfl
      refine ⟨rfl, goes_value (v := A.tmps.getD 31 undef) ?_ Sc⟩
      simp [go_sem]
    refine ⟨?_, ?_⟩
    · intro A w1 hb ho hd
      obtain ⟨q1, q2, qe, hq1, hq2⟩ := hd _ (Array.mem_of_getElem? (i := 0) rfl) rfl _ _ rfl rfl
      have e20 := getq qe
      refine ⟨rfl, goes_value (v := q1) ?_ hq1⟩
      simp [go_sem, e20]
    refine ⟨?_, ?_⟩
    · intro A w1 hb ho hd
      obtain ⟨q1, q2, qe, hq1, hq2⟩ := hd _ (Array.mem_of_getElem? (i := 0) rfl) rfl _ _ rfl rfl
      have e20 := getq qe
      refine ⟨rfl, goes_value (v := q2) ?_ hq2⟩
      simp [go_sem, e20]
    refine ⟨?_, ?_⟩
    · intro A w1 hb ho hd
      obtain Se := hd _ (Array.mem_of_getElem? (i := 0) rfl) rfl _ _ rfl rfl
      have e32 := getq (A := A) (d := 32) rfl
      refine ⟨rfl, goes_value (v := A.tmps.getD 32 undef) ?_ Se⟩
      simp [go_sem]
    refine ⟨?_, ?_⟩
    · intro A w1 hb ho hd
      obtain Sf := hd _ (Array.mem_of_getElem? (i := 0) rfl) rfl _ _ rfl rfl
      have e33 := getq (A := A) (d := 33) rfl
      refine ⟨rfl, goes_value (v := A.tmps.getD 33 undef) ?_ Sf⟩
      simp [go_sem]
    trivial
  intro A w3 hb3 hdf hsz hol hft
  have m21 := hft 0 _ 21 rfl rfl
  have m22 := hft 1 _ 22 rfl rfl
  have m23 := hft 2 _ 23 rfl rfl
  have m24 := hft 3 _ 24 rfl rfl
  have m25 := hft 4 _ 25 rfl rfl
  have m26 := hft 5 _ 26 rfl rfl
  have m27 := hft 6 _ 27 rfl rfl
  have m28 := hft 7 _ 28 rfl rfl
  have m29 := hft 8 _ 29 rfl rfl
  have m30 := hft 9 _ 30 rfl rfl
  have M14 := hft 14 _ 7 rfl rfl
  have M15 := hft 15 _ 8 rfl rfl
  have HB3 := hide (HB2.out.trans (hb3.mono HB2.out.size))
  obtain ⟨c0, c1⟩ := HX2.out w3 hb3
  rename_i KK hKK
  refine hKK _ _ ?_
  show Code.wp _ _ _ A w3
  rw [frame_puts hdf hsz hol]
  simp only [List.foldl_cons, List.foldl_nil, Act.put, Option.getD_some, List.setIfInBounds_toArray, List.set_cons_succ, List.set_cons_zero]
  have X7 : Hid (Xs w3 (A.tmps.getD 7 undef) (aheadL S at_)) := M14
  have X8 : Hid (Xs w3 (A.tmps.getD 8 undef) (behindL S at_)) := M15
  clear m21 m22 m23 m24 m25 m26 m27 m28 m29 m30 M14 M15 hft hol hsz hdf hKK hb3 HX2
  generalize A.tmps.getD 7 undef = r7 at *
  generalize A.tmps.getD 8 undef = r8 at *
  have hc3 := HE.out w3
  go_wp2_with fail
  refine hc3.mono ?_
  rintro e w4 ⟨rfl, hb4⟩
  have X84 := X8.out.later hb4
  have hc4 := cut_any X84 (behind_ris HS1.out) (HS2.out.behind HS1.out) HBL.out fin (by omega)
  have HB4 := hide (HB3.out.trans (hb4.mono HB3.out.size))
  clear hc3 hb4 X84 c0 c1
  go_wp2_with fail
  refine hc4.mono ?_
  rintro e w5 ⟨u1, u2, rfl, hu1, hu2, hb5⟩
  have HB5 := hide (HB4.out.trans (hb5.mono HB4.out.size))
  have hc5 := clone39 hu1 (encXs_oneCell _) HAL.out
  clear hc4 hb5 hu2 hu1
  go_wp2_with fail
  refine hc5.mono ?_
  rintro e w6 ⟨u6, rfl, hF⟩
  have HR := hide hF.row
  have HN := hide hF.new
  have HB6 := hide (HB5.out.trans (hF.below.mono HB5.out.size))
  clear hc5 hF
  go_wp2
  go_ret
  exact ⟨_, rfl, HR.out, fun k hk => Nat.le_trans HB5.out.size (HN.out k hk), HB6.out⟩

end Wi
end Go.Proofs.Ytjbgojccfkmlnaa
