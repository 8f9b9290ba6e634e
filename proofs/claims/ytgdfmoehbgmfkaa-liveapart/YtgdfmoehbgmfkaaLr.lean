/- Count, as the document has it. -/
import Derived.Test.YtgdfmoehbgmfkaaLq
import Derived.Deep.AppendLies
namespace Go.Proofs.Ytgdfmoehbgmfkaa
open Go.RowKit
namespace Li
open Wi
theorem rcs_set2 : ∀ (m : Al Int) (i : Nat) (q v u : Int), m[i]? = some (q, v) → ((rcs (cntR m)).set (i * 3 + 1) (.int .i64 u)).set (i * 3 + 2) (.int .i64 u) = rcs (cntR (m.set i (q, u)))
  | [], i, _, _, _, h => by simp at h
  | p :: r, 0, q, v, u, h => by
    have h : p = (q, v) := by simpa using h
    subst h
    simp [cntR, rcs, rc]
  | p :: r, i + 1, q, v, u, h => by
    have ih := rcs_set2 r i q v u (by simpa using h)
    have e : rcs (cntR (p :: r)) = .int .i64 p.1 :: .int .i64 p.2 :: .int .i64 p.2 :: rcs (cntR r) := rfl
    have e2 : rcs (cntR ((p :: r).set (i + 1) (q, u))) = .int .i64 p.1 :: .int .i64 p.2 :: .int .i64 p.2 :: rcs (cntR (r.set i (q, u))) := rfl
    rw [e, e2, ← ih, show (i + 1) * 3 + 1 = i * 3 + 1 + 1 + 1 + 1 by omega, show (i + 1) * 3 + 2 = i * 3 + 2 + 1 + 1 + 1 by omega]
    simp only [List.set_cons_succ]
theorem putA_set : ∀ (m : Al Int) (i : Nat) (q v u : Int), Ris m → m[i]? = some (q, v) → putA m q u = m.set i (q, u)
  | [], i, _, _, _, _, h => by simp at h
  | p :: r, 0, q, v, u, _, h => by
    have h : p = (q, v) := by simpa using h
    subst h
    simp [putA]
  | p :: r, i + 1, q, v, u, hr, h => by
    have h : r[i]? = some (q, v) := by simpa using h
    have h1 := (List.pairwise_cons.1 hr).1 _ (List.mem_of_getElem? h)
    simp only at h1
    unfold putA
    rw [if_neg (by omega), if_neg (by omega), putA_set r i q v u hr.tail h]
    rfl
theorem insR_put : ∀ (m : Al Int) (q n : Int), getA m q = none → insR (cntR m) (q, n, n) = cntR (putA m q n)
  | [], _, _, _ => rfl
  | p :: r, q, n, h => by
    rw [getA_cons] at h
    by_cases e : p.1 = q
    · rw [if_pos e] at h; cases h
    · rw [if_neg e] at h
      have ih := insR_put r q n h
      unfold insR at ih ⊢
      have ec : cntR (p :: r) = (p.1, p.2, p.2) :: cntR r := rfl
      unfold putA
      by_cases hl : p.1 < q
      · rw [if_neg (by omega), if_neg (by omega), ec]
        simp only [List.takeWhile_cons, List.dropWhile_cons, decide_eq_true hl, if_true, List.cons_append, ih]
        rfl
      · rw [if_pos (by omega), ec]
        simp only [List.takeWhile_cons, List.dropWhile_cons, decide_eq_false hl, Bool.false_eq_true, if_false, List.nil_append]
        rfl
theorem cntR_get {m : Al Int} {i : Nat} {x : Ro} (h : (cntR m)[i]? = some x) : m[i]? = some (x.1, x.2.1) ∧ x.2.2 = x.2.1 := by
  unfold cntR at h
  rw [List.getElem?_map] at h
  cases hm : m[i]? with
  | none => rw [hm] at h; cases h
  | some p => rw [hm] at h; cases h; exact ⟨rfl, rfl⟩
theorem cntR_rng {m : Al Int} {k : Nat} (h : BndC m k) (hk : k ≤ 1000000) : ∀ x ∈ cntR m, I64 x.1 ∧ I64 x.2.1 ∧ I64 x.2.2 := by
  intro x hx
  obtain ⟨p, hp, rfl⟩ := List.mem_map.1 hx
  have := h.all p hp
  refine ⟨⟨?_, ?_⟩, ⟨?_, ?_⟩, ?_, ?_⟩ <;> (simp only; omega)
theorem cntR_len (m : Al Int) : (cntR m).length = m.length := List.length_map _
theorem row_later {w w' : World} {base : Nat} {e : TypeId} {size : Nat} {v : Value} {n : Nat} {xs : List Value} (h : w.ownsRow base e size v n xs) (hb : Below w.heap.size w w') : w'.ownsRow base e size v n xs := by
  rcases h.2 with ⟨h1, h2⟩ | ⟨g2, cap2, cur, h1, h2, h3, h4⟩
  · exact ⟨h.1, .inl ⟨h1, h2⟩⟩
  · exact ⟨h.1, .inr ⟨g2, cap2, cur, h1, h2, (hb.block g2 (lt_of_block h3)).trans h3, h4⟩⟩
set_option maxHeartbeats 16000000 in
set_option maxRecDepth 100000 in
/-- Count, as the document has it. -/
theorem refCount_any {w : World} {a : Option Addr} {n cap : Nat} {xs : List Ix} (hE : Ex w a n xs) (hn : n ≤ 1000000) (hall : xs.all Ix.may = true) : Calls Try.prog 20 #[.slice a n cap] w fun e w' =>
    Below w.heap.size w w' ∧ ∃ v, e = .returned v ∧ w'.ownsRow w.heap.size 35 3 v (cntM xs).length (rcs (cntR (cntM xs))) := by
  have HE := hide hE
  have HL := hide hE.len
  have HALL : Hid (∀ (j : Nat) (x : Ix), xs[j]? = some x → x.may = true) := fun j x hx => List.all_eq_true.1 hall x (List.mem_of_getElem? hx)
  have HR0 : Hid (w.ownsRow w.heap.size 35 3 (.slice none 0 0) 0 (rcs (cntR (cntM (xs.take 0))))) := World.ownsRow_nil _ _ _ _
  clear hE hall
  go_enter Try.func20, Try.ntmps20
  go_wp2
  go_loopw [3, 4] (fun c i wr => ∃ k : Nat, k ≤ n ∧ i = .int .i64 k ∧ wr.ownsRow w.heap.size 35 3 c (cntM (xs.take k)).length (rcs (cntR (cntM (xs.take k)))) ∧ Below w.heap.size w wr) (fun _ i _ => n - (intOf i).toNat)
  case atStart => exact ⟨0, Nat.zero_le _, rfl, HR0.out, Below.refl _ _⟩
  case round =>
    obtain ⟨k, hk, rfl, hrow, hb⟩ := hrel
    by_cases hlt : k < n
    · obtain ⟨x, hx⟩ : ∃ x, xs[k]? = some x := ⟨_, List.getElem?_eq_getElem (by have := HL.out; omega)⟩
      obtain ⟨g, off, rfl, hg, c0, c1, c2, c3⟩ := (HE.out.later hb).cells k x hx
      have HS : Hid (cntM (xs.take (k + 1)) = stepC (cntM (xs.take k)) x) := by show _ = _; rw [snoc_take _ _ _ hx, cntM_snoc]
      have hmx := HALL.out k x hx
      have HG := hide (mayX_get hmx)
      have hbd := cntM_bnd k xs (by have := HL.out; omega) (fun j x _ hj => HALL.out j x hj)
      have HBD := hide hbd
      have hrs := cntM_ris (xs.take k)
      have hml : (cntM (xs.take k)).length ≤ k := Nat.le_trans (cntM_len _) (List.length_take_le k xs)
      generalize cntM (xs.take k) = m at *
      have HB := hide hb
      have HRIS := hide hrs
      have HX := hide hx
      clear hx hb hbd hrs
      by_cases hq : x.q = 0
      · have HC : Hid (stepC m x = m) := by show _ = _; unfold stepC; rw [if_pos hq]
        rw [hq] at c2
        go_wp2
        go_roundw
        case rel => exact ⟨k + 1, by omega, by go_num, by rw [HS.out, HC.out]; exact hrow, HB.out⟩
        case measure => simp [intOf]; omega
      · have HC : Hid (stepC m x = putA m x.q ((getA m x.q).getD 0 + x.n)) := by show _ = _; unfold stepC; rw [if_neg hq]
        obtain ⟨a3, cap3, hv3⟩ := row_slice (own_base hrow (Nat.zero_le _))
        subst hv3
        have hrng := cntR_rng HBD.out (by omega)
        have hf := find_any (q := x.q) (cap := cap3) (er_own35 hrow (cntR_len m).symm hrng) (by omega)
        have HROW := hide hrow
        have HRNG := hide hrng
        clear hrow hrng
        go_wp2_with fail
        refine hf.mono ?_
        rintro e w2 ⟨hb2, ⟨rfl, hno⟩ | ⟨i, y, hy, hyq, rfl⟩⟩
        · have hmn : getA m x.q = none := getA_none.2 fun p hp => by
            obtain ⟨j, hj, rfl⟩ := List.mem_iff_getElem.1 hp
            have hjm : m[j]? = some m[j] := List.getElem?_eq_getElem hj
            exact hno j (m[j].1, m[j].2, m[j].2) (by unfold cntR; rw [List.getElem?_map, hjm]; rfl)
          have HN : Hid (cntM (xs.take (k + 1)) = putA m x.q x.n) := by show _ = _; rw [HS.out, HC.out, hmn]; exact congrArg (putA m x.q) (Int.zero_add _)
          have HLEN : Hid ((putA m x.q x.n).length = m.length + 1) := by show _ = _; rw [putA_length m HRIS.out, hmn]; rfl
          have HIN : Hid (rcs (insR (cntR m) (x.q, x.n, x.n)) = rcs (cntR (putA m x.q x.n))) := congrArg rcs (insR_put m x.q x.n hmn)
          have hrow2 := row_later HROW.out hb2
          have hrowD : w2.drew.ownsRow w.heap.size 35 3 (.slice a3 m.length cap3) m.length (rcs (cntR m)) := hrow2
          have hw := with_any x.q x.n x.n hrowD (cntR_len m).symm HRNG.out (by omega)
          have HB2 := hide (HB.out.trans (hb2.mono HB.out.size))
          have d0 := (hb2.cell (p := ⟨g, off + k * 4, none⟩) hg).trans c0
          have d1 := (hb2.cell (p := ⟨g, off + k * 4 + 1, none⟩) hg).trans c1
          have d2 := (hb2.cell (p := ⟨g, off + k * 4 + 2, none⟩) hg).trans c2
          clear hf hno hmn hrow2 hrowD hb2 c0 c1 c2 c3
          go_wp2
          go_region_with (go_at_call 43; refine hw.mono ?_; rintro e w4 ⟨hb4, v4, rfl, hrow4⟩)
          all_goals have HB4 := hide (HB2.out.drew.trans (hb4.mono HB2.out.size))
          all_goals have hrow5 := own_base hrow4 HB2.out.size
          all_goals go_wp2
          all_goals exact ⟨⟨k + 1, by omega, by go_num, by rw [HN.out, HLEN.out, ← HIN.out]; exact hrow5, HB4.out⟩, by simp [intOf]; omega⟩
        · obtain ⟨hmi, hy2⟩ := cntR_get hy
          obtain ⟨y2, rfl⟩ : ∃ v, y = (x.q, v, v) := ⟨y.2.1, by obtain ⟨a, b, c⟩ := y; simp only at hy2 hyq; rw [hyq, hy2]⟩
          simp only at hmi
          have hil := (List.getElem?_eq_some_iff.1 hmi).1
          have hbv := HBD.out.all _ (List.mem_of_getElem? hmi)
          simp only at hbv
          obtain ⟨g3, cap4, hv3, hg3⟩ := row_form (own_base HROW.out (Nat.zero_le _)) (by omega)
          injection hv3 with hv3 _ hv4
          subst hv3
          have hrow2 := row_later HROW.out hb2
          have hg3b : w.heap.size ≤ g3 := by
            rcases HROW.out.2 with ⟨h1, _⟩ | ⟨g', _, _, h1, h2, _⟩
            · cases h1
            · injection h1 with h1 _ _; injection h1 with h1; injection h1 with h1; omega
          have hgn : getA m x.q = some y2 := getA_of_mem HRIS.out (List.mem_of_getElem? hmi)
          have HN : Hid (cntM (xs.take (k + 1)) = m.set i (x.q, y2 + x.n)) := by show _ = _; rw [HS.out, HC.out, hgn]; exact putA_set m i x.q y2 (y2 + x.n) HRIS.out hmi
          have HLEN : Hid ((m.set i (x.q, y2 + x.n)).length = m.length) := List.length_set
          have HIN : Hid (((rcs (cntR m)).set (i * 3 + 1) (.int .i64 (y2 + x.n))).set (i * 3 + 2) (.int .i64 (y2 + x.n)) = rcs (cntR (m.set i (x.q, y2 + x.n)))) := rcs_set2 m i x.q y2 (y2 + x.n) hmi
          have hgg : (cntR m)[i]! = (x.q, y2, y2) := by rw [getElem!_pos _ i (by rw [cntR_len]; exact hil)]; exact (List.getElem?_eq_some_iff.1 hy).2
          have e1 : w2.cell? ⟨g3, i * 3 + 1, none⟩ = some (.int .i64 y2) := by
            rw [World.ownsRow.cellAt hrow2 (i * 3 + 1) (by omega), rcs_get (cntR m) (i * 3 + 1) (by rw [cntR_len]; omega), show (i * 3 + 1) / 3 = i by omega, show (i * 3 + 1) % 3 = 1 by omega, hgg]
            rfl
          have e2 : w2.cell? ⟨g3, i * 3 + 2, none⟩ = some (.int .i64 y2) := by
            rw [World.ownsRow.cellAt hrow2 (i * 3 + 2) (by omega), rcs_get (cntR m) (i * 3 + 2) (by rw [cntR_len]; omega), show (i * 3 + 2) / 3 = i by omega, show (i * 3 + 2) % 3 = 2 by omega, hgg]
            rfl
          have hfz := World.ownsRow.frozenAt hrow2
          have hfz1 := hfz (i * 3 + 1)
          have HB2 := hide (HB.out.trans (hb2.mono HB.out.size))
          obtain ⟨hrow3, hgrow3⟩ := World.ownsRow.stored hrow2 (i * 3 + 1) (.int .i64 (y2 + x.n))
          have hgw : g ≠ g3 := by
            obtain ⟨g', off', e, hg', _⟩ := HE.out.cells k x HX.out
            injection e with e
            injection e with e1 e2
            omega
          have f1 : -9223372036854775808 ≤ y2 + x.n ∧ y2 + x.n ≤ 9223372036854775807 := by have := HG.out; omega
          obtain ⟨f1, f2⟩ := f1
          have d1 := (hb2.cell (p := ⟨g, off + k * 4 + 1, none⟩) hg).trans c1
          have HB3 := (HB2.out.grown hgrow3 HB2.out.size (fun i hi => by injection hi with hi; omega)).drew
          have hg2 : g < w2.heap.size := Nat.lt_of_lt_of_le hg hb2.size
          have d3 := (World.grownBy.cell_far hgrow3 ⟨g, off + k * 4 + 1, none⟩ hg2 (fun e => hgw (Option.some.inj e))).trans d1
          have d4 : (w2.setCell ⟨g3, i * 3 + 1, none⟩ (.int .i64 (y2 + x.n))).cell? ⟨g3, i * 3 + 2, none⟩ = some (.int .i64 y2) := by
            rw [World.ownsRow.cellAt hrow3 (i * 3 + 2) (by omega), List.getElem?_set_ne (by omega), ← World.ownsRow.cellAt hrow2 (i * 3 + 2) (by omega)]
            exact e2
          have hfz2 := World.ownsRow.frozenAt hrow3 (i * 3 + 2)
          have hrow3D : (w2.setCell ⟨g3, i * 3 + 1, none⟩ (.int .i64 (y2 + x.n))).drew.ownsRow w.heap.size 35 3 (.slice (some ⟨g3, 0, none⟩) m.length cap3) m.length ((rcs (cntR m)).set (i * 3 + 1) (.int .i64 (y2 + x.n))) := hrow3
          have d3D : (w2.setCell ⟨g3, i * 3 + 1, none⟩ (.int .i64 (y2 + x.n))).drew.cell? ⟨g, off + k * 4 + 1, none⟩ = some (.int .i64 x.n) := d3
          have d4D : (w2.setCell ⟨g3, i * 3 + 1, none⟩ (.int .i64 (y2 + x.n))).drew.cell? ⟨g3, i * 3 + 2, none⟩ = some (.int .i64 y2) := d4
          have hfz2D : (w2.setCell ⟨g3, i * 3 + 1, none⟩ (.int .i64 (y2 + x.n))).drew.frozen? ⟨g3, i * 3 + 2, none⟩ = false := hfz2
          clear hf hy hmi hgn hfz c0 c1 c2 c3 hb2 hrow2 hgg hbv hrow3 hgrow3 d3 d4 hfz2
          have HD := hide (And.intro d3D (And.intro d4D (And.intro hfz2D (And.intro hrow3D HB3))))
          clear d3D d4D hfz2D hrow3D HB3
          go_wp2
          go_region
          have HD2 := HD.out
          generalize (w2.setCell ⟨g3, i * 3 + 1, none⟩ (.int .i64 (y2 + x.n))).drew = w3 at *
          obtain ⟨d3, d4, hfz2, hrow3, HB3⟩ := HD2
          obtain ⟨hrow4, hgrow4⟩ := World.ownsRow.stored hrow3 (i * 3 + 2) (.int .i64 (y2 + x.n))
          have HB4 := (HB3.grown hgrow4 HB3.size (fun i hi => by injection hi with hi; omega)).drew
          have hrow4D : (w3.setCell ⟨g3, i * 3 + 2, none⟩ (.int .i64 (y2 + x.n))).drew.ownsRow w.heap.size 35 3 (.slice (some ⟨g3, 0, none⟩) m.length cap3) m.length (((rcs (cntR m)).set (i * 3 + 1) (.int .i64 (y2 + x.n))).set (i * 3 + 2) (.int .i64 (y2 + x.n))) := hrow4
          have HD4 := hide (And.intro hrow4D HB4)
          clear HD hrow3 HB3 hrow4 hgrow4 HB4 hrow4D e1 e2 d1 hfz1
          go_wp2
          go_region
          have HD2 := HD4.out
          generalize (w3.setCell ⟨g3, i * 3 + 2, none⟩ (.int .i64 (y2 + x.n))).drew = w4 at *
          obtain ⟨hrow5, HB5⟩ := HD2
          clear HD4
          go_wp2
          exact ⟨⟨k + 1, by omega, by go_num, by rw [HN.out, HLEN.out, ← HIN.out]; exact hv4 ▸ hrow5, HB5⟩, by simp [intOf]; omega⟩
    · obtain rfl : k = n := by omega
      have htk : xs.take k = xs := List.take_of_length_le (by have := HL.out; omega)
      rw [htk] at hrow
      have HRW := hide hrow
      have HB := hide hb
      clear hrow hb htk
      go_wp2
      go_ret
      exact ⟨HB.out, _, rfl, HRW.out⟩
end Li
end Go.Proofs.Ytgdfmoehbgmfkaa
