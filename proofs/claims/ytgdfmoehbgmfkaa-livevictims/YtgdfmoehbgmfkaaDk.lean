/- Victims: those of fewer of a hundred stand first; parts rise. -/
import Derived.Test.YtgdfmoehbgmfkaaDz
import Derived.Test.YtgdfmoehbgmfkaaNb
namespace Go.Proofs.Ytgdfmoehbgmfkaa
open Go.RowKit
namespace Li
open Wi
theorem read_min : Ieee.double.read 13830554455654793216 = .number true 4503599627370496 (-52) := by decide +kernel
theorem order_min (x K : Nat) (i : Int) (hx : Ieee.double.read x = .number false K i) : Ieee.double.order x 13830554455654793216 = some .gt := by
  unfold Ieee.Format.order
  rw [hx, read_min]
  show some (compare ((K <<< (i - min i (-52)).toNat : Nat) : Int) (-((4503599627370496 <<< ((-52 : Int) - min i (-52)).toNat : Nat) : Int))) = _
  generalize K <<< (i - min i (-52)).toNat = Y
  rw [cmp_int, Nat.shiftLeft_eq 4503599627370496]
  have hp : 1 ≤ 2 ^ ((-52 : Int) - min i (-52)).toNat := Nat.two_pow_pos _
  have : 4503599627370496 * 1 ≤ 4503599627370496 * 2 ^ ((-52 : Int) - min i (-52)).toNat := Nat.mul_le_mul_left _ hp
  generalize 4503599627370496 * 2 ^ ((-52 : Int) - min i (-52)).toNat = Z at *
  rw [ordN_gt (by omega)]
theorem part_min {t l : Int} (_h1 : 0 ≤ l) (h2 : l ≤ t) (h3 : t ≤ 65536) (h4 : 0 < t) : FloatKind.f64.format.order (pw t l) 13830554455654793216 = some .gt := by
  show Ieee.double.order (partW l.toNat t.toNat) _ = _
  rcases Nat.eq_zero_or_pos l.toNat with e | e
  · rw [e, part_zero _ (by omega) (by omega)]
    exact order_min _ _ _ read_zero
  · obtain ⟨F, k, hF, k1, k2, hw⟩ := part_pos l.toNat t.toNat e (by omega) (by omega)
    rw [hw]
    exact order_min _ _ _ (read_word _ _ k1 k2 (by omega))
/-- In order of a relation, those that a property holds of stand first, if it holds of all that come ahead. -/
theorem part_split {α : Type} {S : α → α → Prop} {P : α → Bool} (hd : ∀ x y, S x y → P y = true → P x = true) : ∀ {l : List α}, l.Pairwise S → l = l.filter P ++ l.filter (fun x => !P x)
  | [], _ => rfl
  | x :: r, h => by
    have hp := List.pairwise_cons.1 h
    have ih := part_split hd hp.2
    cases hx : P x with
    | true => rw [List.filter_cons, List.filter_cons, hx]; simp only [if_true, Bool.not_true, Bool.false_eq_true, if_false, List.cons_append]; rw [← ih]
    | false =>
      have h0 : r.filter P = [] := by
        rw [List.filter_eq_nil_iff]
        intro y hy hPy
        have := hd x y (hp.1 y hy) hPy
        rw [hx] at this; cases this
      have h1 : r.filter (fun x => !P x) = r := by
        rw [List.filter_eq_self]
        intro y hy
        have := List.filter_eq_nil_iff.1 h0 y hy
        simpa using this
      rw [List.filter_cons, List.filter_cons, hx, h0, h1]
      simp
theorem pick_down {q : Int} (x y : Vr) (h : loV x y) (hy : pick q y.1 = true) : pick q x.1 = true := by
  have hle : x.1.2.2 * y.1.2.1 ≤ y.1.2.2 * x.1.2.1 := by
    rcases h with h | ⟨h, _⟩
    · have := (ltV_iff x y).1 h; omega
    · exact (ltV_no y x).1 h
  obtain ⟨a1, a2, a3, a4⟩ := x.get
  obtain ⟨b1, b2, b3, b4⟩ := y.get
  unfold pick at *
  rw [decide_eq_true_eq] at *
  generalize x.1.2.2 = xl at *
  generalize x.1.2.1 = xt at *
  generalize y.1.2.2 = yl at *
  generalize y.1.2.1 = yt at *
  have h1 := Int.mul_lt_mul_of_pos_right hy a4
  have h2 : xl * 100 * yt ≤ yl * 100 * xt := by
    have := Int.mul_le_mul_of_nonneg_left hle (show (0 : Int) ≤ 100 by omega)
    rw [Int.mul_comm xl 100, Int.mul_comm yl 100, Int.mul_assoc, Int.mul_assoc]; exact this
  have h3 : (xl * 100) * yt < (q * xt) * yt := by
    rw [Int.mul_right_comm q xt yt]; omega
  exact Int.lt_of_mul_lt_mul_right h3 (Int.le_of_lt b4)
theorem pick_mono {q0 q1 : Int} (h : q0 ≤ q1) {x : Ro} (hm : mayRo x = true) (hp : pick q0 x = true) : pick q1 x = true := by
  unfold pick at *
  rw [decide_eq_true_eq] at *
  have := Int.mul_le_mul_of_nonneg_right h (mayR_get hm).2.2.1
  omega
theorem vic_sorted {rs : Rows} {q : Int} {d : Array Vr} (hr : Ris rs) (hd : d.toList.map (fun x => x.1) = rs.filter (pick q)) : (srtS d).toList.Perm d.toList ∧ (srtS d).toList.Pairwise loV := by
  have h1 : (rs.filter (pick q)).Pairwise (fun x y : Ro => x.1 < y.1) := hr.sublist List.filter_sublist
  rw [← hd] at h1
  have hrise := (List.pairwise_map (f := fun x : Vr => x.1) (R := fun x y : Ro => x.1 < y.1)).1 h1
  have h2 := stableV d.toList hrise
  unfold srtS
  rw [Array.length_toList] at h2
  exact h2
theorem val_inj {l m : List Vr} (h : l.map (fun x => x.1) = m.map (fun x => x.1)) : l = m := (List.map_inj_right (fun _ _ hab => Subtype.ext hab)).1 h
/-- Fewer of a hundred: the first ones of them. -/
theorem vic_prefix {rs : Rows} {q0 q1 : Int} {d0 d1 : Array Vr} (hr : Ris rs) (hm : ∀ x ∈ rs, mayRo x = true) (hq : q0 ≤ q1) (h0 : d0.toList.map (fun x => x.1) = rs.filter (pick q0)) (h1 : d1.toList.map (fun x => x.1) = rs.filter (pick q1)) :
    (srtS d1).toList.take (srtS d0).toList.length = (srtS d0).toList := by
  obtain ⟨p0, s0⟩ := vic_sorted hr h0
  obtain ⟨p1, s1⟩ := vic_sorted hr h1
  generalize (srtS d0).toList = A at *
  generalize (srtS d1).toList = B at *
  have hsplit := part_split (P := fun x : Vr => pick q0 x.1) (fun x y => pick_down x y) s1
  have hdd : d1.toList.filter (fun x => pick q0 x.1) = d0.toList := by
    apply val_inj
    have e : (d1.toList.filter (fun x : Vr => pick q0 x.1)).map (fun x => x.1) = (d1.toList.map (fun x => x.1)).filter (pick q0) := by
      rw [List.filter_map]; rfl
    rw [e, h1, h0, List.filter_filter]
    refine List.filter_congr fun x hx => ?_
    cases hp : pick q0 x with
    | false => simp
    | true => rw [pick_mono hq (hm x hx) hp]; rfl
  have hA : B.filter (fun x => pick q0 x.1) = A := by
    refine List.Perm.eq_of_pairwise (fun a b _ _ k1 k2 => absurd (ordV.tr _ _ _ k1 k2) (ordV.ir _)) (s1.sublist List.filter_sublist) s0 ?_
    refine (p1.filter _).trans ?_
    rw [hdd]
    exact p0.symm
  rw [hA] at hsplit
  rw [hsplit, List.take_left']
  rfl
theorem pick_zero {rs : List Ro} (hm : ∀ x ∈ rs, mayRo x = true) : rs.filter (pick 0) = [] := by
  rw [List.filter_eq_nil_iff]
  intro x hx hp
  have := mayR_get (hm x hx)
  unfold pick at hp
  rw [decide_eq_true_eq] at hp
  omega
/-- Parts that come one behind the other do not fall. -/
theorem part_rise {x y : Vr} (h : loV x y) : ∃ o, FloatKind.f64.format.order (pw y.1.2.1 y.1.2.2) (pw x.1.2.1 x.1.2.2) = some o ∧ (o = .eq ∨ o = .gt) := by
  obtain ⟨a1, a2, a3, a4⟩ := x.get
  obtain ⟨b1, b2, b3, b4⟩ := y.get
  have hle : x.1.2.2 * y.1.2.1 ≤ y.1.2.2 * x.1.2.1 := by
    rcases h with h | ⟨h, _⟩
    · have := (ltV_iff x y).1 h; omega
    · exact (ltV_no y x).1 h
  refine ⟨_, pw_order b1 b2 b3 b4 a1 a2 a3 a4, ?_⟩
  rcases Int.lt_or_eq_of_le hle with e | e
  · exact .inr (ordN_gt e)
  · exact .inl (ordN_eq e.symm)
theorem own_to {w : World} {n0 : Nat} {a : Option Addr} {n cap : Nat} {xs : List Value} {la : Nat} (h : w.ownsRow n0 3 1 (.slice a n cap) n xs) (hl : la ≤ n) :
    ∃ a', (∀ w, (Instr.slice 54 (.slice a n cap) none (some (.int .i64 (la : Nat))) none).run Try.prog w = .ok (.slice a' la cap) w) ∧ w.ownsRow n0 3 1 (.slice a' la cap) la (xs.take la) := by
  rcases h.2 with ⟨hv, h0⟩ | ⟨g, cap', cur, hv, hb, hgg, h3, h4, h5, h6⟩
  · injection hv with e1 e2 e3
    subst e1 e3
    have : la = 0 := by omega
    subst this
    refine ⟨none, fun w => ?_, ?_⟩
    · simp [Instr.slice, Instr.sliceBounds, Instr.sliceBound, run_underlying Try.underlying54, asIntOf, go_sem]
    · rw [List.take_zero]; exact World.ownsRow_nil _ _ _ _
  · injection hv with e1 e2 e3
    subst e1 e3
    refine ⟨some ⟨g, 0, none⟩, fun w => ?_, ?_⟩
    · have b1 : la ≤ cap := by omega
      simp [Instr.slice, Instr.sliceBounds, Instr.sliceBound, run_underlying Try.underlying54, asIntOf, b1, go_sem]
    · refine ⟨by rw [List.length_take, h.1]; omega, .inr ⟨g, cap, cur, rfl, hb, hgg, by omega, h4, h5, ?_⟩⟩
      rw [← h6, List.take_take]
      congr 1
      omega
end Li
end Go.Proofs.Ytgdfmoehbgmfkaa
