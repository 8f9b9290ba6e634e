/- How many sectors of each object extents have: sectors. -/
import Derived.Test.YtgdfmoehbgmfkaaLm
import Derived.Test.YtgdfmoehbgmfkaaLj
import Derived.Maps.OwnOps
namespace Go.Proofs.Ytgdfmoehbgmfkaa
open Go.RowKit
namespace Li
open Wi
def stepC (m : Al Int) (x : Ix) : Al Int := if x.q = 0 then m else putA m x.q ((getA m x.q).getD 0 + x.n)
/-- How many sectors of each object extents have. -/
def cntM (xs : List Ix) : Al Int := xs.foldl stepC []
theorem cntM_snoc (xs : List Ix) (x : Ix) : cntM (xs ++ [x]) = stepC (cntM xs) x := by simp [cntM, List.foldl_append]
theorem stepC_ris {m : Al Int} (h : Ris m) (x : Ix) : Ris (stepC m x) := by
  unfold stepC
  split
  · exact h
  · exact h.put _ _
theorem foldC_ris : ∀ (xs : List Ix) (m : Al Int), Ris m → Ris (xs.foldl stepC m)
  | [], _, h => h
  | x :: r, _, h => foldC_ris r _ (stepC_ris h x)
theorem cntM_ris (xs : List Ix) : Ris (cntM xs) := foldC_ris xs [] ris_nil
structure BndC (m : Al Int) (k : Nat) : Prop where
  all : ∀ p ∈ m, (1 ≤ p.1 ∧ p.1 < 1099511627776) ∧ 0 ≤ p.2 ∧ p.2 ≤ k * 65536
theorem mayX_get {x : Ix} (h : x.may = true) : 0 ≤ x.a ∧ 1 ≤ x.n ∧ x.n ≤ 65536 ∧ x.a ≤ 65536 ∧ 0 ≤ x.q ∧ x.q < 1099511627776 ∧ 0 ≤ x.t ∧ x.t < 1099511627776 := by
  unfold Ix.may mayX mayS mayP at h
  simp only [Bool.and_eq_true, decide_eq_true_eq] at h
  omega
theorem putA_val {β : Type} (l : Al β) (k : Int) (v : β) (q : Int × β) (h : q ∈ putA l k v) : (q.1 = k ∧ q.2 = v) ∨ q ∈ l := by
  induction l with
  | nil => simp [putA] at h; subst h; exact .inl ⟨rfl, rfl⟩
  | cons p r ih =>
    unfold putA at h
    split at h
    · rcases List.mem_cons.1 h with h1 | h1
      · subst h1; exact .inl ⟨rfl, rfl⟩
      · exact .inr h1
    · split at h
      · rcases List.mem_cons.1 h with h1 | h1
        · subst h1; exact .inl ⟨rfl, rfl⟩
        · exact .inr (List.mem_cons_of_mem _ h1)
      · rcases List.mem_cons.1 h with h1 | h1
        · subst h1; exact .inr (List.mem_cons_self ..)
        · rcases ih h1 with h2 | h2
          · exact .inl h2
          · exact .inr (List.mem_cons_of_mem _ h2)
theorem stepC_bnd {m : Al Int} {k : Nat} (h : BndC m k) {x : Ix} (hx : x.may = true) : BndC (stepC m x) (k + 1) := by
  have g := mayX_get hx
  refine ⟨fun p hp => ?_⟩
  unfold stepC at hp
  split at hp
  · have := h.all p hp; omega
  · next hq =>
    by_cases e : p.1 = x.q
    · have hv : p.2 = (getA m x.q).getD 0 + x.n ∨ p ∈ m := by
        have hr := putA_val m x.q ((getA m x.q).getD 0 + x.n) p hp
        rcases hr with h1 | h1
        · exact .inl h1.2
        · exact .inr h1
      rcases hv with hv | hv
      · cases hg : getA m x.q with
        | none => rw [hg] at hv; simp at hv; omega
        | some v =>
          have := h.all _ (getA_mem hg)
          rw [hg] at hv
          simp at hv this
          omega
      · have := h.all p hv; omega
    · rcases putA_keys m x.q _ p hp with h1 | h1
      · exact absurd h1 e
      · have := h.all p h1; omega
theorem cntM_bnd : ∀ (k : Nat) (xs : List Ix), k ≤ xs.length → (∀ j x, j < k → xs[j]? = some x → x.may = true) → BndC (cntM (xs.take k)) k
  | 0, xs, _, _ => ⟨fun p hp => by simp [cntM] at hp⟩
  | k + 1, xs, hk, h => by
    obtain ⟨x, hx⟩ : ∃ x, xs[k]? = some x := ⟨_, List.getElem?_eq_getElem (by omega)⟩
    rw [snoc_take _ _ _ hx, cntM_snoc]
    exact stepC_bnd (cntM_bnd k xs (by omega) (fun j y hj hy => h j y (by omega) hy)) (h k x (by omega) hx)
theorem stepC_len (m : Al Int) (x : Ix) : (stepC m x).length ≤ m.length + 1 := by
  unfold stepC
  split
  · omega
  · exact putA_length_le _ _ _
theorem foldC_len : ∀ (xs : List Ix) (m : Al Int), (xs.foldl stepC m).length ≤ m.length + xs.length
  | [], _ => by simp
  | x :: r, m => by
    have h1 := foldC_len r (stepC m x)
    have h2 := stepC_len m x
    simp only [List.foldl_cons, List.length_cons]
    omega
theorem cntM_len (xs : List Ix) : (cntM xs).length ≤ xs.length := by have := foldC_len xs []; simpa [cntM] using this
/-- A map of ints reads as this list. -/
def iD (_ : Int) (v : Int) : DataW Unit := .lit (.int .i64 v)
def CMap (w : World) (b : Nat) (m : Al Int) : Prop := Ris m ∧ w.ownsMap (H := Unit) Try.prog 3 (plainElem Try.prog 3) b m.length (mapG iD m)
theorem CMap.later {w w' : World} {b : Nat} {m : Al Int} (h : CMap w b m) (hb : Below w.heap.size w w') : CMap w' b m := by
  obtain ⟨es, clock, h1, Ft, hs, hD⟩ := h.2
  exact ⟨h.1, es, clock, (hb.block b (lt_of_block h1)).trans h1, Ft, hs, hD⟩
theorem CMap.alloc {w : World} {b : Nat} {m : Al Int} (h : CMap w b m) (o : Obj) : CMap (w.alloc o) b m := h.later (below_alloc w o)
theorem CMap.put {w' : World} {b n : Nat} {m : Al Int} {k v : Int} (hr : Ris m) (h : w'.ownsMap (H := Unit) Try.prog 3 (plainElem Try.prog 3) b n ((mapG iD m).put (.int .i64 k) (.lit (.int .i64 v)))) : CMap w' b (putA m k v) := by
  have e : (mapG iD m).put (.int .i64 k) (.lit (.int .i64 v)) = mapG iD (putA m k v) := put_mapG iD m hr k v
  rw [e] at h
  exact ⟨hr.put k v, own_tight h⟩
theorem CMap.at {m : Al Int} {k c : Int} (h : (mapG iD m).atKey (.int .i64 k) (.lit (.int .i64 0)) = .lit (.int .i64 c)) : c = (getA m k).getD 0 := by
  rw [at_mapG] at h
  cases hg : getA m k with
  | none =>
    rw [hg] at h
    have h2 : (DataW.lit (.int .i64 0) : DataW Unit) = .lit (.int .i64 c) := h
    injection h2 with h2
    injection h2 with _ h2
    exact h2.symm
  | some v =>
    rw [hg] at h
    have h2 : (DataW.lit (.int .i64 v) : DataW Unit) = .lit (.int .i64 c) := h
    injection h2 with h2
    injection h2 with _ h2
    exact h2.symm
theorem xcells {w w' : World} {a n q t : Int} {ty : TypeId} (hb : Below (w.alloc (.cells #[.int .i64 a, .int .i64 n, .int .i64 q, .int .i64 t] ty)).heap.size (w.alloc (.cells #[.int .i64 a, .int .i64 n, .int .i64 q, .int .i64 t] ty)) w') : w'.cell? ⟨w.heap.size, 1, none⟩ = some (.int .i64 n) ∧ w'.cell? ⟨w.heap.size, 2, none⟩ = some (.int .i64 q) := by
  have h := hb.block w.heap.size (by simp)
  have h2 : w'.heap[w.heap.size]? = some (.cells #[.int .i64 a, .int .i64 n, .int .i64 q, .int .i64 t] ty (0, 0)) := h.trans (heap_alloc_new w _)
  refine ⟨?_, ?_⟩ <;> (rw [cell_of_row _ _ _ _ _ _ h2]; rfl)
set_option maxHeartbeats 8000000 in
set_option maxRecDepth 100000 in
/-- sectors: how many sectors of each object extents have. -/
theorem sectors_any {w : World} {a : Option Addr} {n cap : Nat} {xs : List Ix} (hE : Ex w a n xs) (hn : n ≤ 1000000) : Calls Try.prog 40 #[.slice a n cap] w fun e w' =>
    Below w.heap.size w w' ∧ ((xs.all Ix.may = false ∧ e = .returned (.tuple #[.map none, .int .i64 1])) ∨ (xs.all Ix.may = true ∧ ∃ b, e = .returned (.tuple #[.map (some b), .int .i64 0]) ∧ w.heap.size ≤ b ∧ CMap w' b (cntM xs))) := by
  have HE := hide hE
  have HL := hide hE.len
  have HM0 : Hid (CMap (w.alloc (.map #[] 0)) w.heap.size (cntM (xs.take 0))) := ⟨cntM_ris _, by
    have := World.ownsMap_made (H := Unit) w Try.prog 3 (plainElem Try.prog 3)
    simpa [cntM, mapG_nil] using this⟩
  have HB0 := hide (below_alloc w (.map #[] 0))
  clear hE
  have hmm := @run_makeMap Try.prog
  have u85 := run_underlying Try.underlying85
  go_enter Try.func40, Try.ntmps40
  go_wp2
  clear hmm u85
  go_loopw [11] (fun i wr => ∃ k : Nat, k ≤ n ∧ i = .int .i64 k ∧ (∀ j x, j < k → xs[j]? = some x → x.may = true) ∧ CMap wr w.heap.size (cntM (xs.take k)) ∧ Below w.heap.size w wr) (fun i _ => n - (intOf i).toNat)
  case atStart => exact ⟨0, Nat.zero_le _, rfl, fun j o h => by omega, HM0.out, HB0.out⟩
  case round =>
    obtain ⟨k, hk, rfl, hall, hmap, hb⟩ := hrel
    by_cases hlt : k < n
    · obtain ⟨x, hx⟩ : ∃ x, xs[k]? = some x := ⟨_, List.getElem?_eq_getElem (by have := HL.out; omega)⟩
      obtain ⟨g, off, rfl, hg, c0, c1, c2, c3⟩ := (HE.out.later hb).cells k x hx
      have hR := HE.out.rng x (List.mem_of_getElem? hx)
      have hc := exmay_any x.a x.n x.q x.t hR.a hR.n (wr.alloc (.cells #[.int .i64 x.a, .int .i64 x.n, .int .i64 x.q, .int .i64 x.t] 51))
      have HB := hide (hb.alloc hb.size (.cells #[.int .i64 x.a, .int .i64 x.n, .int .i64 x.q, .int .i64 x.t] 51))
      have HX := hide hx
      have HA := hide hall
      have HMAP := hide (hmap.alloc (.cells #[.int .i64 x.a, .int .i64 x.n, .int .i64 x.q, .int .i64 x.t] 51))
      unfold vX at hc
      have hmm' : mayX x.a x.n x.q x.t = x.may := rfl
      rw [hmm'] at hc
      clear hmm' hmap hb hx hall
      cases hmm : x.may with
      | false =>
        have HF : Hid (xs.all Ix.may = false) := by
          show _ = _
          cases hq : xs.all Ix.may with
          | false => rfl
          | true => have := List.all_eq_true.1 hq x (List.mem_of_getElem? HX.out); rw [hmm] at this; cases this
        rw [hmm] at hc
        have e2 : erB false = 1 := rfl
        rw [e2] at hc
        clear hmm e2
        go_wp2_with fail
        refine hc.mono ?_
        rintro e w2 ⟨rfl, hb2⟩
        have HB2 := hide (HB.out.trans (hb2.mono HB.out.size))
        clear hc hb2
        go_wp2
        go_ret2
        exact ⟨HB2.out, .inl ⟨HF.out, rfl⟩⟩
      | true =>
        rw [hmm] at hc
        have e2 : erB true = 0 := rfl
        rw [e2] at hc
        have HM := hide hmm
        have HBD := hide (cntM_bnd k xs (by have := HL.out; omega) HA.out)
        have HG := hide (mayX_get hmm)
        have hq2 : x.q = 0 ∨ ¬ x.q = 0 := by omega
        clear hmm e2
        have HALL : Hid (∀ j y, j < k + 1 → xs[j]? = some y → y.may = true) := fun j y hj hy => by
          by_cases e : j = k
          · subst e
            have := HX.out
            rw [hy] at this
            injection this with this
            rw [this]
            exact HM.out
          · exact HA.out j y (by omega) hy
        go_wp2_with fail
        refine hc.mono ?_
        rintro e w2 ⟨rfl, hb2⟩
        have HB2 := hide (HB.out.trans (hb2.mono HB.out.size))
        have HMAP2 := hide (HMAP.out.later hb2)
        obtain ⟨d1, d2⟩ := xcells hb2
        clear hc hb2
        rcases hq2 with hq | hq
        · have HC : Hid (cntM (xs.take (k + 1)) = cntM (xs.take k)) := by
            show _ = _
            rw [snoc_take _ _ _ HX.out, cntM_snoc]
            unfold stepC
            rw [if_pos hq]
          rw [hq] at d2
          go_wp2
          go_roundw
          case rel => exact ⟨k + 1, by omega, by go_num, HALL.out, by rw [HC.out]; exact HMAP2.out, HB2.out⟩
          case measure => simp [intOf]; omega
        · have HC : Hid (cntM (xs.take (k + 1)) = putA (cntM (xs.take k)) x.q ((getA (cntM (xs.take k)) x.q).getD 0 + x.n)) := by
            show _ = _
            rw [snoc_take _ _ _ HX.out, cntM_snoc]
            unfold stepC
            rw [if_neg hq]
          have HV : Hid (0 ≤ (getA (cntM (xs.take k)) x.q).getD 0 ∧ (getA (cntM (xs.take k)) x.q).getD 0 ≤ k * 65536) := by
            show _ ∧ _
            cases hg2 : getA (cntM (xs.take k)) x.q with
            | none => simp; omega
            | some v => have := HBD.out.all _ (getA_mem hg2); simp at this ⊢; omega
          have hkq : keyOf Try.prog 3 (.int .i64 x.q) = some (.int .i64 x.q) := hne3 x.q (hR.q).wf
          have hlen2 : (cntM (xs.take k)).length < maxLen := by have := cntM_len (xs.take k); have := List.length_take_le k xs; simp only [maxLen]; omega
          have hown := HMAP2.out.2
          have hwf : ∀ c : Int, c = (getA (cntM (xs.take k)) x.q).getD 0 → -9223372036854775808 ≤ c + x.n ∧ c + x.n ≤ 9223372036854775807 := fun c hc => by have := HV.out; have := HG.out; omega
          have HWF := hide hwf
          clear hwf
          go_wp2_with (first
            | (at_lookup; refine wpList_lookup_own_int _ rfl _ _ 85 rfl 3 3 .i64 int_keyed3 Try.underlying85 Try.underlying3 (Try.zeroValue3 _) _ _ _ rfl hown _ _ rfl hkq ?_; intro c hat hwc; replace hat := CMap.at hat; obtain ⟨f1, f2⟩ := HWF.out c hat)
            | (at_mapUpdate; go_loud (refine wpList_mapUpdate_own _ rfl _ _ _ 85 rfl 3 3 int_keyed3 Try.underlying85 _ _ _ _ rfl hown hlen2 _ _ _ rfl rfl hkq _ [] (plainElem_int Try.underlying3 (I64.wf (HWF.out _ rfl))) ?_; intro w3 hown3 hgrow3)))
          have HM3 := hide (CMap.put HMAP2.out.1 hown3)
          have HB3 := hide (HB2.out.grown hgrow3 HB2.out.size (fun i hi => by injection hi with hi; omega))
          go_roundw
          case rel => exact ⟨k + 1, by omega, by go_num, HALL.out, by rw [HC.out]; exact HM3.out, HB3.out⟩
          case measure => simp [intOf]; omega
    · obtain rfl : k = n := by omega
      have htk : xs.take k = xs := List.take_of_length_le (by have := HL.out; omega)
      rw [htk] at hmap
      have HB := hide hb
      have HMAP := hide hmap
      have HF : Hid (xs.all Ix.may = true) := List.all_eq_true.2 fun x hx => by
        obtain ⟨j, hj, rfl⟩ := List.mem_iff_getElem.1 hx
        exact hall j _ (by have := HL.out; omega) (List.getElem?_eq_getElem hj)
      clear hall hb hmap htk
      go_wp2
      go_ret2
      exact ⟨HB.out, .inr ⟨HF.out, w.heap.size, rfl, Nat.le_refl _, HMAP.out⟩⟩
end Li
end Go.Proofs.Ytgdfmoehbgmfkaa
