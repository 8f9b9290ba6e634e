/- A table: objects that are added, dropped, asked for; the plain rows. -/
import Derived.Test.YtgdfmoehbgmfkaaIw
namespace Go.Proofs.Ytgdfmoehbgmfkaa
open Go.RowKit
namespace Li
open Wi
theorem own_tight {β : Type} {w : World} {P : Program} {k : TypeId} {R : Value → Option (DataW Unit × List MemPlace)} {b n : Nat} {dv : Int → β → DataW Unit} {l : Al β} (h : w.ownsMap P k R b n (mapG dv l)) : w.ownsMap P k R b l.length (mapG dv l) := by
  obtain ⟨es, clock, hb, F, hs, hD⟩ := h
  refine ⟨es, clock, hb, F, ?_, hD⟩
  have h1 := congrArg Maps.size hD
  rw [size_mapG] at h1
  simp [Maps.size, length_sorted] at h1
  omega
theorem getA_mem_ne {β : Type} {l : Al β} (hn : l.Pairwise (fun p q => p.1 ≠ q.1)) {k : Int} {v : β} (h : (k, v) ∈ l) : getA l k = some v := by
  induction l with
  | nil => cases h
  | cons p r ih =>
    rw [getA_cons]
    have hp := List.pairwise_cons.1 hn
    rcases List.mem_cons.1 h with e | e
    · subst e; simp
    · have := hp.1 _ e
      rw [if_neg (by simpa using this)]
      exact ih hp.2 e
theorem getA_perm {β : Type} {l m : Al β} (hn : l.Pairwise (fun p q => p.1 ≠ q.1)) (hp : List.Perm l m) (k : Int) : getA l k = getA m k := by
  have hm : m.Pairwise (fun p q => p.1 ≠ q.1) := hp.pairwise hn (fun h e => h e.symm)
  cases hg : getA l k with
  | some v => exact (getA_mem_ne hm (hp.mem_iff.1 (getA_mem hg))).symm
  | none =>
    cases hg2 : getA m k with
    | none => rfl
    | some v => rw [getA_mem_ne hn (hp.mem_iff.2 (getA_mem hg2))] at hg; cases hg
def putAll {β : Type} (l ps : Al β) : Al β := ps.foldl (fun m p => putA m p.1 p.2) l
theorem putAll_nil {β : Type} (l : Al β) : putAll l [] = l := rfl
theorem putAll_snoc {β : Type} (l ps : Al β) (p : Int × β) : putAll l (ps ++ [p]) = putA (putAll l ps) p.1 p.2 := by simp [putAll, List.foldl_append]
theorem putAll_cons {β : Type} (l ps : Al β) (p : Int × β) : putAll l (p :: ps) = putAll (putA l p.1 p.2) ps := rfl
theorem Ris.putAll {β : Type} {l : Al β} (h : Ris l) : ∀ ps : Al β, Ris (putAll l ps)
  | [] => h
  | p :: ps => Ris.putAll (h.put p.1 p.2) ps
theorem getA_putAll {β : Type} : ∀ (ps l : Al β) (k : Int), ps.Pairwise (fun p q => p.1 ≠ q.1) → getA (putAll l ps) k = (getA ps k).or (getA l k)
  | [], l, k, _ => by simp [putAll, getA]
  | p :: ps, l, k, h => by
    have hp := List.pairwise_cons.1 h
    rw [putAll_cons, getA_putAll ps _ k hp.2, getA_put, getA_cons]
    by_cases e : p.1 = k
    · subst e
      have : getA ps p.1 = none := getA_none.2 fun q hq e => hp.1 q hq e.symm
      rw [this]; simp
    · rw [if_neg e, if_neg (fun x => e x.symm)]
theorem putAll_perm {β : Type} {l ps qs : Al β} (hr : Ris l) (hn : ps.Pairwise (fun p q => p.1 ≠ q.1)) (hp : List.Perm ps qs) : putAll l ps = putAll l qs := by
  refine Ris.ext (hr.putAll ps) (hr.putAll qs) fun k => ?_
  rw [getA_putAll ps l k hn, getA_putAll qs l k (hp.pairwise hn (fun h e => h e.symm)), getA_perm hn hp]
theorem putAll_length {β : Type} : ∀ (ps l : Al β), (putAll l ps).length ≤ l.length + ps.length
  | [], l => Nat.le_refl _
  | p :: ps, l => by
    have h1 := putAll_length ps (putA l p.1 p.2)
    have h2 := putA_length_le l p.1 p.2
    rw [putAll_cons]
    simp only [List.length_cons]
    omega

theorem hne3 : ∀ (x : Int), (Lit.int .i64 x).wf = true → keyOf Try.prog 3 (.int .i64 x) = some (.int .i64 x) := fun _x hx => Maps.keyOf_int_mk Try.underlying3 hx
/-- Two maps of rows. -/
def RMap (w : World) (b : Nat) (l : Rows) : Prop := Ris l ∧ w.ownsMap (H := Unit) Try.prog 3 rowR b l.length (mapG roDv l)
theorem RMap.lt {w : World} {b : Nat} {l : Rows} (h : RMap w b l) : b < w.heap.size := h.2.lt
theorem RMap.kept {w w' : World} {b : Nat} {l : Rows} {row : Option Nat} (h : RMap w b l) (hg : w.grownBy w' row) (hne : some b ≠ row) : RMap w' b l := ⟨h.1, h.2.kept hg hne⟩
theorem RMap.later {w w' : World} {b : Nat} {l : Rows} (h : RMap w b l) (hb : Below w.heap.size w w') : RMap w' b l := by
  refine ⟨h.1, ?_⟩
  have hbl := h.lt
  obtain ⟨es, clock, hbb, Ft, hs, hD⟩ := h.2
  exact ⟨es, clock, (hb.block b hbl).trans hbb, Ft, hs, hD⟩
theorem RMap.put {w' : World} {b n : Nat} {l : Rows} {k : Int} {p : Int × Int} (hr : Ris l) (h : w'.ownsMap (H := Unit) Try.prog 3 rowR b n ((mapG roDv l).put (.int .i64 k) (roD (k, p)))) : RMap w' b (putA l k p) := by
  have e : (mapG (H := Unit) roDv l).put (.int .i64 k) (roD (k, p)) = mapG roDv (putA l k p) := put_mapG roDv l hr k p
  rw [e] at h
  exact ⟨hr.put k p, own_tight h⟩

/-- An entry that comes is one that was left. -/
theorem came {β : Type} {dv : Int → β → DataW Unit} (hinj : ∀ k k' v v', dv k v = dv k' v' → k = k' ∧ v = v') {rs ps rest : Al β} (hris : Ris rs) (hC : List.Perm (ps ++ rest) rs) {left : Lit → Bool} (hlk0 : ∀ k, left (.int .i64 k) = (getA rest k).isSome) {x : Int} (hlk : left (.int .i64 x) = true) {k0 : Int} {v0 : β}
    (hat : ∀ zd, (mapG dv rs).atKey (.int .i64 x) zd = dv k0 v0) : k0 = x ∧ List.Perm ((ps ++ [(x, v0)]) ++ delA rest x) rs ∧ (∀ k, (left (.int .i64 k) && !(Lit.int .i64 k).sameKey (.int .i64 x)) = (getA (delA rest x) k).isSome) ∧ getA ps x = none := by
  have hne : (ps ++ rest).Pairwise (fun p q => p.1 ≠ q.1) := hC.symm.pairwise hris.ne (fun h e => h e.symm)
  have hg : ∃ p, getA rest x = some p := by
    have h1 := hlk0 x
    rw [hlk] at h1
    cases hg : getA rest x with
    | none => rw [hg] at h1; cases h1
    | some p => exact ⟨p, rfl⟩
  obtain ⟨p, hg⟩ := hg
  have hm : (x, p) ∈ rest := getA_mem hg
  have hm2 : (x, p) ∈ rs := hC.mem_iff.1 (List.mem_append_right _ hm)
  have h1 := hat .nil
  rw [at_mapG, getA_of_mem hris hm2] at h1
  obtain ⟨e1, e2⟩ := hinj x k0 p v0 h1
  subst e1 e2
  have hrn := (List.pairwise_append.1 hne).2.1
  refine ⟨rfl, ?_, fun k => ?_, ?_⟩
  · rw [List.append_assoc]
    refine List.Perm.trans (List.Perm.append_left ps ?_) hC
    have : ∀ l : Al β, l.Pairwise (fun p q => p.1 ≠ q.1) → (x, p) ∈ l → List.Perm l ((x, p) :: delA l x) := by
      intro l
      induction l with
      | nil => intro _ h; cases h
      | cons q s ih =>
        intro hn hr
        have hp := List.pairwise_cons.1 hn
        rcases List.mem_cons.1 hr with e | e
        · subst e
          have : delA ((x, p) :: s) x = s := by
            unfold delA
            rw [List.filter_cons]
            simp only [bne_self_eq_false, Bool.false_eq_true, if_false]
            rw [List.filter_eq_self]
            intro q hq
            have := hp.1 q hq
            simp [bne_iff_ne]; exact fun e => this e.symm
          rw [this]
        · have hne := hp.1 _ e
          have : delA (q :: s) x = q :: delA s x := by
            unfold delA
            rw [List.filter_cons]
            have : (q.1 != x) = true := by simpa [bne_iff_ne] using hne
            simp [this]
          rw [this]
          exact ((ih hp.2 e).cons q).trans (List.Perm.swap _ _ _)
    exact (this rest hrn hm).symm
  · rw [hlk0, same_int, getA_del]
    by_cases e : k = x
    · simp [e]
    · have : (k == x) = false := by simpa using e
      simp [this, e]
  · refine getA_none.2 fun q hq e => ?_
    exact (List.pairwise_append.1 hne).2.2 q hq (x, p) hm e
theorem roDv_inj (k k' : Int) (v v' : Int × Int) (h : roDv (H := Unit) k v = roDv k' v') : k = k' ∧ v = v' := by
  have := roD_inj (H := Unit) (r := (k, v)) (s := (k', v')) h
  exact ⟨congrArg Prod.fst this, congrArg Prod.snd this⟩
set_option maxHeartbeats 4000000 in
set_option maxRecDepth 100000 in
/-- maps.Copy of rows. -/
theorem copy_rows {w : World} {bd bs : Nat} {ld ls : Rows} (hd : RMap w bd ld) (hs : RMap w bs ls) (hne : bd ≠ bs) (hroom : ld.length + ls.length ≤ 1000000) :
    Calls Try.prog 45 #[.map (some bd), .map (some bs)] w fun e w' => e = .returned (.tuple #[]) ∧ RMap w' bd (putAll ld ls) ∧ w.grownBy w' (some bd) := by
  have hbd := hd.lt
  have hbs := hs.lt
  have hris := hs.1
  have hso := hs.2
  have K3 := int_keyed3
  go_enter Try.func45, Try.ntmps45
  go_wp2_with (first
    | (at_range; refine wpList_range_own _ rfl _ 69 rfl 3 58 K3 Try.underlying69 rowR bs ls.length _ rfl hso ?_; intro w0 hrg0 hg0 hs0)
    | go_in)
  go_frame
  go_loopw [4, 5] (fun _ _ wr => ∃ (left : Lit → Bool) (cnt : Nat) (ps rest : Rows), wr.ranges Try.prog 3 rowR bs w.heap.size ls.length (mapG roDv ls) left cnt ∧ (List.Perm (ps ++ rest) ls) ∧ (∀ k, left (.int .i64 k) = (getA rest k).isSome) ∧
      RMap wr bd (putAll ld ps) ∧ w.grownBy wr (some bd))
    (fun _ _ wr => wr.rangeLeft bs w.heap.size)
  case atStart =>
    exact ⟨_, _, [], ls, hrg0, List.Perm.refl _, fun k => has_mapG _ _ _, hd.kept hg0 (by simp), hg0.but _⟩
  case round =>
    obtain ⟨left, cnt, ps, rest, hrg, hC, hlk0, hout, hgw⟩ := hrel
    go_wp2_with (first
      | (at_next; refine wpList_next_ranges _ rfl _ rfl 3 K3 rowR (Value.int .i64) roV (fun key kl hk => by obtain ⟨x, hx, _⟩ := Maps.keyOf_int_inv Try.underlying3 hk; exact ⟨x, hx⟩) (fun v y hv => by obtain ⟨c, rfl, _⟩ := rowR_inv hv; exact ⟨c, rfl⟩) bs w.heap.size ls.length _ _ _ rfl hrg ?_ ?_)
      | go_in)
    · intro hc0 hl0
      go_wp2
      go_end0
      have : rest = [] := by
        cases rest with
        | nil => rfl
        | cons p s => have := hlk0 p.1; rw [hl0, getA_cons, if_pos rfl] at this; cases this
      rw [this, List.append_nil] at hC
      refine ⟨rfl, ?_, hgw⟩
      rw [← putAll_perm hd.1 (perm_ne hris.ne hC.symm) hC]
      exact hout
    · intro x ca cb cc kl yd yp w1 cnt1 hkey hlk hv hat hrg1 hlt hg1 hs1 hen
      obtain ⟨x', ex, rfl, hwx⟩ := Maps.keyOf_int_inv Try.underlying3 hkey
      obtain rfl : x = x' := by simpa using ex
      obtain ⟨c', ec, ez⟩ := rowR_inv (v := roV (ca, cb, cc)) hv
      obtain rfl := roV_inj ec
      have ez1 : yd = roDv (H := Unit) ca (cb, cc) := congrArg Prod.fst ez
      rw [ez1] at hat
      obtain ⟨rfl, hC2, hlk2, hnew⟩ := came roDv_inj hris hC hlk0 hlk hat
      have hl1 : ps.length ≤ ls.length := by rw [← hC.length_eq, List.length_append]; omega
      have hl2 := putAll_length ps ld
      have hout1 := (hout.kept hg1 (fun e => by have := Option.some.inj e; have := hgw.size; omega)).kept (World.grownBy_alloc w1 (.cells #[.int .i64 ca, .int .i64 cb, .int .i64 cc] 58) none) (by simp)
      have hout1r := hout1.1
      have hout1o := hout1.2
      have hg1a := World.grownBy_alloc w1 (.cells #[.int .i64 ca, .int .i64 cb, .int .i64 cc] 58) none
      have hkey3 := hkey
      go_wp2_with (first
        | (at_mapUpdate; refine wpList_mapUpdate_own _ rfl _ _ _ 69 rfl 3 58 K3 Try.underlying69 rowR bd _ _ rfl hout1o (by simp only [maxLen]; omega) _ _ _ rfl rfl hkey3 (roD (ca, cb, cc)) [] rfl ?_; intro w2 hout2 hg2; go_frame)
        | go_in)
      have hrg2 := (hrg1.alloc (.cells #[.int .i64 ca, .int .i64 cb, .int .i64 cc] 58)).kept hg2 (fun e => hne (Option.some.inj e).symm) (fun e => by have := Option.some.inj e; omega)
      have hfin := RMap.put (p := (cb, cc)) hout1r hout2
      have hgf := ((hgw.andThen hg1 (fun j hj => .inl (by cases hj; exact Nat.le_refl _))).andThen hg1a (fun j hj => by cases hj)).andThen hg2 (fun j hj => .inr hj)
      go_roundw
      case rel => exact ⟨_, cnt1, ps ++ [(ca, (cb, cc))], delA rest ca, hrg2, hC2, hlk2, by rw [putAll_snoc]; exact hfin, hgf⟩
      case measure => rw [hrg2.left_eq, hrg.left_eq]; exact hlt

/-! ### a table -/
/-- What a row of a table keeps to. -/
def mayR (s t l : Int) : Bool := decide (1 ≤ s) && decide (s < 1099511627776) && decide (0 ≤ t) && decide (t ≤ 65536) && decide (0 ≤ l) && decide (l ≤ t)
/-- The table at block tb: a cell that leads to a map. -/
structure Tab (w : World) (tb mb : Nat) (rs : Rows) : Prop where
  tab : w.heap[tb]? = some (.cells #[.map (some mb)] 71 (0, 0))
  map : RMap w mb rs
theorem Tab.ne {w : World} {tb mb : Nat} {rs : Rows} (h : Tab w tb mb rs) : tb ≠ mb := fun e => by
  obtain ⟨es, clock, hb, _⟩ := h.map.2
  rw [← e, h.tab] at hb; cases hb
theorem Tab.ltT {w : World} {tb mb : Nat} {rs : Rows} (h : Tab w tb mb rs) : tb < w.heap.size := lt_of_block h.tab
theorem Tab.later {w w' : World} {tb mb : Nat} {rs : Rows} (h : Tab w tb mb rs) (hb : Below w.heap.size w w') : Tab w' tb mb rs := ⟨(hb.block tb h.ltT).trans h.tab, h.map.later hb⟩
theorem Tab.cell {w : World} {tb mb : Nat} {rs : Rows} (h : Tab w tb mb rs) : w.cell? ⟨tb, 0, none⟩ = some (.map (some mb)) := by simp [World.cell?, h.tab]
theorem Tab.at {w : World} {tb mb : Nat} {rs : Rows} (h : Tab w tb mb rs) : TabAt w tb mb rs.length rs := ⟨h.tab, h.map.1, h.map.2⟩
/-- The map has turned. -/
theorem Tab.turn {w w' : World} {tb mb : Nat} {rs rs' : Rows} (h : Tab w tb mb rs) (hm : RMap w' mb rs') (hg : w.grownBy w' (some mb)) : Tab w' tb mb rs' := ⟨(hg.block tb h.ltT (fun e => h.ne (Option.some.inj e))).trans h.tab, hm⟩

theorem new_any (w : World) : Calls Try.prog 11 #[] w fun e w' => e = .returned (.pointer (some ⟨w.heap.size + 1, 0, none⟩)) ∧ Tab w' (w.heap.size + 1) w.heap.size [] ∧ Below w.heap.size w w' := by
  have h1 := World.alloc_heap_new (w.alloc (.map #[] 0)) (.cells #[.map (some w.heap.size)] 71)
  rw [World.size_alloc] at h1
  have h2 : RMap ((w.alloc (.map #[] 0)).alloc (.cells #[.map (some w.heap.size)] 71)) w.heap.size [] := ⟨ris_nil, (World.ownsMap_made w Try.prog 3 rowR).alloc _⟩
  have h3 := hide (⟨h1, h2⟩ : Tab ((w.alloc (.map #[] 0)).alloc (.cells #[.map (some w.heap.size)] 71)) (w.heap.size + 1) w.heap.size [])
  have hb := hide ((below_alloc w (.map #[] 0)).alloc (by simp) (.cells #[.map (some w.heap.size)] 71))
  have hmm := @run_makeMap Try.prog
  clear h1 h2
  go_enter Try.func11, Try.ntmps11
  go_wp2
  go_ret
  exact ⟨rfl, h3.out, hb.out⟩
theorem may_any (s t l : Int) (w : World) : Calls Try.prog 44 #[.agg #[.int .i64 s, .int .i64 t, .int .i64 l]] w fun e w' => e = .returned (.bool (mayR s t l)) ∧ Below w.heap.size w w' := by
  have hb := hide (below_alloc w (.cells #[.int .i64 s, .int .i64 t, .int .i64 l] 58))
  go_enter Try.func44, Try.ntmps44
  go_wp2
  all_goals go_ret
  all_goals refine ⟨ret_bool (Bool.eq_iff_iff.2 ?_), hb.out⟩
  all_goals unfold mayR
  all_goals simp only [Bool.and_eq_true, decide_eq_true_eq, Bool.false_eq_true, false_iff]
  all_goals omega

abbrev I64 (x : Int) : Prop := -9223372036854775808 ≤ x ∧ x ≤ 9223372036854775807
theorem I64.wf {x : Int} (h : I64 x) : (Lit.int .i64 x).wf = true := by
  have := h.1; have := h.2
  simp [Lit.wf, IntKind.min, IntKind.max, IntKind.signed, IntKind.bits]
  omega
theorem look_some {w : World} {b : Nat} {l : Rows} {k : Int} {p : Int × Int} (h : RMap w b l) (hk : I64 k) (hg : getA l k = some p) :
    (Instr.lookup 69 (.map (some b)) (.int .i64 k) true).run Try.prog w = .ok (.tuple #[.agg #[.int .i64 k, .int .i64 p.1, .int .i64 p.2], .bool true]) w := by
  obtain ⟨v, ps, hrun, hv⟩ := h.2.look_ok int_keyed3 Try.underlying69 (Try.zeroValue58 w) (zd := roD (0, 0, 0)) (zp := []) rfl (hne3 k hk.wf)
  rw [has_mapG, hg] at hrun
  rw [at_mapG, hg] at hv
  obtain ⟨c, rfl, e⟩ := rowR_inv hv
  have := roD_inj (H := Unit) (r := (k, p)) (s := c) (congrArg Prod.fst e)
  subst this
  exact hrun
theorem look_none {w : World} {b : Nat} {l : Rows} {k : Int} (h : RMap w b l) (hk : I64 k) (hg : getA l k = none) :
    (Instr.lookup 69 (.map (some b)) (.int .i64 k) true).run Try.prog w = .ok (.tuple #[.agg #[.int .i64 0, .int .i64 0, .int .i64 0], .bool false]) w := by
  obtain ⟨v, ps, hrun, hv⟩ := h.2.look_ok int_keyed3 Try.underlying69 (Try.zeroValue58 w) (zd := roD (0, 0, 0)) (zp := []) rfl (hne3 k hk.wf)
  rw [has_mapG, hg] at hrun
  rw [at_mapG, hg] at hv
  obtain ⟨c, rfl, e⟩ := rowR_inv hv
  have := roD_inj (H := Unit) (r := (0, 0, 0)) (s := c) (congrArg Prod.fst e)
  subst this
  exact hrun
end Li
end Go.Proofs.Ytgdfmoehbgmfkaa
