/- Change of a table. -/
import Derived.Test.YtgdfmoehbgmfkaaNd
import Derived.Test.YtgdfmoehbgmfkaaNc
namespace Go.Proofs.Ytgdfmoehbgmfkaa
open Go.RowKit
namespace Li
open Wi
def chE (rs : Rows) (ms ls : List Ix) : Int := if ms.all Ix.may && ls.all Ix.may then chgE rs (subA (cntM ms) (cntM ls)) else 1
def chT (rs : Rows) (ms ls : List Ix) : Rows := if ms.all Ix.may && ls.all Ix.may then chgT rs (subA (cntM ms) (cntM ls)) else rs
theorem perm_neI {l m : Al Int} (h : l.Pairwise (fun p q => p.1 ≠ q.1)) (hp : List.Perm l m) : m.Pairwise (fun p q => p.1 ≠ q.1) := hp.pairwise h (fun h e => h e.symm)
theorem Tab.kept2 {w w' : World} {tb mb b : Nat} {rs : Rows} (h : Tab w tb mb rs) (hg : w.grownBy w' (some b)) (h1 : tb ≠ b) (h2 : mb ≠ b) : Tab w' tb mb rs := ⟨(hg.block tb h.ltT (fun e => h1 (Option.some.inj e))).trans h.tab, h.map.kept hg (fun e => h2 (Option.some.inj e))⟩
theorem grb_new {w w' : World} {b : Nat} (row : Option Nat) (h : w.grownBy w' (some b)) (hb : w.heap.size ≤ b) : w.grownBy w' row :=
  ⟨h.os, h.tape, h.output, h.size, fun i hi _ => h.block i hi (by intro e; have := Option.some.inj e; omega)⟩
theorem subA_bnd {G F : Al Int} {k k2 : Nat} (hG : BndC G k) (hF : BndC F k2) (hrG : Ris G) (hrF : Ris F) : ∀ q ∈ subA G F, -(k2 * 65536 : Int) ≤ q.2 ∧ q.2 ≤ (k * 65536 : Int) := by
  intro q hq
  have h1 := getA_of_mem (Ris.subA F G hrG) (k := q.1) (v := q.2) hq
  rw [getA_subA F G q.1 hrF.ne] at h1
  have hg : 0 ≤ (getA G q.1).getD 0 ∧ (getA G q.1).getD 0 ≤ k * 65536 := by
    cases hgg : getA G q.1 with
    | none => simp; omega
    | some v => have := hG.all _ (getA_mem hgg); simp at this ⊢; omega
  cases hf : getA F q.1 with
  | some v =>
    rw [hf] at h1
    have h2 : (getA G q.1).getD 0 - v = q.2 := by simpa using h1
    have h3 := hF.all _ (getA_mem hf)
    simp only at h3
    omega
  | none =>
    rw [hf] at h1
    have h2 : getA G q.1 = some q.2 := h1
    rw [h2] at hg
    simp at hg
    omega
theorem mem_putAll {xs : Rows} (hn : xs.Pairwise (fun p q => p.1 ≠ q.1)) (x : Ro) : x ∈ putAll [] xs ↔ x ∈ xs := by
  have hr : Ris (putAll ([] : Rows) xs) := ris_nil.putAll xs
  have hk : getA (putAll [] xs) x.1 = getA xs x.1 := by
    rw [getA_putAll xs [] x.1 hn, getA_nil]
    cases getA xs x.1 <;> rfl
  constructor
  · intro h
    have h1 := getA_of_mem hr (k := x.1) (v := x.2) h
    rw [hk] at h1
    exact getA_mem h1
  · intro h
    have h1 := getA_mem_ne hn (k := x.1) (v := x.2) h
    rw [← hk] at h1
    exact getA_mem h1
theorem may_bnd {s t l : Int} (h : mayRo (s, t, l) = true) : 0 ≤ t ∧ t ≤ 65536 ∧ 0 ≤ l ∧ l ≤ t := by
  have := mayR_get h
  exact ⟨this.2.2.1, this.2.2.2.1, this.2.2.2.2.1, this.2.2.2.2.2⟩
theorem wf64 {x : Int} (h : (Lit.int .i64 x).wf = true) : I64 x := by
  simp [Lit.wf, IntKind.min, IntKind.max, IntKind.signed, IntKind.bits] at h
  exact ⟨by omega, by omega⟩
theorem pw_chg {rs : Rows} {G : Al Int} (h : G.Pairwise (fun p q => p.1 ≠ q.1)) : (G.map (chgR rs)).Pairwise (fun p q => p.1 ≠ q.1) := List.pairwise_map.2 h
set_option maxHeartbeats 16000000 in
set_option maxRecDepth 100000 in
theorem change_any {w : World} {tb mb : Nat} {rs : Rows} {a : Option Addr} {n cap : Nat} {ms : List Ix} {a2 : Option Addr} {n2 cap2 : Nat} {ls : List Ix} (hT : Tab w tb mb rs) (hmay : ∀ x ∈ rs, mayRo x = true) (hE : Ex w a n ms) (hE2 : Ex w a2 n2 ls) (hn : n ≤ 1000) (hn2 : n2 ≤ 1000) (hlen : rs.length ≤ 500000) :
    Calls Try.prog 21 #[.pointer (some ⟨tb, 0, none⟩), .slice a n cap, .slice a2 n2 cap2] w fun e w' => e = .returned (.int .i64 (chE rs ms ls)) ∧ Tab w' tb mb (chT rs ms ls) ∧ w.grownBy w' (some mb) := by
  have h1 := sectors_any (cap := cap) hE (by omega)
  have HT := hide hT
  have HMAY := hide hmay
  have HE2 := hide hE2
  have HL1 := hide hE.len
  have HL2 := hide hE2.len
  clear hT hmay hE hE2
  go_enter Try.func21, Try.ntmps21
  go_wp2_with fail
  refine h1.mono ?_
  rintro e w1 ⟨hb1, ⟨hf, rfl⟩ | ⟨hm1, bg, rfl, hbg, hG⟩⟩
  · have HB := hide hb1
    have HE := hide (show chE rs ms ls = 1 by unfold chE; rw [hf]; rfl)
    have HR := hide (show chT rs ms ls = rs by unfold chT; rw [hf]; rfl)
    clear h1 hb1 hf
    go_wp2
    go_ret
    exact ⟨by rw [HE.out]; rfl, by rw [HR.out]; exact HT.out.later HB.out, grown_of_below HB.out _⟩
  · have h2 := sectors_any (cap := cap2) (HE2.out.later hb1) (by omega)
    have HB1 := hide hb1
    have HG := hide hG
    clear h1 hb1 hG
    go_wp2_with fail
    refine h2.mono ?_
    rintro e w2 ⟨hb2, ⟨hf, rfl⟩ | ⟨hm2, bf, rfl, hbf, hF⟩⟩
    · have HB := hide (HB1.out.trans (hb2.mono HB1.out.size))
      have HE := hide (show chE rs ms ls = 1 by unfold chE; rw [hf, Bool.and_false]; rfl)
      have HR := hide (show chT rs ms ls = rs by unfold chT; rw [hf, Bool.and_false]; rfl)
      clear h2 hb2 hf
      go_wp2
      go_ret
      exact ⟨by rw [HE.out]; rfl, by rw [HR.out]; exact HT.out.later HB.out, grown_of_below HB.out _⟩
    · have HB2 := hide (HB1.out.trans (hb2.mono HB1.out.size))
      have HG2 := hide (HG.out.later hb2)
      have HF := hide hF
      have hne : bg ≠ bf := by have := HG.out.2.lt; omega
      have HE := hide (show chE rs ms ls = chgE rs (subA (cntM ms) (cntM ls)) by unfold chE; rw [hm1, hm2]; rfl)
      have HR := hide (show chT rs ms ls = chgT rs (subA (cntM ms) (cntM ls)) by unfold chT; rw [hm1, hm2]; rfl)
      have BG : BndC (cntM ms) ms.length := by
        have := cntM_bnd ms.length ms (Nat.le_refl _) (fun j x _ hx => List.all_eq_true.1 hm1 x (List.mem_of_getElem? hx))
        rwa [List.take_length] at this
      have BF : BndC (cntM ls) ls.length := by
        have := cntM_bnd ls.length ls (Nat.le_refl _) (fun j x _ hx => List.all_eq_true.1 hm2 x (List.mem_of_getElem? hx))
        rwa [List.take_length] at this
      have BGH := hide BG
      have BFH := hide BF
      have HLG := hide (cntM_len ms)
      have HLF := hide (cntM_len ls)
      generalize cntM ms = G at *
      generalize cntM ls = F at *
      have hso := hF.2
      have hrisF := hF.1
      have K3 := int_keyed3
      clear h2 hb2 hF BG BF hm1 hm2
      go_wp2_with (first
        | (at_range; go_loud (refine wpList_range_own _ rfl _ 85 rfl 3 3 K3 Try.underlying85 (plainElem Try.prog 3) bf F.length _ rfl hso ?_; intro w3 hrg0 hg0 hs0))
        | go_in)
      go_frame
      go_loopw [10, 11] (fun _ _ wr => ∃ (left : Lit → Bool) (cnt : Nat) (ps rest : Al Int), wr.ranges Try.prog 3 (plainElem Try.prog 3) bf w2.heap.size F.length (mapG iD F) left cnt ∧ (List.Perm (ps ++ rest) F) ∧ (∀ k, left (.int .i64 k) = (getA rest k).isSome) ∧
          CMap wr bg (subA G ps) ∧ w2.grownBy wr (some bg))
        (fun _ _ wr => wr.rangeLeft bf w2.heap.size)
      case atStart => exact ⟨_, _, [], F, hrg0, List.Perm.refl _, fun k => has_mapG _ _ _, ⟨HG2.out.1, HG2.out.2.kept hg0 (by simp)⟩, hg0.but _⟩
      case round =>
        obtain ⟨left, cnt, ps, rest, hrg, hC, hlk0, hout, hgw⟩ := hrel
        go_wp2_with (first
          | (at_next; refine wpList_next_ranges_ii _ rfl _ rfl 3 3 .i64 .i64 K3 Try.underlying3 Try.underlying3 bf w2.heap.size F.length _ _ _ rfl hrg ?_ ?_)
          | go_in)
        · intro hc0 hl0
          have hrest : rest = [] := by
            cases rest with
            | nil => rfl
            | cons p s => have := hlk0 p.1; rw [hl0, getA_cons, if_pos rfl] at this; cases this
          rw [hrest, List.append_nil] at hC
          have hMM : subA G ps = subA G F := subA_perm HG2.out.1 (perm_neI hrisF.ne hC.symm) hC
          rw [hMM] at hout
          have HOUT := hide hout
          have hgwS := hgw.size
          have HML := hide (subA_length F G)
          have HBM := hide (subA_bnd BGH.out BFH.out HG2.out.1 hrisF)
          have hlnM : ∀ ty, (Builtin.len_ #[85] ty #[.map (some bg)]).run Try.prog wr = .ok (.int .i64 (((subA G F).length : Nat) : Int)) wr := fun ty => by
            have := hout.2.len Try.underlying85 ty
            rwa [size_mapG] at this
          have HGW := hide ((grown_of_below HB2.out (some bg)).trans hgw)
          have hTab : Tab wr tb mb rs := (HT.out.later HB2.out).kept2 hgw (by have := HT.out.ltT; omega) (by have := HT.out.map.lt; omega)
          generalize subA G F = M at *
          have hmk := fun w => run_makeMap_n M.length w
          have hsoM := (hout.2).alloc (.map #[] 0)
          have hrisM := hout.1
          have HTAB := hide (hTab.later (below_alloc wr (.map #[] 0)))
          have HC0 : Hid (RMap (wr.alloc (.map #[] 0)) wr.heap.size []) := ⟨ris_nil, World.ownsMap_made wr Try.prog 3 rowR⟩
          clear hout hC hMM hrest hlk0 hrg hgw hTab hc0 hl0
          go_wp2_with (first
            | (at_range; go_loud (refine wpList_range_own _ rfl _ 85 rfl 3 3 K3 Try.underlying85 (plainElem Try.prog 3) bg M.length _ rfl hsoM ?_; intro w6 hrg6 hg6 hs6))
            | go_in)
          go_frame
          rw [World.size_alloc] at hrg6 ⊢
          obtain ⟨wq, hwq⟩ : ∃ wq, wq = wr := ⟨_, rfl⟩
          subst hwq
          have HIT : Hid (∀ k, k < w2.heap.size → k ≠ wq.heap.size) := fun k hk => by have := hgwS; omega
          go_loopw [13, 14] (fun _ _ wv => ∃ (left : Lit → Bool) (cnt : Nat) (ps rest : Al Int), wv.ranges Try.prog 3 (plainElem Try.prog 3) bg (wq.heap.size + 1) M.length (mapG iD M) left cnt ∧ (List.Perm (ps ++ rest) M) ∧ (∀ k, left (.int .i64 k) = (getA rest k).isSome) ∧
              (∀ p ∈ ps, (getA rs p.1).isSome = true) ∧ RMap wv wq.heap.size (putAll [] (ps.map (chgR rs))) ∧ (wq.alloc (.map #[] 0)).grownBy wv (some wq.heap.size))
            (fun _ _ wv => wv.rangeLeft bg (wq.heap.size + 1))
          case atStart => exact ⟨_, _, [], M, hrg6, List.Perm.refl _, fun k => has_mapG _ _ _, (fun p hp => by cases hp), ⟨ris_nil, HC0.out.2.kept hg6 (by simp)⟩, hg6.but _⟩
          case round =>
            obtain ⟨left, cnt, ps, rest, hrg, hC, hlk0, hsome, hout, hgv⟩ := hrel
            go_wp2_with (first
              | (at_next; go_loud (refine wpList_next_ranges_ii _ rfl _ rfl 3 3 .i64 .i64 K3 Try.underlying3 Try.underlying3 bg (wq.heap.size + 1) M.length _ _ _ rfl hrg ?_ ?_))
              | go_in)
            · intro hc0 hl0
              have hrest : rest = [] := by
                cases rest with
                | nil => rfl
                | cons p s => have := hlk0 p.1; rw [hl0, getA_cons, if_pos rfl] at this; cases this
              rw [hrest, List.append_nil] at hC
              have hps : ps.Pairwise (fun p q => p.1 ≠ q.1) := perm_neI hrisM.ne hC.symm
              have hMM : putAll [] (ps.map (chgR rs)) = putAll [] (M.map (chgR rs)) := putAll_perm ris_nil (pw_chg hps) (hC.map _)
              rw [hMM] at hout
              have HANY : Hid (M.any (fun p => (getA rs p.1).isNone) = false) := by
                show _ = _
                rw [Bool.eq_false_iff]
                intro h
                rw [List.any_eq_true] at h
                obtain ⟨q, hq, hn⟩ := h
                have := hsome q (hC.mem_iff.2 hq)
                cases hg : getA rs q.1 with
                | none => rw [hg] at this; cases this
                | some v => rw [hg] at hn; cases hn
              have HMEM := hide (mem_putAll (pw_chg (rs := rs) hrisM.ne))
              have HMID := hide (putAll_mid rs (M.map (chgR rs)) HTAB.out.map.1 (pw_chg hrisM.ne))
              have hplen := putAll_length (M.map (chgR rs)) ([] : Rows)
              have HCL : Hid ((putAll [] (M.map (chgR rs))).length ≤ 100000) := by
                have := HML.out; have := HLG.out; have := HLF.out; have := HL1.out; have := HL2.out
                simp only [List.length_map, List.length_nil] at hplen
                show _ ≤ _
                omega
              have HOUTM := hide hout
              have HGV := hide hgv
              have hT1 := HTAB.out.kept2 hgv (by have := HT.out.ltT; have := HB2.out.size; omega) (by have := HT.out.map.lt; have := HB2.out.size; omega)
              have HT1 := hide hT1
              generalize hCM : putAll [] (M.map (chgR rs)) = CM at *
              have hsoC := hout.2
              have hrisC := hout.1
              clear hout hC hMM hrest hlk0 hrg hgv hT1 hc0 hl0 hplen hps hsome
              go_wp2_with (first
                | (at_range; go_loud (refine wpList_range_own _ rfl _ 69 rfl 3 58 K3 Try.underlying69 rowR wq.heap.size CM.length _ rfl hsoC ?_; intro w9 hrg9 hg9 hs9))
                | go_in)
              go_frame
              obtain ⟨wx, hwx⟩ : ∃ wx, wx = wr := ⟨_, rfl⟩
              subst hwx
              go_loopw [18] (fun _ wv => ∃ (left : Lit → Bool) (cnt : Nat) (ps rest : Rows), wv.ranges Try.prog 3 rowR wq.heap.size wx.heap.size CM.length (mapG roDv CM) left cnt ∧ (List.Perm (ps ++ rest) CM) ∧ (∀ k, left (.int .i64 k) = (getA rest k).isSome) ∧
                  (∀ x ∈ ps, mayRo x = true) ∧ wx.grownBy wv none)
                (fun _ wv => wv.rangeLeft wq.heap.size wx.heap.size)
              case atStart => exact ⟨_, _, [], CM, hrg9, List.Perm.refl _, fun k => has_mapG _ _ _, (fun p hp => by cases hp), hg9⟩
              case round =>
                obtain ⟨left, cnt, ps, rest, hrg, hC, hlk0, hall, hgx⟩ := hrel
                go_wp2_with (first
                  | (at_next; go_loud (refine wpList_next_ranges _ rfl _ rfl 3 K3 rowR (Value.int .i64) roV (fun key kl hk => by obtain ⟨x, hx, _⟩ := Maps.keyOf_int_inv Try.underlying3 hk; exact ⟨x, hx⟩) (fun v y hv => by obtain ⟨c, rfl, _⟩ := rowR_inv hv; exact ⟨c, rfl⟩) wq.heap.size wx.heap.size CM.length _ _ _ rfl hrg ?_ ?_))
                  | go_in)
                · intro hc0 hl0
                  have hrest : rest = [] := by
                    cases rest with
                    | nil => rfl
                    | cons p s => have := hlk0 p.1; rw [hl0, getA_cons, if_pos rfl] at this; cases this
                  rw [hrest, List.append_nil] at hC
                  have HALL : Hid ((M.map (chgR rs)).all mayRo = true) := List.all_eq_true.2 fun x hx => hall x (hC.mem_iff.2 ((HMEM.out x).2 hx))
                  have HE0 : Hid (chgE rs M = 0) := by
                    show _ = _
                    unfold chgE
                    rw [HANY.out, HALL.out]; rfl
                  have HT4 := hide (show Tab wr tb mb rs from ⟨(hgx.block tb HT1.out.ltT (by simp)).trans HT1.out.tab, HT1.out.map.kept hgx (by simp)⟩)
                  have HC4 := hide (show RMap wr wq.heap.size CM from HOUTM.out.kept hgx (by simp))
                  have hne4 : mb ≠ wq.heap.size := by have := HT.out.map.lt; have := HB2.out.size; omega
                  have hcp := copy_rows HT4.out.map HC4.out hne4 (by have := HCL.out; omega)
                  have hcell := HT4.out.cell
                  have HGF := hide ((grb_new (some mb) HGW.out (by omega)).andThen (((World.grownBy_alloc wq (.map #[] 0) (some wq.heap.size)).andThen HGV.out (fun j hj => .inr hj)).andThen hgx (fun j hj => by cases hj)) (fun j hj => .inl (by cases hj; exact HGW.out.size)))
                  clear hC hrest hlk0 hall hgx hrg hne4 hc0 hl0
                  go_wp2_with fail
                  refine hcp.mono ?_
                  rintro e w11 ⟨rfl, hm11, hg11⟩
                  have HM11 := hide hm11
                  have HG11 := hide hg11
                  clear hcp hm11 hg11 hcell
                  go_wp2
                  go_ret
                  refine ⟨by rw [HE.out, HE0.out]; rfl, ?_, HGF.out.andThen HG11.out (fun j hj => .inr hj)⟩
                  have : chgT rs M = putAll rs CM := by unfold chgT; rw [HE0.out, if_pos rfl, HMID.out]
                  rw [HR.out, this]
                  exact HT4.out.turn HM11.out HG11.out
                · intro x ca cb cc kl yd yp w10 cnt1 hkey hlk hv hat hrg1 hlt hg1 hs1 hen
                  obtain ⟨x', ex, rfl, hwx⟩ := Maps.keyOf_int_inv Try.underlying3 hkey
                  obtain rfl : x = x' := by simpa using ex
                  obtain ⟨c', ec, ez⟩ := rowR_inv (v := roV (ca, cb, cc)) hv
                  obtain rfl := roV_inj ec
                  have ez1 : yd = roDv (H := Unit) ca (cb, cc) := congrArg Prod.fst ez
                  rw [ez1] at hat
                  obtain ⟨rfl, hC2, hlk2, hnew⟩ := came roDv_inj hrisC hC hlk0 hlk hat
                  have hxm : (ca, cb, cc) ∈ CM := hC2.mem_iff.1 (List.mem_append_left _ (List.mem_append_right _ (List.mem_singleton.2 rfl)))
                  have HX := hide ((HMEM.out _).1 hxm)
                  have HG1 := hide ((hgx.andThen hg1 (fun j hj => .inl (by cases hj; exact Nat.le_refl _))).andThen (World.grownBy_alloc w10 (.cells #[.int .i64 ca, .int .i64 cb, .int .i64 cc] 58) none) (fun j hj => by cases hj))
                  have HRGA := hide (hrg1.alloc (.cells #[.int .i64 ca, .int .i64 cb, .int .i64 cc] 58))
                  have hc := may_any ca cb cc (w10.alloc (.cells #[.int .i64 ca, .int .i64 cb, .int .i64 cc] 58))
                  have HC2 := hide hC2
                  have HALL := hide hall
                  clear hC hC2 hall hgx hg1 hrg1 hnew hxm ez1 ez hat hlk0
                  cases hmm : mayR ca cb cc with
                  | true =>
                    rw [hmm] at hc
                    have HM : Hid (mayRo (ca, cb, cc) = true) := hmm
                    clear hmm
                    go_wp2_with fail
                    refine hc.mono ?_
                    rintro e w12 ⟨rfl, hb12⟩
                    have HB12 := hide hb12
                    clear hc hb12
                    go_wp2
                    have hg12 := grown_of_below HB12.out none
                    have hrg12 := HRGA.out.kept hg12 (by simp) (by simp)
                    go_roundw
                    case rel => exact ⟨_, cnt1, ps ++ [(ca, (cb, cc))], delA rest ca, hrg12, HC2.out, hlk2, (fun q hq => by
                      rcases List.mem_append.1 hq with h | h
                      · exact HALL.out q h
                      · rw [List.mem_singleton.1 h]; exact HM.out), HG1.out.andThen hg12 (fun j hj => by cases hj)⟩
                    case measure => rw [hrg12.left_eq, hrg.left_eq]; exact hlt
                  | false =>
                    rw [hmm] at hc
                    have HM : Hid (mayRo (ca, cb, cc) = false) := hmm
                    clear hmm
                    have HE31 : Hid (chgE rs M = 31) := by
                      show _ = _
                      unfold chgE
                      rw [HANY.out]
                      have : (M.map (chgR rs)).all mayRo = false := by
                        rw [Bool.eq_false_iff]
                        intro h
                        have := List.all_eq_true.1 h _ HX.out
                        rw [HM.out] at this; cases this
                      rw [this]; rfl
                    go_wp2_with fail
                    refine hc.mono ?_
                    rintro e w12 ⟨rfl, hb12⟩
                    have HB12 := hide hb12
                    clear hc hb12
                    go_wp2
                    go_ret
                    have hg12 := HG1.out.andThen (grown_of_below HB12.out none) (fun j hj => by cases hj)
                    refine ⟨by rw [HE.out, HE31.out]; rfl, ?_, (grb_new (some mb) HGW.out (by omega)).andThen (((World.grownBy_alloc wq (.map #[] 0) (some wq.heap.size)).andThen HGV.out (fun j hj => .inr hj)).andThen hg12 (fun j hj => by cases hj)) (fun j hj => .inl (by cases hj; exact HGW.out.size))⟩
                    have : chgT rs M = rs := by unfold chgT; rw [HE31.out, if_neg (by omega)]
                    rw [HR.out, this]
                    exact ⟨(hg12.block tb HT1.out.ltT (by simp)).trans HT1.out.tab, HT1.out.map.kept hg12 (by simp)⟩
            · intro x c w7 cnt1 hwx hwc hlk hat hrg1 hlt hg1 hs1 hen
              obtain ⟨hC2, hlk2, hnew⟩ := came2 hrisM hC hlk0 ((hlk0 x).trans hlk) hat
              have hxm : (x, c) ∈ M := hC2.mem_iff.1 (List.mem_append_left _ (List.mem_append_right _ (List.mem_singleton.2 rfl)))
              have hT1 : Tab wr tb mb rs := HTAB.out.kept2 hgv (by have := HT.out.ltT; have := HB2.out.size; omega) (by have := HT.out.map.lt; have := HB2.out.size; omega)
              have hT7 : Tab w7 tb mb rs := hT1.kept2 hg1 (by have := HT.out.ltT; have := HB2.out.size; omega) (by have := HT.out.map.lt; have := HB2.out.size; omega)
              have hcell := hT7.cell
              have hgA := World.grownBy_alloc wq (.map #[] 0) (some wq.heap.size)
              have hkI : I64 x := by have := hwx; simp [Lit.wf, IntKind.min, IntKind.max, IntKind.signed, IntKind.bits] at this; exact ⟨by omega, by omega⟩
              cases hg : getA rs x with
              | none =>
                have hlook := look_none hT7.map hkI hg
                have HE15 : Hid (chgE rs M = 15) := by
                  show _ = _
                  unfold chgE
                  rw [if_pos]
                  rw [List.any_eq_true]
                  exact ⟨(x, c), hxm, by simp [hg]⟩
                have HGF := hide ((grb_new (some mb) HGW.out (by omega)).andThen ((hgA.andThen hgv (fun j hj => .inr hj)).andThen hg1 (fun j hj => .inl (by cases hj; omega))) (fun j hj => .inl (by cases hj; exact HGW.out.size)))
                have HT7 := hide hT7
                clear hT1 hT7 hgv hg1
                go_wp2_with go_in
                go_ret
                refine ⟨by rw [HE.out, HE15.out]; rfl, ?_, HGF.out.andThen (World.grownBy_alloc w7 _ none) (fun j hj => by cases hj)⟩
                have : chgT rs M = rs := by unfold chgT; rw [HE15.out, if_neg (by omega)]
                rw [HR.out, this]
                exact HT7.out.later (below_alloc w7 _)
              | some p =>
                have hlook := look_some hT7.map hkI hg
                have hbp := may_bnd (HMAY.out _ (getA_mem hg))
                have hbc := HBM.out _ hxm
                have hR2 : chgR rs (x, c) = (x, (p.1, p.2 + c)) := by simp [chgR, hg]
                have hpl : ps.length ≤ M.length := by rw [← hC.length_eq, List.length_append]; omega
                have hpl2 := putAll_length (ps.map (chgR rs)) ([] : Rows)
                have hcl : (putAll [] (ps.map (chgR rs))).length < maxLen := by
                  have := HML.out; have := HLG.out; have := HLF.out; have := HL1.out; have := HL2.out
                  simp only [List.length_map, List.length_nil] at hpl2
                  simp only [maxLen]; omega
                obtain ⟨p1, p2⟩ := p
                simp only at hbp hbc hR2
                have hs64 : -9223372036854775808 ≤ p2 + c ∧ p2 + c ≤ 9223372036854775807 := by have := HL1.out; have := HL2.out; omega
                obtain ⟨f1, f2⟩ := hs64
                have hbW : Below w7.heap.size w7 (w7.alloc (.cells #[.int .i64 x, .int .i64 p1, .int .i64 (p2 + c)] 58)) := below_alloc w7 _
                have hout7 : RMap w7 wq.heap.size (putAll [] (ps.map (chgR rs))) := hout.kept hg1 (fun e => by have := Option.some.inj e; omega)
                have HO7 := hide hout7.1
                have hout8o := (hout7.2).alloc (.cells #[.int .i64 x, .int .i64 p1, .int .i64 (p2 + c)] 58)
                have HR2 := hide hR2
                have HC2 := hide hC2
                have HSOME : Hid (∀ q ∈ ps ++ [(x, c)], (getA rs q.1).isSome = true) := fun q hq => by
                  rcases List.mem_append.1 hq with h | h
                  · exact hsome q h
                  · rw [List.mem_singleton.1 h, hg]; rfl
                have HGV := hide (hgv.andThen hg1 (fun j hj => .inl (by cases hj; simp)))
                have hrgA := hrg1.alloc (.cells #[.int .i64 x, .int .i64 p1, .int .i64 (p2 + c)] 58)
                have HB := hide (show bg < wq.heap.size by have := HOUT.out.2.lt; exact this)
                have hkq : keyOf Try.prog 3 (.int .i64 x) = some (.int .i64 x) := hne3 x hwx
                clear hbp hbc hpl hpl2 hR2 hT1 hT7 hgv hg1 hout hout7 hC hC2 hnew hxm hat hsome hg hbW hlk0
                go_wp2_with (first
                  | (at_mapUpdate; go_loud (refine wpList_mapUpdate_own _ rfl _ _ _ 69 rfl 3 58 K3 Try.underlying69 rowR wq.heap.size _ _ rfl hout8o hcl _ _ _ rfl rfl hkq (roD (x, p1, p2 + c)) [] rfl ?_; intro w8 hout8 hg8; go_frame))
                  | go_in)
                have hrg2 := hrgA.kept hg8 (fun e => by have := Option.some.inj e; have := HB.out; omega) (fun e => by have := Option.some.inj e; omega)
                refine ⟨⟨_, cnt1, ps ++ [(x, c)], delA rest x, hrg2, HC2.out, hlk2, HSOME.out, ?_, (HGV.out.andThen (World.grownBy_alloc w7 _ none) (fun j hj => by cases hj)).andThen hg8 (fun j hj => .inr hj)⟩, ?_⟩
                · rw [List.map_append, List.map_singleton, HR2.out, putAll_snoc]
                  exact RMap.put (p := (p1, p2 + c)) HO7.out hout8
                · rw [hrg2.left_eq, hrg.left_eq]; exact hlt
        · intro x c w4 cnt1 hwx hwc hlk hat hrg1 hlt hg1 hs1 hen
          obtain ⟨hC2, hlk2, hnew⟩ := came2 hrisF hC hlk0 ((hlk0 x).trans hlk) hat
          have hdist : ps.Pairwise (fun p q => p.1 ≠ q.1) := (List.pairwise_append.1 (hC.symm.pairwise hrisF.ne (fun h e => h e.symm))).1
          have hxm : (x, c) ∈ F := hC2.mem_iff.1 (List.mem_append_left _ (List.mem_append_right _ (List.mem_singleton.2 rfl)))
          have hbc := BFH.out.all _ hxm
          have hval : (getA (subA G ps) x).getD 0 = (getA G x).getD 0 := by rw [getA_subA ps G x hdist, hnew]
          have hbg2 : 0 ≤ (getA G x).getD 0 ∧ (getA G x).getD 0 ≤ ms.length * 65536 := by
            cases hgg : getA G x with
            | none => simp; omega
            | some v => have := BGH.out.all _ (getA_mem hgg); simp at this ⊢; omega
          have hwf : -9223372036854775808 ≤ (getA (subA G ps) x).getD 0 - c ∧ (getA (subA G ps) x).getD 0 - c ≤ 9223372036854775807 := by
            have := HL1.out; have := HL2.out; rw [hval]; simp only at hbc; omega
          have HWF := hide hwf
          obtain ⟨f1, f2⟩ := hwf
          have hkq : keyOf Try.prog 3 (.int .i64 x) = some (.int .i64 x) := hne3 x hwx
          have hitb : bg < w2.heap.size := HG2.out.2.lt
          have hout1 : CMap w4 bg (subA G ps) := ⟨hout.1, hout.2.kept hg1 (fun e => by have := Option.some.inj e; omega)⟩
          have hown := hout1.2
          have hlen2 : (subA G ps).length < maxLen := by
            have h1 := subA_length ps G
            have h2 := hC.length_eq
            rw [List.length_append] at h2
            have := HLG.out; have := HLF.out; have := HL1.out; have := HL2.out
            simp only [maxLen]; omega
          have HC2 := hide hC2
          have HO := hide hout1.1
          clear hC hC2 hdist hxm hbc hval hbg2 hnew hout hout1 hlk0 hat
          go_wp2_with (first
            | (at_lookup; refine wpList_lookup_own_int _ rfl _ _ 85 rfl 3 3 .i64 int_keyed3 Try.underlying85 Try.underlying3 (Try.zeroValue3 _) _ _ _ rfl hown _ _ rfl hkq ?_; intro c2 hat2 hwc2; replace hat2 := CMap.at hat2; subst hat2)
            | (at_mapUpdate; go_loud (refine wpList_mapUpdate_own _ rfl _ _ _ 85 rfl 3 3 int_keyed3 Try.underlying85 _ _ _ _ rfl hown hlen2 _ _ _ rfl rfl hkq _ [] (plainElem_int Try.underlying3 (I64.wf HWF.out)) ?_; intro w5 hown5 hg5; go_frame))
            | go_in)
          have hrg2 := hrg1.kept hg5 (fun e => hne (Option.some.inj e).symm) (fun e => by have := Option.some.inj e; omega)
          have hgf := (hgw.andThen hg1 (fun j hj => .inl (by cases hj; exact Nat.le_refl _))).andThen hg5 (fun j hj => .inr hj)
          go_roundw
          case rel => exact ⟨_, cnt1, ps ++ [(x, c)], delA rest x, hrg2, HC2.out, hlk2, by rw [subA_snoc]; exact CMap.put HO.out hown5, hgf⟩
          case measure => rw [hrg2.left_eq, hrg.left_eq]; exact hlt
end Li
end Go.Proofs.Ytgdfmoehbgmfkaa
