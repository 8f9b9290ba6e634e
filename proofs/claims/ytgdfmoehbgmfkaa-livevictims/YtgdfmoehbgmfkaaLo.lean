/- Count: how many sectors of each object extents have, as rows. -/
import Derived.Test.YtgdfmoehbgmfkaaLn
import Derived.Test.YtgdfmoehbgmfkaaSk
namespace Go.Proofs.Ytgdfmoehbgmfkaa
open Go.RowKit
namespace Li
open Wi
/-- slices.Sort's two contracts, at the fence that asks nothing. -/
theorem sortsC (m : Nat) : AnyZI.SortsIn Try.prog Try.sortedC_ren Fence.wide m :=
  ⟨fun blk off cap ss W hH hblk hsz => callsIn_wide.2 (AnyM.slices_Sort_int Try.sortC blk off cap ss W hH hblk hsz),
   fun p cap W => callsIn_wide.2 (AnyM.slices_Sort_int_none Try.sortC p cap W)⟩
theorem keys_any (mb : Option Nat) (w : World) : Calls Try.prog 42 #[.map mb] w fun e w' => e = .returned (.func (.func 59) #[] #[.pointer (some ⟨w.heap.size, 0, none⟩)]) ∧ w' = w.alloc (.cells #[.map mb] 85) :=
  (callsIn_wide (n := 5)).1 (AnyZI.keys_in Try.keysC Fence.wide 5 trivial rfl mb w)
theorem intKeys_mapG (m : Al Int) : intKeys (mapG iD m) = m.map (·.1) := by
  simp only [mapG, intKeys, List.map_map]
  exact List.map_congr_left fun p _ => rfl
theorem ris_sorted {ss : List Int} {m : Al Int} (hr : Ris m) (hp : List.Perm ss (m.map (·.1))) : ss.mergeSort (fun x y => decide (x ≤ y)) = m.map (·.1) := by
  have h1 : (ss.mergeSort (fun x y => decide (x ≤ y))).Perm (m.map (·.1)) := (List.mergeSort_perm _ _).trans hp
  have h2 : (ss.mergeSort (fun x y => decide (x ≤ y))).Pairwise (fun x y => decide (x ≤ y)) := List.pairwise_mergeSort (fun a b c h1 h2 => by simp at *; omega) (fun a b => by simp; omega) ss
  have h3 : (m.map (·.1)).Pairwise (fun x y => decide (x ≤ y)) := List.pairwise_map.2 (List.Pairwise.imp (fun h => by simp; omega) hr)
  exact List.Perm.eq_of_pairwise (fun a b _ _ h1 h2 => by simp at h1 h2; omega) h2 h3 h1
theorem sortedKeys_any {w : World} {b : Nat} {m : Al Int} (h : CMap w b m) (hlen : m.length ≤ 1000000) :
    Calls Try.prog 41 #[.func (.func 59) #[] #[.pointer (some ⟨w.heap.size, 0, none⟩)]] (w.alloc (.cells #[.map (some b)] 85)) fun e w' =>
      ∃ v, e = .returned v ∧ w'.ownsRow (w.heap.size + 1) 3 1 v m.length (m.map fun p => Value.int .i64 p.1) ∧ Below (w.heap.size + 1) (w.alloc (.cells #[.map (some b)] 85)) w' := by
  refine (callsIn_wide (n := 5)).1 ?_
  have hbl := h.2.lt
  have hsz : Maps.size (mapG iD m) = m.length := size_mapG _ _
  have hseq : SeqGives Fence.wide 2 Try.prog 59 #[.pointer (some ⟨w.heap.size, 0, none⟩)] encZ (fun ss => ss.Perm (intKeys (mapG iD m))) (Maps.size (mapG iD m)) (w.alloc (.cells #[.map (some b)] 85)) :=
    AnyZI.keys_gives (ρ := Try.keysC_ren) { Try.keysC with } Fence.wide _ trivial rfl (by omega) w.heap.size b m.length (mapG iD m) _ (by simp) (by simp) (h.2.alloc _)
  have cS := AnyZI.sorted_in Try.sortedC Fence.wide 5 trivial trivial trivial trivial rfl (by omega) (sortsC _) (enters_of Try.func58 (by kernel_rfl) rfl) 59 #[.pointer (some ⟨w.heap.size, 0, none⟩)] trivial (enters_of Try.func59 (by kernel_rfl) rfl) _ _ (by rw [hsz]; simp only [maxLen]; omega) (by rw [hsz]; omega) _ hseq
  change CallsIn _ _ Try.prog 41 _ _ _ at cS
  refine cS.mono ?_
  rintro e w' ⟨v, ss, rfl, hS, hrow, _, hb⟩
  rw [World.size_alloc] at hrow hb
  rw [intKeys_mapG] at hS
  rw [ris_sorted h.1 hS, hS.length_eq, List.map_map, List.length_map] at hrow
  exact ⟨v, rfl, hrow, hb⟩
/-- The rows of what is counted. -/
def cntR (m : Al Int) : List Ro := m.map fun p => (p.1, p.2, p.2)
theorem cntR_take (m : Al Int) (k : Nat) {p : Int × Int} (h : m[k]? = some p) : rcs (cntR (m.take (k + 1))) = rcs (cntR (m.take k)) ++ [.int .i64 p.1, .int .i64 p.2, .int .i64 p.2] := by
  rw [snoc_take _ _ _ h]
  simp [cntR, rcs, rc]
set_option maxHeartbeats 8000000 in
set_option maxRecDepth 100000 in
/-- Count. -/
theorem count_any {w : World} {a : Option Addr} {n cap : Nat} {xs : List Ix} (hE : Ex w a n xs) (hn : n ≤ 1000000) : Calls Try.prog 19 #[.slice a n cap] w fun e w' =>
    Below w.heap.size w w' ∧ ((xs.all Ix.may = false ∧ e = .returned (.slice none 0 0)) ∨ (xs.all Ix.may = true ∧ ∃ v, e = .returned v ∧ w'.ownsRow w.heap.size 58 3 v (cntM xs).length (rcs (cntR (cntM xs))))) := by
  have hs := sectors_any (cap := cap) hE hn
  have hk := keys_any
  have HLM : Hid ((cntM xs).length ≤ 1000000) := Nat.le_trans (Nat.le_trans (cntM_len xs) (by rw [← hE.len]; exact Nat.le_refl _)) hn
  have HBD : Hid (xs.all Ix.may = true → BndC (cntM xs) xs.length) := fun h => by
    have := cntM_bnd xs.length xs (Nat.le_refl _) (fun j x _ hx => List.all_eq_true.1 h x (List.mem_of_getElem? hx))
    rwa [List.take_length] at this
  have HLX := hide hE.len
  obtain ⟨i0, hi, hz0, hz1, hz2⟩ := info_parts Try.info58
  clear hE
  go_enter Try.func19, Try.ntmps19
  go_wp2_with fail
  refine hs.mono ?_
  rintro e w1 ⟨hb1, ⟨hf, rfl⟩ | ⟨hf, bm, rfl, hbm, hmap⟩⟩
  · have HB1 := hide hb1
    have HF := hide hf
    clear hs hb1 hf hk
    go_wp2
    go_ret
    exact ⟨HB1.out, .inl ⟨HF.out, rfl⟩⟩
  · have HB1 := hide hb1
    have HF := hide hf
    have hso := sortedKeys_any hmap HLM.out
    have HMAP := hide hmap
    generalize hM : cntM xs = m at *
    have HM := hide hM
    have HBM := hide hbm
    have hlm := HLM.out
    clear hs hb1 hf hmap hM hbm
    go_wp2_with (first
      | (go_at_call 42; refine (hk _ _).mono ?_; rintro e w2 ⟨rfl, rfl⟩)
      | (go_at_call 41; refine hso.mono ?_; rintro e w3 ⟨v, rfl, hrow3, hb3⟩; obtain ⟨a3, cap3, rfl⟩ := row_slice (own_base hrow3 (Nat.zero_le _))))
    have HB3 := hide ((HB1.out.alloc HB1.out.size (.cells #[.map (some bm)] 85)).trans (hb3.mono (Nat.le_trans HB1.out.size (Nat.le_succ _))))
    have HMAP3 := hide ((HMAP.out.alloc (.cells #[.map (some bm)] 85)).later (by rw [World.size_alloc]; exact hb3))
    have HROW := hide hrow3
    have HR0 : Hid (w3.ownsRow w3.heap.size 58 3 (.slice none 0 0) 0 (rcs (cntR (m.take 0)))) := World.ownsRow_nil _ _ _ _
    generalize hml : m.length = ml at *
    have HML := hide hml
    clear hso hk hrow3 hb3 hml
    go_loopw [5, 20] (fun c i wr => ∃ k : Nat, k ≤ ml ∧ i = .int .i64 k ∧ wr.ownsRow w3.heap.size 58 3 c k (rcs (cntR (m.take k))) ∧ Below w3.heap.size w3 wr) (fun _ i _ => ml - (intOf i).toNat)
    case atStart => exact ⟨0, Nat.zero_le _, rfl, HR0.out, Below.refl _ _⟩
    case round =>
      obtain ⟨k, hk, rfl, hrow, hb⟩ := hrel
      by_cases hlt : k < ml
      · obtain ⟨p, hp⟩ : ∃ p, m[k]? = some p := ⟨_, List.getElem?_eq_getElem (by have := HML.out; omega)⟩
        obtain ⟨p1, p2⟩ := p
        have hbd := (HBD.out HF.out).all _ (List.mem_of_getElem? hp)
        simp only at hbd
        have hkq : keyOf Try.prog 3 (.int .i64 p1) = some (.int .i64 p1) := hne3 p1 (I64.wf ⟨by omega, by omega⟩)
        have hat : (getA m p1).getD 0 = p2 := by rw [getA_of_mem HMAP.out.1 (List.mem_of_getElem? hp)]; rfl
        have HAT := hide hat
        obtain ⟨g3, cap4, hv3, hg3⟩ := row_form (own_base HROW.out (Nat.zero_le _)) (by omega)
        injection hv3 with hv3 _ hv4
        subst hv3
        have hck : wr.cell? ⟨g3, k, none⟩ = some (.int .i64 p1) := (hb.cell (p := ⟨g3, k, none⟩) hg3).trans ((World.ownsRow.cellAt HROW.out k (by rw [Nat.mul_one]; exact hlt)).trans (by rw [List.getElem?_map, hp]; rfl))
        have hown := (HMAP3.out.later hb).2
        have HX := hide (cntR_take m k hp)
        have HB := hide hb
        have hbs := Nat.le_trans hb.size (below_alloc wr (.cells #[.int .i64 p1, .int .i64 p2, .int .i64 p2] 58)).size
        have hcell := cells_three_new wr (.int .i64 p1) (.int .i64 p2) (.int .i64 p2) 58
        clear hp hb hbd hat
        go_wp2_with (first
          | (at_lookup; refine wpList_lookup_own_int _ rfl _ _ 85 rfl 3 3 .i64 int_keyed3 Try.underlying85 Try.underlying3 (Try.zeroValue3 _) _ _ _ rfl hown _ _ rfl hkq ?_; intro c hat2 hwc; replace hat2 := (CMap.at hat2).trans HAT.out; subst hat2)
          | (at_builtin; refine wpList_append_own _ rfl _ _ 30 rfl w3.heap.size 58 i0 (.agg #[.int .i64 0, .int .i64 0, .int .i64 0]) 3 24 Try.underlying30 hi hz0 hz1 hz2 rfl (by decide) _ _ _ rfl (hrow.alloc _) ⟨wr.heap.size, 0, none⟩ 1 1 _ rfl rfl hcell (by simp [Value.oneCell']) (by simp only [maxLen]; omega) (by omega) hbs ?_; intro v' w4 hown' hgrow _))
        have HB4 := hide ((HB.out.alloc HB.out.size (.cells #[.int .i64 p1, .int .i64 c, .int .i64 c] 58)).grown hgrow hbs (fun i hi => (hrow.lt i hi).1))
        exact ⟨⟨v', _, _, _, ⟨k + 1, by omega, by go_num, by rw [HX.out]; exact hown', HB4.out⟩, rfl, rfl, rfl, rfl⟩, by simp [intOf]; omega⟩
      · obtain rfl : k = ml := by omega
        have htk : m.take k = m := List.take_of_length_le (by have := HML.out; omega)
        rw [htk] at hrow
        have HRW := hide hrow
        have HB := hide hb
        clear hrow hb htk
        go_wp2
        go_ret
        refine ⟨HB3.out.trans (HB.out.mono HB3.out.size), .inr ⟨by rw [HF.out], _, rfl, ?_⟩⟩
        rw [HM.out, HML.out]
        exact own_base HRW.out HB3.out.size
end Li
end Go.Proofs.Ytgdfmoehbgmfkaa
