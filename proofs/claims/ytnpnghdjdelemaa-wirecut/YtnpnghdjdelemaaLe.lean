/- A part of the proofs about package wire: what its functions answer, call by call. -/
import Derived.Test.YtnpnghdjdelemaaLc
import Derived.Test.YtnpnghdjdelemaaWq
namespace Go.Proofs.Ytnpnghdjdelemaa
open Go.RowKit
namespace Wi

theorem did_cell {w w2 : World} {b a : Nat} {s : ByteArray} {e : Int} (hd : Did w b s a e w2) {p : Addr} (hp : p.block < w.heap.size) (hne : p.block ≠ b) : w2.cell? p = w.cell? p := World.cell?_of_block (w := w) (hd.keep.block _ hp hne)
theorem wT_lt (k : Int) (x : Nat) (s : ByteArray) (n : Int) (hx : x < 18446744073709551616) (hs : s.size ≤ 300) : ∀ b ∈ wT k x s n, b < 256 := by
  intro b hb
  rcases kinds k with rfl | rfl | rfl | rfl | hk
  · rw [wT0.1, fixW] at hb
    split at hb
    · exact be_lt _ _ b hb
    · simp at hb
  · rw [wT1.1] at hb; exact vr_lt x hx b hb
  · rw [wT4.1] at hb; exact vr_lt x hx b hb
  · rw [wT2.1, tx, List.mem_append] at hb
    rcases hb with hb | hb
    · exact vr_lt s.size (by omega) b hb
    · exact bs_lt s b hb
  · rw [(wTr hk).1] at hb; exact bs_lt s b hb
theorem wTs_lt (xs : List OpV) (h : ∀ o ∈ xs, o.x < 18446744073709551616 ∧ o.s.size ≤ 300) : ∀ b ∈ wTs xs, b < 256 := by
  intro b hb
  simp only [wTs, List.mem_flatMap] at hb
  obtain ⟨o, ho, hb⟩ := hb
  exact wT_lt _ _ _ _ (h o ho).1 (h o ho).2 b hb
theorem wTs_split {xs : List OpV} {k : Nat} {o : OpV} (h : xs[k]? = some o) : (wTs xs).drop (wTs (xs.take k)).length = wT o.k o.x o.s o.n ++ wTs (xs.drop (k + 1)) := by
  have e1 : xs = xs.take (k + 1) ++ xs.drop (k + 1) := (List.take_append_drop _ _).symm
  have e2 : wTs xs = wTs (xs.take k) ++ (wT o.k o.x o.s o.n ++ wTs (xs.drop (k + 1))) := by
    rw [← List.append_assoc, ← wTs_snoc h]
    unfold wTs
    rw [← List.flatMap_append, ← e1]
  rw [e2, List.drop_left]
/-- What was written is read. -/
theorem fixR_back {x m : Nat} (h1 : 1 ≤ m) (h8 : m ≤ 8) (R : List Nat) : fixR (be x m ++ R) (m : Int) = (x % 256 ^ m, m, 0) := by
  rw [fixR_ok ⟨by omega, by omega⟩ (by rw [List.length_append, be_length]; omega), Int.toNat_natCast, List.take_append_of_le_length (by rw [be_length]; omega), List.take_of_length_le (by rw [be_length]; omega), num_be]
theorem rawR_back (s : ByteArray) (R : List Nat) : rawR (bs s ++ R) (s.size : Int) = (bs s, s.size, 0) := by
  rw [rawR_ok (by omega) (by rw [List.length_append, bs_length]; omega), Int.toNat_natCast, List.take_append_of_le_length (by rw [bs_length]; omega), List.take_of_length_le (by rw [bs_length]; omega)]
theorem txtR_back (s : ByteArray) (hs : s.size < 18446744073709551616) (R : List Nat) : txtR (tx s ++ R) (s.size : Int) = (bs s, size s.size + s.size, 0) := by
  have hf := few_vr 12 s.size hs (bs s ++ R)
  rw [← List.append_assoc] at hf
  have hi : intR (tx s ++ R) (s.size : Int) = (s.size, size s.size, 0) := by
    unfold intR tx
    rw [hf, if_neg]
    simp
  have hl : (tx s ++ R).length = size s.size + (s.size + R.length) := by
    rw [tx, List.length_append, List.length_append, vr_length, bs_length]
    omega
  have hdr : (tx s ++ R).drop (size s.size) = bs s ++ R := by
    have := List.drop_left (l₁ := vr s.size) (l₂ := bs s ++ R)
    rw [vr_length] at this
    rw [tx, List.append_assoc]
    exact this
  rw [txtR_ok (by rw [hi]) (by rw [hi, hl]; simp), hi]
  simp only
  rw [hdr, List.take_append_of_le_length (by rw [bs_length]; omega), List.take_of_length_le (by rw [bs_length]; omega)]
/-- So many bytes' unit. -/
def pw (j : Nat) : Nat := 256 ^ j
set_option maxHeartbeats 8000000 in
set_option maxRecDepth 20000 in
theorem wireBack_walk (a : Option Addr) (n cap : Nat) (xs : List OpV) (W : World) (hO : Os W a n xs) :
    Calls Try.prog 5 #[.slice a n cap] W fun e w' => e = .returned (.bool true) ∧ Below W.heap.size W w' := by
  have hfew := fewf_any a n cap xs W hO
  have hn := hO.most
  cases hB : opsB xs with
  | false =>
    rw [hB] at hfew
    go_enter Try.func5, Try.ntmps5
    go_wp2_with fail
    refine hfew.mono ?_
    rintro e w' ⟨rfl, rfl⟩
    go_wp2_with fail
    refine (awake_any _).mono ?_
    rintro e w5 ⟨rfl, hb5⟩
    go_wp2
    go_ret
    exact ⟨rfl, hb5⟩
  | true =>
    rw [hB] at hfew
    have HB := hide hB
    clear hB
    go_enter Try.func5, Try.ntmps5
    go_wp2_with fail
    refine hfew.mono ?_
    rintro e w' ⟨rfl, rfl⟩
    clear hfew
    go_wp2
    go_loopw [4] (fun i wr => ∃ k : Nat, k ≤ n ∧ i = .int .i64 k ∧ ∃ v', Wrote (w'.alloc (.cells #[.slice none 0 0] 27)) w'.heap.size (.slice none 0 0) (wTs (xs.take k)) wr v') (fun i _ => n - (intOf i).toNat)
    case atStart => exact ⟨0, Nat.zero_le _, rfl, _, Wrote.refl (OutAt.new w')⟩
    case round =>
      obtain ⟨k, hk, rfl, v', hwr⟩ := hrel
      have hlen := hO.len
      have HBr := hide ((below_alloc w' (.cells #[.slice none 0 0] 27)).trans (hwr.below (B := w'.heap.size) (by simp) (Nat.le_refl _) (From.nil _ _ _)).1)
      by_cases hlt : k < n
      · obtain ⟨⟨ok, ox, os, on⟩, hs0⟩ : ∃ o, xs[k]? = some o := ⟨_, List.getElem?_eq_getElem (by omega)⟩
        obtain ⟨g, off, rfl, hbl, c0, c1, c2, c3⟩ := (hO.later HBr.out).cells k _ hs0
        obtain ⟨hkk, hxl, _, hnn⟩ := hO.fit _ (List.mem_of_getElem? hs0)
        have hsz := opsB_size HB.out _ (List.mem_of_getElem? hs0)
        simp only at c0 c1 c2 c3 hsz hkk hxl hnn
        have hLl := wTs_small HB.out k
        have HLk : Hid (wTs (xs.take (k + 1)) = wTs (xs.take k) ++ wT ok ox os on) := wTs_snoc hs0
        have hwc := write_any w'.heap.size v' (wTs (xs.take k)) ok ox os on hxl hsz hnn wr hwr.out (by omega)
        clear hs0 hlen hLl
        generalize wTs (xs.take k) = L at *
        go_wp2_with fail
        refine hwc.mono ?_
        rintro e w2 ⟨rfl, v2, hw2⟩
        have HW := hide (hwr.trans hw2)
        clear hw2 hwc hwr
        go_wp2
        go_roundw
        case rel => exact ⟨k + 1, by omega, by go_num, v2, by rw [HLk.out]; exact HW.out⟩
        case measure => simp [intOf]; omega
      · rw [List.take_of_length_le (by omega)] at hwr
        have hst := string_any _ _ _ _ hwr.out
        have hall : ∀ o ∈ xs, o.x < 18446744073709551616 ∧ o.s.size ≤ 300 := fun o ho => ⟨(hO.fit o ho).2.1, opsB_size HB.out o ho⟩
        have HS := hide (bs_str (wTs_lt xs hall))
        have hss : (str (wTs xs)).size = (wTs xs).length := str_size _
        have hsl : (wTs xs).length ≤ 18540 := by
          have := wTs_small HB.out n
          rwa [List.take_of_length_le (by omega)] at this
        have hs63 : (str (wTs xs)).size ≤ 9223372036854775807 := by omega
        have HSS := hide hss
        clear hlen hwr hss
        generalize str (wTs xs) = S at *
        go_wp2_with fail
        refine hst.mono ?_
        rintro e w0 ⟨rfl, rfl⟩
        go_wp2_with fail
        refine (read_any S _).mono ?_
        rintro e w1 ⟨rfl, hi1, hb1⟩
        have HB1 := hide (HBr.out.trans (hb1.mono HBr.out.size))
        have hBge := HBr.out.size
        clear hst hb1 HBr
        generalize w0.heap.size = B at *
        go_wp2
        go_loopw [6] (fun i wr => ∃ k : Nat, k ≤ n ∧ i = .int .i64 k ∧ Did w1 B S (wTs (xs.take k)).length 0 wr) (fun i _ => n - (intOf i).toNat)
        case atStart => exact ⟨0, Nat.zero_le _, rfl, Did.refl hi1⟩
        case round =>
          clear hk hlt
          obtain ⟨k, hk, rfl, hd⟩ := hrel
          have hlen := hO.len
          have HBr := hide (HB1.out.trans (hd.below (B := w'.heap.size) HB1.out.size hBge))
          by_cases hlt : k < n
          · obtain ⟨⟨ok, ox, os, on⟩, hs0⟩ : ∃ o, xs[k]? = some o := ⟨_, List.getElem?_eq_getElem (by omega)⟩
            obtain ⟨g, off, rfl, hbl, c0, c1, c2, c3⟩ := (hO.later HBr.out).cells k _ hs0
            obtain ⟨hkk, hxl, _, hnn⟩ := hO.fit _ (List.mem_of_getElem? hs0)
            have hsz := opsB_size HB.out _ (List.mem_of_getElem? hs0)
            simp only at c0 c1 c2 c3 hsz hkk hxl hnn
            have HLk : Hid (wTs (xs.take (k + 1)) = wTs (xs.take k) ++ wT ok ox os on) := wTs_snoc hs0
            have hdrop : (bs S).drop (wTs (xs.take k)).length = wT ok ox os on ++ wTs (xs.drop (k + 1)) := by rw [HS.out]; exact wTs_split hs0
            have hA : (wTs (xs.take k)).length ≤ S.size := by
              have h1 := congrArg List.length (List.take_append_drop k xs)
              have h2 : wTs xs = wTs (xs.take k) ++ wTs (xs.drop k) := by unfold wTs; rw [← List.flatMap_append, List.take_append_drop]
              rw [HSS.out, h2, List.length_append]
              omega
            have HAk0 : Hid ((wTs (xs.take (k + 1))).length = (wTs (xs.take k)).length + (wT ok ox os on).length) := by
              show _ = _
              rw [HLk.out, List.length_append]
            have hBx : wr.heap.size ≠ B := by
              have := hd.inn.lt
              omega
            clear hs0 hlen HLk
            generalize (wTs (xs.take k)).length = A at *
            generalize wTs (xs.drop (k + 1)) = R at *
            obtain ⟨hn1, hn2⟩ := hnn
            rcases kinds ok with rfl | rfl | rfl | rfl | hok
            · rw [wT0.1] at hdrop HAk0
              by_cases h1 : on < 1
              · rw [show fixW ox on = [] by rw [fixW, if_neg (by omega)]] at HAk0
                have HD2 := hide (hd.later (below_alloc wr (.cells #[.int .i64 0, .int .u64 (ox : Nat), .string os, .int .i64 on] 33)))
                clear hdrop
                go_wp2
                go_roundw
                case rel => exact ⟨k + 1, by omega, by go_num, by rw [HAk0.out]; exact HD2.out⟩
                case measure => simp [intOf]; omega
              · by_cases h8 : 8 < on
                · rw [show fixW ox on = [] by rw [fixW, if_neg (by omega)]] at HAk0
                  have HD2 := hide (hd.later (below_alloc wr (.cells #[.int .i64 0, .int .u64 (ox : Nat), .string os, .int .i64 on] 33)))
                  clear hdrop
                  go_wp2
                  go_roundw
                  case rel => exact ⟨k + 1, by omega, by go_num, by rw [HAk0.out]; exact HD2.out⟩
                  case measure => simp [intOf]; omega
                · obtain ⟨m, rfl⟩ := Int.eq_ofNat_of_zero_le (show 0 ≤ on by omega)
                  have hfw : fixW ox (m : Int) = be ox m := by rw [fixW, if_pos (by omega), Int.toNat_natCast]
                  rw [hfw] at hdrop HAk0
                  have HDa := hide (hd.later (below_alloc wr (.cells #[.int .i64 0, .int .u64 (ox : Nat), .string os, .int .i64 (m : Int)] 33)))
                  have hcall := rfix_ok (m : Int) HDa.out.inn hs63 hA ⟨by omega, by omega⟩
                  rw [hdrop, fixR_back (by omega) (by omega)] at hcall
                  have HAk : Hid ((wTs (xs.take (k + 1))).length = A + m) := by
                    show _ = _
                    rw [HAk0.out, be_length]
                  clear hdrop hfw HAk0
                  have hmv : (ox : Int) % ((pw m : Nat) : Int) = ((ox % 256 ^ m : Nat) : Int) := (Int.natCast_emod ox (256 ^ m)).symm
                  have HV8 : Hid (m = 8 → ox % 256 ^ m = ox) := fun h => by subst h; exact Nat.mod_eq_of_lt hxl
                  have hpl : ox % 256 ^ m < 18446744073709551616 := Nat.lt_of_le_of_lt (Nat.mod_le _ _) hxl
                  generalize ox % 256 ^ m = V at *
                  go_wp2_with fail
                  refine hcall.mono ?_
                  rintro e w2 ⟨rfl, hd2⟩
                  have d0 : w2.cell? ⟨wr.heap.size, 0, none⟩ = some (.int .i64 0) := (did_cell hd2 (by simp) hBx).trans (by simp)
                  have d1 : w2.cell? ⟨wr.heap.size, 1, none⟩ = some (.int .u64 (ox : Nat)) := (did_cell hd2 (by simp) hBx).trans (by simp)
                  have d2 : w2.cell? ⟨wr.heap.size, 2, none⟩ = some (.string os) := (did_cell hd2 (by simp) hBx).trans (by simp)
                  have d3 : w2.cell? ⟨wr.heap.size, 3, none⟩ = some (.int .i64 (m : Int)) := (did_cell hd2 (by simp) hBx).trans (by simp)
                  have HD2 := hide (HDa.out.trans hd2)
                  clear hd2 hcall
                  by_cases h88 : m < 8
                  · clear HV8
                    have Hmv := hide hmv
                    clear hmv
                    go_wp2
                    go_loop [9, 10] (fun u i => ∃ j : Nat, j ≤ m ∧ i = .int .i64 j ∧ u = .int .u64 (pw j : Nat)) (fun _ i => m - (intOf i).toNat)
                    case atStart => exact ⟨0, Nat.zero_le _, rfl, rfl⟩
                    case round =>
                      obtain ⟨j, hj, rfl, rfl⟩ := hrel
                      by_cases hjm : j < m
                      · have hjp : pw j ≤ 281474976710656 := (Nat.pow_le_pow_right (by omega) (by omega) : 256 ^ j ≤ 256 ^ 6)
                        have HP : Hid (256 * pw j = pw (j + 1)) := by show 256 * 256 ^ j = 256 ^ (j + 1); rw [Nat.pow_succ, Nat.mul_comm]
                        generalize hU : pw j = U at *
                        clear hU
                        go_wp2
                        go_round
                        case rel => exact ⟨j + 1, by omega, by go_num, by rw [← HP.out]; go_num⟩
                        case measure => simp [intOf]; omega
                      · obtain rfl : j = m := by omega
                        have hpos : 0 < pw j := Nat.pow_pos (by omega)
                        have hpl2 : pw j ≤ 72057594037927936 := (Nat.pow_le_pow_right (by omega) (by omega) : 256 ^ j ≤ 256 ^ 7)
                        have hmv := Hmv.out
                        have h88' : ((j : Int) == 8) = false := by rw [beq_eq_false_iff_ne]; omega
                        generalize pw j = U at *
                        have hUp : (0 : Int) < (U : Int) := by omega
                        have hUne : ((U : Int) == 0) = false := by rw [beq_eq_false_iff_ne]; omega
                        go_wp2_with fail
                        refine (err_any HD2.out.inn).mono ?_
                        rintro e w5 ⟨rfl, hw5⟩
                        subst hw5
                        go_wp2
                        go_roundw
                        case rel => exact ⟨k + 1, by omega, by go_num, by rw [HAk.out]; exact HD2.out⟩
                        case measure => simp [intOf]; omega
                  · obtain rfl : m = 8 := by omega
                    have hV := HV8.out rfl
                    subst hV
                    clear HV8 hmv
                    go_wp2
                    go_loop [9, 10] (fun u i => u = .int .u64 1 ∧ i = .int .i64 0) (fun _ _ => 0)
                    case atStart => exact ⟨rfl, rfl⟩
                    case round =>
                      obtain ⟨rfl, rfl⟩ := hrel
                      go_wp2_with fail
                      refine (err_any HD2.out.inn).mono ?_
                      rintro e w5 ⟨rfl, hw5⟩
                      subst hw5
                      go_wp2
                      go_roundw
                      case rel => exact ⟨k + 1, by omega, by go_num, by rw [HAk.out]; exact HD2.out⟩
                      case measure => simp [intOf]; omega
            · rw [wT1.1] at hdrop HAk0
              have HDa := hide (hd.later (below_alloc wr (.cells #[.int .i64 1, .int .u64 (ox : Nat), .string os, .int .i64 on] 33)))
              have hcall := rvar_ok (HDa.out.later (Below.refl _ _).drew).inn hs63 hA
              rw [hdrop, few_vr 12 ox hxl] at hcall
              have HAk : Hid ((wTs (xs.take (k + 1))).length = A + size ox) := by
                show _ = _
                rw [HAk0.out, vr_length]
              clear hdrop HAk0
              go_wp2
              go_region_with (go_at_call 25; refine hcall.mono ?_; rintro e w2 ⟨rfl, hd2⟩; have d1 : w2.cell? ⟨wr.heap.size, 1, none⟩ = some (.int .u64 (ox : Nat)) := (did_cell hd2 (by simp) hBx).trans (by simp))
              all_goals
                have HD2 := hide ((HDa.out.later (Below.refl _ _).drew).trans hd2)
                clear hd2
                go_wp2_with fail
                refine (err_any HD2.out.inn).mono ?_
                rintro e w5 ⟨rfl, hw5⟩
                subst hw5
                go_wp2
                go_roundw
                case rel => exact ⟨k + 1, by omega, by go_num, by rw [HAk.out]; exact HD2.out⟩
                case measure => simp [intOf]; omega
            · rw [wT4.1] at hdrop HAk0
              have HDa := hide (hd.later (below_alloc wr (.cells #[.int .i64 4, .int .u64 (ox : Nat), .string os, .int .i64 on] 33)))
              have hcall := rvar_ok (HDa.out.later (Below.refl _ _).drew).inn hs63 hA
              rw [hdrop, few_vr 12 ox hxl] at hcall
              have HAk : Hid ((wTs (xs.take (k + 1))).length = A + size ox) := by
                show _ = _
                rw [HAk0.out, vr_length]
              clear hdrop HAk0
              go_wp2
              go_region_with (go_at_call 25; refine hcall.mono ?_; rintro e w2 ⟨rfl, hd2⟩; have d1 : w2.cell? ⟨wr.heap.size, 1, none⟩ = some (.int .u64 (ox : Nat)) := (did_cell hd2 (by simp) hBx).trans (by simp))
              all_goals
                have HD2 := hide ((HDa.out.later (Below.refl _ _).drew).trans hd2)
                clear hd2
                go_wp2_with fail
                refine (err_any HD2.out.inn).mono ?_
                rintro e w5 ⟨rfl, hw5⟩
                subst hw5
                go_wp2
                go_roundw
                case rel => exact ⟨k + 1, by omega, by go_num, by rw [HAk.out]; exact HD2.out⟩
                case measure => simp [intOf]; omega
            · rw [wT2.1] at hdrop HAk0
              have HDa := hide (hd.later (below_alloc wr (.cells #[.int .i64 2, .int .u64 (ox : Nat), .string os, .int .i64 on] 33)))
              have hcall := rtxt_ok (os.size : Int) (HDa.out.later (Below.refl _ _).drew).inn hs63 hA ⟨by omega, by omega⟩
              rw [hdrop, txtR_back os (by omega)] at hcall
              simp only [str_bs] at hcall
              have HAk : Hid ((wTs (xs.take (k + 1))).length = A + (size os.size + os.size)) := by
                show _ = _
                rw [HAk0.out, tx, List.length_append, vr_length, bs_length]
              clear hdrop HAk0
              go_wp2
              go_region_with (go_at_call 26; refine hcall.mono ?_; rintro e w2 ⟨rfl, hd2⟩; have d1 : w2.cell? ⟨wr.heap.size, 2, none⟩ = some (.string os) := (did_cell hd2 (by simp) hBx).trans (by simp))
              all_goals
                have HD2 := hide ((HDa.out.later (Below.refl _ _).drew).trans hd2)
                clear hd2
                go_wp2_with fail
                refine (err_any HD2.out.inn).mono ?_
                rintro e w5 ⟨rfl, hw5⟩
                subst hw5
                go_wp2
                go_roundw
                case rel => exact ⟨k + 1, by omega, by go_num, by rw [HAk.out]; exact HD2.out⟩
                case measure => simp [intOf]; omega
            · rw [(wTr hok).1] at hdrop HAk0
              obtain ⟨k0, k1, k4, k2⟩ := hok
              have HDa := hide (hd.later (below_alloc wr (.cells #[.int .i64 ok, .int .u64 (ox : Nat), .string os, .int .i64 on] 33)))
              have hcall := rraw_ok (os.size : Int) (HDa.out.later (Below.refl _ _).drew).inn hs63 hA ⟨by omega, by omega⟩
              rw [hdrop, rawR_back os] at hcall
              simp only [str_bs] at hcall
              have HAk : Hid ((wTs (xs.take (k + 1))).length = A + os.size) := by
                show _ = _
                rw [HAk0.out, bs_length]
              clear hdrop HAk0
              go_wp2
              go_region_with (go_at_call 27; refine hcall.mono ?_; rintro e w2 ⟨rfl, hd2⟩; have d1 : w2.cell? ⟨wr.heap.size, 2, none⟩ = some (.string os) := (did_cell hd2 (by simp) hBx).trans (by simp))
              all_goals
                have HD2 := hide ((HDa.out.later (Below.refl _ _).drew).trans hd2)
                clear hd2
                go_wp2_with fail
                refine (err_any HD2.out.inn).mono ?_
                rintro e w5 ⟨rfl, hw5⟩
                subst hw5
                go_wp2
                go_roundw
                case rel => exact ⟨k + 1, by omega, by go_num, by rw [HAk.out]; exact HD2.out⟩
                case measure => simp [intOf]; omega
          · rw [List.take_of_length_le (by omega), ← HSS.out] at hd
            have hdn := done_all hd.inn hs63
            clear hlen
            go_wp2_with fail
            refine hdn.mono ?_
            rintro e w5 ⟨rfl, hb5⟩
            have HB5 := hide (HBr.out.trans (hb5.mono HBr.out.size))
            go_wp2_with fail
            refine (awake_any _).mono ?_
            rintro e w6 ⟨rfl, hb6⟩
            go_wp2
            go_ret
            exact ⟨rfl, HB5.out.trans (hb6.mono HB5.out.size)⟩

end Wi
end Go.Proofs.Ytnpnghdjdelemaa
