/- A part of the proofs about package span: what its functions answer, call by call. -/
import Derived.Test.YthbgniclplfpgaaWf
import Derived.Test.YthbgniclplfpgaaPd
namespace Go.Proofs.Ythbgniclplfpgaa
open Go.RowKit
namespace Sp

theorem nth_sub {xs : List (Int × Int)} {f t i : Nat} (_h : t ≤ xs.length) (hi : i < t - f) : nth ((xs.drop f).take (t - f)) i = nth xs (f + i) := by
  simp [nth, hi]
theorem sub_length {xs : List (Int × Int)} {f t : Nat} (h : t ≤ xs.length) : ((xs.drop f).take (t - f)).length = t - f := by simp; omega
theorem Sl.sub {w : World} {b off n : Nat} {xs : List (Int × Int)} (h : Sl w (some ⟨b, off, none⟩) n xs) {f t : Nat} (hft : f ≤ t) (ht : t ≤ xs.length) : Sl w (some ⟨b, off + f * 2, none⟩) (t - f) ((xs.drop f).take (t - f)) :=
  ⟨(sub_length ht).symm, by have := h.most; have := h.len; omega, fun x hx => h.fit x (List.mem_of_mem_drop (List.mem_of_mem_take hx)), fun i hi => by
    rw [sub_length ht] at hi
    obtain ⟨b', off', he, hb, c0, c1⟩ := h.cells (f + i) (by omega)
    simp only [Option.some.injEq, Addr.mk.injEq, and_true] at he
    obtain ⟨rfl, rfl⟩ := he
    refine ⟨b, off + f * 2, rfl, hb, ?_, ?_⟩
    · rw [nth_sub ht hi, show off + f * 2 + i * 2 = off + (f + i) * 2 by omega]; exact c0
    · rw [nth_sub ht hi, show off + f * 2 + i * 2 + 1 = off + (f + i) * 2 + 1 by omega]; exact c1⟩

theorem later_box {w : World} {o : Obj} (p : Later (w.alloc o)) : w.heap.size < p.val.heap.size := by have := p.below.size; simp at this; omega
theorem hide {p : Prop} (h : p) : Hid p := h
theorem Sl.sub' {w : World} {a : Option Addr} {n cap : Nat} {xs : List (Int × Int)} (h : Sl w a n xs) (hcap : n ≤ cap) {f t : Nat} (hft : f ≤ t) (ht : t ≤ xs.length) :
    Sl w (if cap = f then a else a.map (·.add (f * 2))) (t - f) ((xs.drop f).take (t - f)) := by
  rcases Nat.lt_or_ge f t with h1 | h1
  · have hl := h.len
    rw [if_neg (by omega)]
    obtain ⟨b, off, rfl, _⟩ := h.cells f (by omega)
    have := h.sub hft ht
    simpa [Addr.add_lit] using this
  · rw [show t - f = 0 by omega]
    exact ⟨by simp, by omega, by simp, fun i hi => by simp at hi⟩

def NearPost (a : Option Addr) (n : Nat) (xs : List (Int × Int)) (s : Int × Int) (w : World) (e : Ending) (w' : World) : Prop := ∃ f t a' cap', NearP xs s f t ∧ e = .returned (.slice a' (t - f) cap') ∧ (∀ W, Sl W a n xs → Sl W a' (t - f) ((xs.drop f).take (t - f))) ∧ Below w.heap.size w w'

set_option maxHeartbeats 1000000 in
theorem near_any (a : Option Addr) (n cap : Nat) (xs : List (Int × Int)) (s : Int × Int) (w : World) (h : Sl w a n xs) (hcap : n ≤ cap) (hs : setB xs = true) (hm : mayB s = true) :
    Calls Try.prog 38 #[.slice a n cap, .agg #[.int .i64 s.1, .int .i64 s.2]] w (NearPost a n xs s w) := by
  have hn := h.most
  have hmm := mayB_iff.1 hm
  have hle := placeN_le xs (s.1 + s.2)
  have hmo := placeN_mono hs (i := s.1) (k := s.1 + s.2) (by omega)
  have HL : Hid (n = xs.length) := h.len
  rw [← HL.out] at hle
  have hb0 := below_alloc w (.cells #[.int .i64 s.1, .int .i64 s.2] 27)
  have hp1 : ∀ p : Later (w.alloc (.cells #[.int .i64 s.1, .int .i64 s.2] 27)), _ := fun p => place_any a n cap xs s.1 p.val ((h.later hb0).later p.below) hs
  have hp2 : ∀ p : Later (w.alloc (.cells #[.int .i64 s.1, .int .i64 s.2] 27)), _ := fun p => place_any a n cap xs (s.1 + s.2) p.val ((h.later hb0).later p.below) hs
  have he1 : ∀ p : Later (w.alloc (.cells #[.int .i64 s.1, .int .i64 s.2] 27)), _ := fun p => end_b s p.val hm
  have hne := later_ne (w.alloc (.cells #[.int .i64 s.1, .int .i64 s.2] 27))
  have C0 : ∀ p : Later (w.alloc (.cells #[.int .i64 s.1, .int .i64 s.2] 27)), p.val.cell? ⟨w.heap.size, 0, none⟩ = some (.int .i64 s.1) := fun p => box0 p.below
  have C1 : ∀ p : Later (w.alloc (.cells #[.int .i64 s.1, .int .i64 s.2] 27)), p.val.cell? ⟨w.heap.size, 1, none⟩ = some (.int .i64 s.2) := fun p => box1 p.below
  have HS := hide h
  by_cases hl : placeN xs (s.1 + s.2) < n
  · obtain ⟨b, off, rfl, _⟩ := h.cells (placeN xs (s.1 + s.2)) (by have := HL.out; omega)
    obtain ⟨b', off', he', hbl, c0, c1⟩ := (h.later hb0).cells (placeN xs (s.1 + s.2)) (by have := HL.out; omega)
    simp only [Option.some.injEq, Addr.mk.injEq, and_true] at he'
    obtain ⟨rfl, rfl⟩ := he'
    have D0 := lcell hbl c0
    clear c0 c1
    by_cases hc : (nth xs (placeN xs (s.1 + s.2))).1 < s.1 + s.2
    · have HN := hide (near_in hs hm (by have := HL.out; omega) hc)
      clear hs h
      generalize nth xs (placeN xs (s.1 + s.2)) = y at *
      go_enter Try.func38, Try.ntmps38
      go_wp2
      refine wp_region_later (by kernel_rfl) (by kernel_rfl) ?_
      (repeat (first | go_big_quiet_skip | (go_big_quiet_want; go_big_quiet_op; go_big_quiet_on)))
      (go_big_quiet_want; go_big_quiet_op; apply Exists.intro; refine ⟨fun p => ?_, ?_⟩; (· exact later_of (hp1 p)); go_big_quiet_on)
      (repeat (first | go_big_quiet_skip | (go_big_quiet_want; go_big_quiet_op; go_big_quiet_on)))
      (go_big_quiet_want; go_big_quiet_op; apply Exists.intro; refine ⟨fun p => ?_, ?_⟩; (· exact later_of (he1 p)); go_big_quiet_on)
      (repeat (first | go_big_quiet_skip | (go_big_quiet_want; go_big_quiet_op; go_big_quiet_on)))
      (go_big_quiet_want; go_big_quiet_op; apply Exists.intro; refine ⟨fun p => ?_, ?_⟩; (· exact later_of (hp2 p)); go_big_quiet_on)
      (repeat (first | go_big_quiet_skip | (go_big_quiet_want; go_big_quiet_op; go_big_quiet_on)))
      refine wpQuiet_nil ?_
      rintro _ ⟨p, rfl⟩
      have hb1 := hb0.trans (p.below.mono hb0.size)
      have he2 : ∀ q : Later p.val, _ := fun q => end_b s q.val hm
      have hne2 := later_ne p.val
      have C02 : ∀ q : Later p.val, q.val.cell? ⟨w.heap.size, 0, none⟩ = some (.int .i64 s.1) := fun q => (q.below.cell (later_box p)).trans (C0 p)
      have C12 : ∀ q : Later p.val, q.val.cell? ⟨w.heap.size, 1, none⟩ = some (.int .i64 s.2) := fun q => (q.below.cell (later_box p)).trans (C1 p)
      have D02 : ∀ q : Later p.val, q.val.cell? ⟨b, off + placeN xs (s.1 + s.2) * 2, none⟩ = some (.int .i64 y.1) := fun q => (q.below.cell (Nat.lt_of_lt_of_le hbl p.below.size)).trans (D0 p)
      clear hp1 hp2 he1 hne C0 C1 D0 hbl
      generalize placeN xs (s.1 + s.2) = T at *
      generalize placeN xs s.1 = F at *
      go_wp2
      refine wp_region_later (by kernel_rfl) (by kernel_rfl) ?_
      (repeat (first | go_big_quiet_skip | (go_big_quiet_want; go_big_quiet_op; go_big_quiet_on)))
      (go_big_quiet_want; go_big_quiet_op; apply Exists.intro; refine ⟨fun p => ?_, ?_⟩; (· exact later_of (he2 p)); go_big_quiet_on)
      (repeat (first | go_big_quiet_skip | (go_big_quiet_want; go_big_quiet_op; go_big_quiet_on)))
      refine wpQuiet_nil ?_
      rintro _ ⟨p, rfl⟩
      rename_i p0
      have hb := hb1.trans (p.below.mono hb1.size)
      clear he2 hne2 C02 C12 D02
      go_wp2
      go_ret
      exact ⟨F, T + 1, _, _, HN.out, rfl, fun _ hS => hS.sub HN.out.le HN.out.len, hb⟩
    · have HN := hide (near_out hs hm (by omega))
      clear hs h
      generalize nth xs (placeN xs (s.1 + s.2)) = y at *
      go_enter Try.func38, Try.ntmps38
      go_wp2
      refine wp_region_later (by kernel_rfl) (by kernel_rfl) ?_
      (repeat (first | go_big_quiet_skip | (go_big_quiet_want; go_big_quiet_op; go_big_quiet_on)))
      (go_big_quiet_want; go_big_quiet_op; apply Exists.intro; refine ⟨fun p => ?_, ?_⟩; (· exact later_of (hp1 p)); go_big_quiet_on)
      (repeat (first | go_big_quiet_skip | (go_big_quiet_want; go_big_quiet_op; go_big_quiet_on)))
      (go_big_quiet_want; go_big_quiet_op; apply Exists.intro; refine ⟨fun p => ?_, ?_⟩; (· exact later_of (he1 p)); go_big_quiet_on)
      (repeat (first | go_big_quiet_skip | (go_big_quiet_want; go_big_quiet_op; go_big_quiet_on)))
      (go_big_quiet_want; go_big_quiet_op; apply Exists.intro; refine ⟨fun p => ?_, ?_⟩; (· exact later_of (hp2 p)); go_big_quiet_on)
      (repeat (first | go_big_quiet_skip | (go_big_quiet_want; go_big_quiet_op; go_big_quiet_on)))
      refine wpQuiet_nil ?_
      rintro _ ⟨p, rfl⟩
      have hb1 := hb0.trans (p.below.mono hb0.size)
      have he2 : ∀ q : Later p.val, _ := fun q => end_b s q.val hm
      have hne2 := later_ne p.val
      have C02 : ∀ q : Later p.val, q.val.cell? ⟨w.heap.size, 0, none⟩ = some (.int .i64 s.1) := fun q => (q.below.cell (later_box p)).trans (C0 p)
      have C12 : ∀ q : Later p.val, q.val.cell? ⟨w.heap.size, 1, none⟩ = some (.int .i64 s.2) := fun q => (q.below.cell (later_box p)).trans (C1 p)
      have D02 : ∀ q : Later p.val, q.val.cell? ⟨b, off + placeN xs (s.1 + s.2) * 2, none⟩ = some (.int .i64 y.1) := fun q => (q.below.cell (Nat.lt_of_lt_of_le hbl p.below.size)).trans (D0 p)
      clear hp1 hp2 he1 hne C0 C1 D0 hbl
      generalize placeN xs (s.1 + s.2) = T at *
      generalize placeN xs s.1 = F at *
      go_wp2
      refine wp_region_later (by kernel_rfl) (by kernel_rfl) ?_
      (repeat (first | go_big_quiet_skip | (go_big_quiet_want; go_big_quiet_op; go_big_quiet_on)))
      (go_big_quiet_want; go_big_quiet_op; apply Exists.intro; refine ⟨fun p => ?_, ?_⟩; (· exact later_of (he2 p)); go_big_quiet_on)
      (repeat (first | go_big_quiet_skip | (go_big_quiet_want; go_big_quiet_op; go_big_quiet_on)))
      refine wpQuiet_nil ?_
      rintro _ ⟨p, rfl⟩
      rename_i p0
      have hb := hb1.trans (p.below.mono hb1.size)
      clear he2 hne2 C02 C12 D02
      go_wp2
      go_ret
      exact ⟨F, T, _, _, HN.out, rfl, fun _ hS => hS.sub HN.out.le HN.out.len, hb⟩
  · have HN := hide (near_out hs hm (by have := HL.out; omega))
    have hld : decide (placeN xs (s.1 + s.2) < n) = false := by simp; omega
    clear hs h
    go_enter Try.func38, Try.ntmps38
    go_wp2
    refine wp_region_later (by kernel_rfl) (by kernel_rfl) ?_
    (repeat (first | go_big_quiet_skip | (go_big_quiet_want; go_big_quiet_op; go_big_quiet_on)))
    (go_big_quiet_want; go_big_quiet_op; apply Exists.intro; refine ⟨fun p => ?_, ?_⟩; (· exact later_of (hp1 p)); go_big_quiet_on)
    (repeat (first | go_big_quiet_skip | (go_big_quiet_want; go_big_quiet_op; go_big_quiet_on)))
    (go_big_quiet_want; go_big_quiet_op; apply Exists.intro; refine ⟨fun p => ?_, ?_⟩; (· exact later_of (he1 p)); go_big_quiet_on)
    (repeat (first | go_big_quiet_skip | (go_big_quiet_want; go_big_quiet_op; go_big_quiet_on)))
    (go_big_quiet_want; go_big_quiet_op; apply Exists.intro; refine ⟨fun p => ?_, ?_⟩; (· exact later_of (hp2 p)); go_big_quiet_on)
    (repeat (first | go_big_quiet_skip | (go_big_quiet_want; go_big_quiet_op; go_big_quiet_on)))
    refine wpQuiet_nil ?_
    rintro _ ⟨p, rfl⟩
    have hb1 := hb0.trans (p.below.mono hb0.size)
    have hne2 := later_ne p.val
    clear hp1 hp2 he1 hne C0 C1
    generalize placeN xs (s.1 + s.2) = T at *
    generalize placeN xs s.1 = F at *
    go_wp2
    refine wp_region_later (by kernel_rfl) (by kernel_rfl) ?_
    (repeat (first | go_big_quiet_skip | (go_big_quiet_want; go_big_quiet_op; go_big_quiet_on)))
    refine wpQuiet_nil ?_
    rintro _ ⟨p, rfl⟩
    rename_i p0
    have hb := hb1.trans (p.below.mono hb1.size)
    clear hne2
    have HG := hide (fun W (hS : Sl W a n xs) => hS.sub' hcap HN.out.le HN.out.len)
    by_cases hcf : cap = F
    · have HC := hide hcf
      have hz : cap - F = 0 := by omega
      subst hcf
      go_wp2
      go_ret
      exact ⟨cap, T, _, _, HN.out, rfl, fun W hS => by have := HG.out W hS; simpa using this, hb⟩
    · have HC := hide hcf
      go_wp2
      go_ret
      exact ⟨F, T, _, _, HN.out, rfl, fun W hS => by have := HG.out W hS; rwa [if_neg HC.out] at this, hb⟩

end Sp
end Go.Proofs.Ythbgniclplfpgaa
