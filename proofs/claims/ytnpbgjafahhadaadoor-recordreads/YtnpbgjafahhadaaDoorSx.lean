/- A region that draws its order: some worldless operations first, a quiet head, a forced tail. -/
import Derived.Test.YtnpbgjafahhadaaDoorQw
namespace Go.Proofs.YtnpbgjafahhadaaDoor
open Go.RowKit
namespace Cr

section
variable {P : Program} {ops : Array Oper} {C : World → Prop} {n : Nat} {sk : List Nat}
/-- Each of the first n operations, but those of sk, is waited for by a later one among them, or by number n. -/
def sinkX (ops : Array Oper) (n : Nat) (sk : List Nat) : Bool :=
  (List.range n).all fun i => sk.contains i || (List.range (n + 1)).any fun j => decide (i < j) && Region.waitsFor .any ops j i
/-- Each operation behind number n, but those of sk, waits for one of them ahead of it. -/
def chainX (ops : Array Oper) (n : Nat) (sk : List Nat) : Bool :=
  (List.range ops.size).all fun t => decide (t ≤ n) || sk.contains t || (List.range t).any fun u => decide (n ≤ u) && !sk.contains u && Region.waitsFor .any ops t u
/-- Those of sk are done, and what was done before what is done; none behind number n. -/
structure InvX (ops : Array Oper) (n : Nat) (sk : List Nat) (listed : Array Bool) : Prop where
  size : listed.size = ops.size
  closed : ∀ j oj, ops[j]? = some oj → listed.getD j false = true → ∀ e ∈ oj.after, Region.binds .any e = true → listed.getD e.on false = true
  tail : ∀ t, n ≤ t → t < ops.size → sk.contains t = false → listed.getD t true = false
  skd : ∀ i, sk.contains i = true → listed.getD i true = true
theorem getD_true {listed : Array Bool} {i : Nat} (h : listed.getD i false = true) : listed.getD i true = true := by
  rcases Nat.lt_or_ge i listed.size with h' | h'
  · simp [h'] at h ⊢; exact h
  · simp [Array.getElem?_eq_none h'] at h
theorem getD_setX {listed : Array Bool} {i k : Nat} (h : listed.getD k true = true) : (listed.setIfInBounds i true).getD k true = true := by
  by_cases e : i = k
  · subst e
    by_cases h2 : i < listed.size
    · simp [h2]
    · simp [h2]
  · rw [getD_set_ne true e]; exact h
theorem InvX.set {i : Nat} {listed : Array Bool} (inv : InvX ops n sk listed) (hi : i ∈ Region.ready .any ops listed) (hin : i < n) : InvX ops n sk (listed.setIfInBounds i true) := by
  obtain ⟨_, oi, hoi, hall⟩ := mem_ready.1 hi
  refine ⟨by simp [inv.size], fun j oj hj hl e he hb => ?_, fun t ht ht' hs => by rw [getD_set_ne true (by omega)]; exact inv.tail t ht ht' hs, fun k hk => getD_setX (inv.skd k hk)⟩
  by_cases hij : i = j
  · subst hij
    have : oj = oi := Option.some.inj (hj.symm.trans hoi)
    subst this
    exact getD_set_true (hall e he hb)
  · rw [getD_set_ne false hij] at hl
    exact getD_set_true (inv.closed j oj hj hl e he hb)
theorem waitsX {listed : Array Bool} (hs : sinkX ops n sk = true) (hc : chainX ops n sk = true) (hn : n < ops.size) (hnk : sk.contains n = false) (inv : InvX ops n sk listed) :
    ∀ (d i : Nat), n - i = d → i < n → listed.getD i true = false → ∀ t, n ≤ t → t ∉ Region.ready .any ops listed := by
  intro d
  induction d using Nat.strongRecOn with
  | _ d ih =>
    intro i hd hi hun t ht hr
    obtain ⟨htu, ot, hot, hall⟩ := mem_ready.1 hr
    have htlt : t < ops.size := (Array.getElem?_eq_some_iff.1 hot).1
    by_cases htn : t = n
    · subst htn
      have h1 := List.all_eq_true.1 hs i (List.mem_range.2 hi)
      rw [Bool.or_eq_true] at h1
      rcases h1 with h1 | h1
      · rw [inv.skd i h1] at hun; cases hun
      · obtain ⟨j, hj, hj2⟩ := List.any_eq_true.1 h1
        simp only [Bool.and_eq_true, decide_eq_true_eq] at hj2
        obtain ⟨oj, hoj, e, he, hb, hon⟩ := Region.waitsFor_spec hj2.2
        have hjle : j ≤ t := by have := List.mem_range.1 hj; omega
        by_cases hjt : j = t
        · subst hjt
          have : oj = ot := Option.some.inj (hoj.symm.trans hot)
          subst this
          have h2 := hall e he hb
          rw [hon, getD_both hun] at h2
          cases h2
        · cases hl : listed.getD j false with
          | true =>
            have h2 := inv.closed j oj hoj hl e he hb
            rw [hon, getD_both hun] at h2
            cases h2
          | false =>
            have hjs : j < listed.size := by rw [inv.size]; omega
            exact ih (t - j) (by omega) j rfl (by omega) (getD_in hjs hl) t (Nat.le_refl _) hr
    · have h1 := List.all_eq_true.1 hc t (List.mem_range.2 htlt)
      simp only [Bool.or_eq_true, decide_eq_true_eq] at h1
      rcases h1 with (h1 | h1) | h1
      · omega
      · rw [inv.skd t h1] at htu; cases htu
      · obtain ⟨u, hu, hu2⟩ := List.any_eq_true.1 h1
        simp only [Bool.and_eq_true, decide_eq_true_eq, Bool.not_eq_true'] at hu2
        have := List.mem_range.1 hu
        obtain ⟨o', ho', e, he, hb, hon⟩ := Region.waitsFor_spec hu2.2
        have : o' = ot := Option.some.inj (ho'.symm.trans hot)
        subst this
        have h2 := hall e he hb
        rw [hon, getD_both (inv.tail u hu2.1.1 (by omega) hu2.1.2)] at h2
        cases h2
theorem Heads.firstX {i : Nat} {oi : Oper} {v : Value} {L : Array Bool → Act → Prop} (hi : ops[i]? = some oi) (hsel : Region.noSelect ops = true)
    (hs : sinkX ops n sk = true) (hc : chainX ops n sk = true) (hn : n < ops.size) (hnk : sk.contains n = false) (hin : i < n)
    (hL : ∀ done a, L done a → ∀ j ∈ Region.ready .any ops done, n ≤ j) :
    ∀ f done a, InvX ops n sk done →
      (∀ j oj, ops[j]? = some oj → j ≠ i → done.getD j true = false → (∀ e ∈ oj.after, Region.binds .any e = true → e.on ≠ i) → oi.apart ops oj = true) →
      i ∈ Region.ready .any ops done → YieldsIn P ops C oi v a → Heads P ops C n L f (done.setIfInBounds i true) (a.put oi.dst v) → Heads P ops C n L (f + 1) done a := by
  have sel := Region.noSelect_spec hsel
  have low : ∀ done, InvX ops n sk done → i ∈ Region.ready .any ops done → ∀ j ∈ Region.ready .any ops done, j < n := fun done inv hr j hj =>
    (Nat.lt_or_ge j n).resolve_right fun hge => waitsX hs hc hn hnk inv _ i rfl hin (mem_ready.1 hr).1 j hge hj
  intro f
  induction f with
  | zero =>
    intro done a inv _ hr hy H
    refine ⟨List.ne_nil_of_mem hr, fun j hj => ⟨low done inv hr j hj, ?_⟩⟩
    by_cases hji : j = i
    · subst hji; exact hy.qOp hi H
    · have h1 := hL _ _ H j (ready_mono hj hji)
      have h2 := low done inv hr j hj
      omega
  | succ f ih =>
    intro done a inv hfree hr hy H
    refine ⟨List.ne_nil_of_mem hr, fun j hj => ⟨low done inv hr j hj, ?_⟩⟩
    by_cases hji : j = i
    · subst hji; exact hy.qOp hi H
    · obtain ⟨hjun, oj, hoj, hall⟩ := mem_ready.1 hj
      have hnot : ∀ e ∈ oj.after, Region.binds .any e = true → e.on ≠ i := fun e he hb heq => by
        have h1 := hall e he hb
        rw [heq, getD_both (mem_ready.1 hr).1] at h1
        exact Bool.false_ne_true h1
      refine qOp_mono (fun a' h3 => ih (done.setIfInBounds j true) a' (inv.set hj (low done inv hr j hj)) (fun k ok hk hki hun hno => hfree k ok hk hki ?_ hno) (ready_mono hr (Ne.symm hji)) h3.1 ?_)
        (qOp_put hoj (hfree j oj hoj hji hjun hnot) (fun cs b => sel i oi cs b hi) (fun cs b => sel j oj cs b hoj) hy (H.2 j (ready_mono hj hji)).2)
      · by_cases hjk : j = k
        · subst hjk; exact hjun
        · rw [getD_set_ne true hjk] at hun; exact hun
      · rw [Array.setIfInBounds_comm _ _ hji]
        exact h3.2
/-- The operations of ts come up one by one. -/
def seqX (ops : Array Oper) : List Nat → Array Bool → Bool
  | [], listed => (Region.ready .any ops listed).isEmpty
  | k :: r, listed => decide (Region.ready .any ops listed = [k]) && seqX ops r (listed.setIfInBounds k true)
theorem seqX_ready {ts : List Nat} {listed : Array Bool} (h : seqX ops ts listed = true) (ht : ∀ k ∈ ts, n ≤ k) : ∀ j ∈ Region.ready .any ops listed, n ≤ j := by
  cases ts with
  | nil => intro j hj; simp only [seqX, List.isEmpty_iff] at h; rw [h] at hj; cases hj
  | cons k r =>
    intro j hj
    simp only [seqX, Bool.and_eq_true, decide_eq_true_eq] at h
    rw [h.1] at hj
    rw [List.mem_singleton.1 hj]
    exact ht k (by simp)
theorem wpAny_of_seqX {Q : Exit → Act → World → Prop} : ∀ (ts : List Nat) (l : List Oper) (listed : Array Bool) (a : Act) (w : World), ts.map (ops[·]?) = l.map some →
    seqX ops ts listed = true → wpList P ops Q l a w → wpAny P .any ops Q ts.length listed a w
  | [], [], _, _, _, _, hB, h => ⟨by simpa [seqX] using hB, h⟩
  | [], _ :: _, _, _, _, hl, _, _ => by simp at hl
  | _ :: _, [], _, _, _, hl, _, _ => by simp at hl
  | k :: ts, o :: l, listed, a, w, hl, hB, h => by
    simp only [List.map_cons, List.cons.injEq] at hl
    have h0 : ops[k]? = some o := hl.1
    simp only [seqX, Bool.and_eq_true, decide_eq_true_eq] at hB
    refine ⟨fun h1 => (by rw [hB.1] at h1; cases h1), fun i hi => ?_⟩
    rw [hB.1] at hi
    have hik : i = k := by simpa using hi
    subst hik
    have hw : wpOp P ops Q i (wpList P ops Q l) a w := by unfold wpOp; simp only [h0]; exact h
    exact wpOp_mono (fun a' w' h' => wpAny_of_seqX ts l _ a' w' hl.2 hB.2 h') hw
theorem wpAny_seqF {Q : Exit → Act → World → Prop} (ts : List Nat) {listed : Array Bool} {a : Act} {w : World} (h1 : ts.map (ops[·]?) = (ts.filterMap (ops[·]?)).map some) (hB : seqX ops ts listed = true)
    (h : wpList P ops Q (ts.filterMap (ops[·]?)) a w) : wpAny P .any ops Q ts.length listed a w := wpAny_of_seqX ts _ listed a w h1 hB h
/-- The head's operations, in order: each may come up, and may be taken first; then the tail. -/
def headX (ops : Array Oper) (ts : List Nat) : List Nat → Array Bool → Bool
  | [], listed => seqX ops ts listed
  | k :: r, listed => (Region.ready .any ops listed).contains k && Region.free .any ops listed k && headX ops ts r (listed.setIfInBounds k true)
theorem Heads.lexX {L : Act → Prop} {ts : List Nat} (hsel : Region.noSelect ops = true) (hs : sinkX ops n sk = true) (hc : chainX ops n sk = true) (hn : n < ops.size) (hnk : sk.contains n = false) (ht : ∀ k ∈ ts, n ≤ k) :
    ∀ (is : List Nat) (l : List Oper) (done : Array Bool) (a : Act), is.map (ops[·]?) = l.map some → (∀ k ∈ is, k < n) → InvX ops n sk done →
    headX ops ts is done = true → wpQuiet P ops C L l a → Heads P ops C n (fun done' a' => seqX ops ts done' = true ∧ L a') is.length done a
  | [], [], done, a, _, _, _, hB, h => ⟨by simpa [headX] using hB, h⟩
  | [], _ :: _, _, _, hl, _, _, _, _ => by simp at hl
  | _ :: _, [], _, _, hl, _, _, _, _ => by simp at hl
  | k :: is, o :: l, done, a, hl, hk, inv, hB, h => by
    simp only [List.map_cons, List.cons.injEq] at hl
    have h0 : ops[k]? = some o := hl.1
    simp only [headX, Bool.and_eq_true] at hB
    have hkn : k < n := hk k (by simp)
    have hr : k ∈ Region.ready .any ops done := by simpa using hB.1.1
    have hq : qOp P ops C k (wpQuiet P ops C L l) a := by unfold qOp; simp only [h0]; exact h
    obtain ⟨v, hy, hK⟩ := yieldsIn_of_qOp h0 hq
    exact Heads.firstX h0 hsel hs hc hn hnk hkn (fun _ _ hL => seqX_ready hL.1 ht) is.length done a inv (Region.free_spec h0 hB.1.2) hr hy
      (Heads.lexX hsel hs hc hn hnk ht is l _ _ hl.2 (fun j hj => hk j (by simp [hj])) (inv.set hr hkn) hB.2 hK)
/-- The facts on the region that are reckoned. -/
def allX (ops : Array Oper) (n : Nat) (sk is ts : List Nat) (listed : Array Bool) : Bool :=
  Region.noSelect ops && decide (n < ops.size) && !sk.contains n && sinkX ops n sk && chainX ops n sk && headX ops ts is listed && is.all (fun k => decide (k < n)) && ts.all (fun k => decide (n ≤ k)) &&
  decide (listed.size = ops.size) && (List.range ops.size).all (fun j => !listed.getD j false || (match ops[j]? with | some o => o.after.all (fun e => !Region.binds .any e || listed.getD e.on false) | none => true)) &&
  (List.range ops.size).all (fun t => decide (t < n) || sk.contains t || !listed.getD t true) && sk.all (fun i => listed.getD i true)
/-- A region that draws its order, some operations (sk) done already: the first n are quiet in the class, the others come behind them all, one by one. -/
theorem wpAny_skip {Q : Exit → Act → World → Prop} {a : Act} {w : World} {listed : Array Bool} {fuel : Nat} (n : Nat) (sk is ts : List Nat) (hl tl : List Oper) (hB : allX ops n sk is ts listed = true) (hf : fuel = is.length + ts.length)
    (h1 : is.map (ops[·]?) = hl.map some) (h2 : ts.map (ops[·]?) = tl.map some) (hC : C w)
    (h : wpQuiet P ops C (fun a' => ∀ w', C w' → wpList P ops Q tl a' w') hl a) : wpAny P .any ops Q fuel listed a w := by
  subst hf
  simp only [allX, Bool.and_eq_true, decide_eq_true_eq, Bool.not_eq_true', List.all_eq_true] at hB
  obtain ⟨⟨⟨⟨⟨⟨⟨⟨⟨⟨⟨hsel, hn⟩, hnk⟩, hs⟩, hc⟩, hh⟩, his⟩, hts⟩, hsz⟩, hcl⟩, htl⟩, hsk⟩ := hB
  have inv : InvX ops n sk listed := by
    refine ⟨hsz, fun j oj hj hlj e he hb => ?_, fun t ht ht' hst => ?_, fun i hi => hsk i (by simpa using hi)⟩
    · have hjlt : j < ops.size := (Array.getElem?_eq_some_iff.1 hj).1
      have := hcl j (List.mem_range.2 hjlt)
      rw [hlj, hj] at this
      simp only [Bool.not_true, Bool.false_or] at this
      have h3 := Array.all_eq_true_iff_forall_mem.1 this e he
      rw [hb] at h3
      simpa using h3
    · have := htl t (List.mem_range.2 ht')
      rw [hst] at this
      simp at this
      rcases this with h3 | h3
      · omega
      · rw [Array.getD_eq_getD_getElem?]; exact h3
  have H := Heads.lexX hsel hs hc hn hnk hts is hl listed a h1 his inv hh h
  exact Heads.any (Q := Q) (g := ts.length) (fun done a' hL w' hw' => wpAny_of_seqX ts tl done a' w' h2 hL.1 (hL.2 w' hw')) _ _ _ H w hC
theorem wpAny_skipF {Q : Exit → Act → World → Prop} {a : Act} {w : World} {listed : Array Bool} {fuel : Nat} (n : Nat) (sk is ts : List Nat) (hB : allX ops n sk is ts listed = true) (hf : fuel = is.length + ts.length)
    (h1 : is.map (ops[·]?) = (is.filterMap (ops[·]?)).map some) (h2 : ts.map (ops[·]?) = (ts.filterMap (ops[·]?)).map some) (hC : C w)
    (h : wpQuiet P ops C (fun a' => ∀ w', C w' → wpList P ops Q (ts.filterMap (ops[·]?)) a' w') (is.filterMap (ops[·]?)) a) : wpAny P .any ops Q fuel listed a w :=
  wpAny_skip n sk is ts _ _ hB hf h1 h2 hC h
/-- An operation that yields its value in whatever world is taken first. -/
theorem takeX {Q : Exit → Act → World → Prop} {i : Nat} {oi : Oper} {fuel : Nat} {listed : Array Bool} {a : Act} {w : World} (dst : Option Nat) (v : Value) (hi : ops[i]? = some oi)
    (hs : Region.noSelect ops = true) (hf : Region.free .any ops listed i = true) (hr : (Region.ready .any ops listed).contains i = true) (hd : oi.dst = dst) (hg : oi.guard = none)
    (hy : ∀ w, (execOp a.eval oi).run P w = .ok (.value v) w)
    (hQ : ∀ c a w, Q (.panic c) (a.put dst v) w → Q (.panic c) a w)
    (h : wpAny P .any ops Q fuel (listed.setIfInBounds i true) (a.put dst v) w) : wpAny P .any ops Q (fuel + 1) listed a w := by
  subst hd
  exact wpAny_take hi hs hf hr hQ (.inl ⟨by simp [Region.wanted, hg], hy⟩) h
theorem opX {Q : Exit → Act → World → Prop} {i : Nat} {oi : Oper} {a : Act} {w w' : World} {K : Act → World → Prop} (dst : Option Nat) (v : Value) (hi : ops[i]? = some oi) (hd : oi.dst = dst) (hg : oi.guard = none)
    (hy : (execOp a.eval oi).run P w = .ok (.value v) w') (h : K (a.put dst v) w') : wpOp P ops Q i K a w := by
  subst hd
  refine wpOp_step hi fun K' hK => ?_
  rw [if_pos (by simp [Region.wanted, hg])]
  unfold Oper.wp
  rw [hy]
  exact hK _ _ h
theorem oneX {Q : Exit → Act → World → Prop} {i : Nat} {oi : Oper} {fuel : Nat} {listed : Array Bool} {a : Act} {w w' : World} (dst : Option Nat) (v : Value) (hr : Region.ready .any ops listed = [i]) (hi : ops[i]? = some oi) (hd : oi.dst = dst) (hg : oi.guard = none)
    (hy : (execOp a.eval oi).run P w = .ok (.value v) w') (h : wpAny P .any ops Q fuel (listed.setIfInBounds i true) (a.put dst v) w') : wpAny P .any ops Q (fuel + 1) listed a w :=
  wpAny_all hr (by simp) fun j hj => by
    rw [List.mem_singleton.1 hj]
    exact opX dst v hi hd hg hy h
theorem twoX {Q : Exit → Act → World → Prop} {i j : Nat} {fuel : Nat} {listed : Array Bool} {a : Act} {w : World} (hr : Region.ready .any ops listed = [i, j])
    (h1 : wpOp P ops Q i (wpAny P .any ops Q fuel (listed.setIfInBounds i true)) a w) (h2 : wpOp P ops Q j (wpAny P .any ops Q fuel (listed.setIfInBounds j true)) a w) : wpAny P .any ops Q (fuel + 1) listed a w :=
  wpAny_all hr (by simp) fun k hk => by
    rcases List.mem_cons.1 hk with rfl | hk
    · exact h1
    · rw [List.mem_singleton.1 hk]; exact h2
/-- The head's operations, in order: each may come up, and may be taken first. -/
def headY (ops : Array Oper) : List Nat → Array Bool → Bool
  | [], _ => true
  | k :: r, listed => (Region.ready .any ops listed).contains k && Region.free .any ops listed k && headY ops r (listed.setIfInBounds k true)
/-- What is done when these are. -/
def doneX (is : List Nat) (listed : Array Bool) : Array Bool := is.foldl (fun d k => d.setIfInBounds k true) listed
theorem Heads.lexY {L : Act → Prop} {D : Array Bool} (hsel : Region.noSelect ops = true) (hs : sinkX ops n sk = true) (hc : chainX ops n sk = true) (hn : n < ops.size) (hnk : sk.contains n = false) (hD : ∀ j ∈ Region.ready .any ops D, n ≤ j) :
    ∀ (is : List Nat) (l : List Oper) (done : Array Bool) (a : Act), doneX is done = D → is.map (ops[·]?) = l.map some → (∀ k ∈ is, k < n) → InvX ops n sk done →
    headY ops is done = true → wpQuiet P ops C L l a → Heads P ops C n (fun done' a' => done' = D ∧ L a') is.length done a
  | [], [], done, a, hd, _, _, _, _, h => ⟨hd, h⟩
  | [], _ :: _, _, _, _, hl, _, _, _, _ => by simp at hl
  | _ :: _, [], _, _, _, hl, _, _, _, _ => by simp at hl
  | k :: is, o :: l, done, a, hd, hl, hk, inv, hB, h => by
    simp only [List.map_cons, List.cons.injEq] at hl
    have h0 : ops[k]? = some o := hl.1
    simp only [headY, Bool.and_eq_true] at hB
    have hkn : k < n := hk k (by simp)
    have hr : k ∈ Region.ready .any ops done := by simpa using hB.1.1
    have hq : qOp P ops C k (wpQuiet P ops C L l) a := by unfold qOp; simp only [h0]; exact h
    obtain ⟨v, hy, hK⟩ := yieldsIn_of_qOp h0 hq
    exact Heads.firstX h0 hsel hs hc hn hnk hkn (fun _ _ hL => by rw [hL.1]; exact hD) is.length done a inv (Region.free_spec h0 hB.1.2) hr hy
      (Heads.lexY hsel hs hc hn hnk hD is l _ _ hd hl.2 (fun j hj => hk j (by simp [hj])) (inv.set hr hkn) hB.2 hK)
def allY (ops : Array Oper) (n : Nat) (sk is : List Nat) (listed : Array Bool) : Bool :=
  Region.noSelect ops && decide (n < ops.size) && !sk.contains n && sinkX ops n sk && chainX ops n sk && headY ops is listed && is.all (fun k => decide (k < n)) && (Region.ready .any ops (doneX is listed)).all (fun k => decide (n ≤ k)) &&
  decide (listed.size = ops.size) && (List.range ops.size).all (fun j => !listed.getD j false || (match ops[j]? with | some o => o.after.all (fun e => !Region.binds .any e || listed.getD e.on false) | none => true)) &&
  (List.range ops.size).all (fun t => decide (t < n) || sk.contains t || !listed.getD t true) && sk.all (fun i => listed.getD i true)
/-- A region that draws its order, some operations (sk) done already: the first n are quiet in the class, the others come behind them all. -/
theorem wpAny_skipA {Q : Exit → Act → World → Prop} {a : Act} {w : World} {listed : Array Bool} {fuel : Nat} (n g : Nat) (sk is : List Nat) (hB : allY ops n sk is listed = true) (hf : fuel = is.length + g)
    (h1 : is.map (ops[·]?) = (is.filterMap (ops[·]?)).map some) (hC : C w)
    (h : wpQuiet P ops C (fun a' => ∀ w', C w' → wpAny P .any ops Q g (doneX is listed) a' w') (is.filterMap (ops[·]?)) a) : wpAny P .any ops Q fuel listed a w := by
  subst hf
  simp only [allY, Bool.and_eq_true, decide_eq_true_eq, Bool.not_eq_true', List.all_eq_true] at hB
  obtain ⟨⟨⟨⟨⟨⟨⟨⟨⟨⟨⟨hsel, hn⟩, hnk⟩, hs⟩, hc⟩, hh⟩, his⟩, hts⟩, hsz⟩, hcl⟩, htl⟩, hsk⟩ := hB
  have inv : InvX ops n sk listed := by
    refine ⟨hsz, fun j oj hj hlj e he hb => ?_, fun t ht ht' hst => ?_, fun i hi => hsk i (by simpa using hi)⟩
    · have hjlt : j < ops.size := (Array.getElem?_eq_some_iff.1 hj).1
      have := hcl j (List.mem_range.2 hjlt)
      rw [hlj, hj] at this
      simp only [Bool.not_true, Bool.false_or] at this
      have h3 := Array.all_eq_true_iff_forall_mem.1 this e he
      rw [hb] at h3
      simpa using h3
    · have := htl t (List.mem_range.2 ht')
      rw [hst] at this
      simp at this
      rcases this with h3 | h3
      · omega
      · rw [Array.getD_eq_getD_getElem?]; exact h3
  have H := Heads.lexY hsel hs hc hn hnk hts is _ listed a rfl h1 his inv hh h
  exact Heads.any (Q := Q) (g := g) (fun done a' hL w' hw' => by rw [hL.1]; exact hL.2 w' hw') _ _ _ H w hC
/-- The one operation that may come up is a call. -/
theorem oneC {Q : Exit → Act → World → Prop} {i : Nat} {oi : Oper} {fuel : Nat} {listed : Array Bool} {a : Act} {w : World} (dst : Option Nat) (f : FuncId) (args : Array Value) (hr : Region.ready .any ops listed = [i]) (hi : ops[i]? = some oi) (hd : oi.dst = dst) (hg : oi.guard = none)
    (hy : (execOp a.eval oi).run P w = .ok (.enter f args) w) (h : Calls P f args w fun e w' => ∃ v, e = .returned v ∧ wpAny P .any ops Q fuel (listed.setIfInBounds i true) (a.put dst v) w') : wpAny P .any ops Q (fuel + 1) listed a w :=
  wpAny_all hr (by simp) fun j hj => by
    rw [List.mem_singleton.1 hj]
    subst hd
    refine wpOp_step hi fun K' hK => ?_
    rw [if_pos (by simp [Region.wanted, hg])]
    unfold Oper.wp
    rw [hy]
    refine h.mono ?_
    rintro e w' ⟨v, rfl, hv⟩
    exact hK _ _ hv
theorem join {G R : Prop} (f : G → R) (g : G) : R := f g
end


end Cr
end Go.Proofs.YtnpbgjafahhadaaDoor
