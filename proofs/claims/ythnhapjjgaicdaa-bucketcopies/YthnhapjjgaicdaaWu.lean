/- The chapter's example: the laws' function awake. -/
import Derived.Test.YthnhapjjgaicdaaWt
namespace Go.Proofs.Ythnhapjjgaicdaa
open Go.RowKit
namespace Wi

theorem Mine.go1 {W w : World} {A : Th} (h : Mine W w A) : ∃ X, A w X ∧ (∀ k, X k → W.heap.size ≤ k) ∧ ∀ {w' : World} {A' : Th}, LeftT A' w X w' → Mine W w' A' := by
  obtain ⟨X, h1, h2, h3⟩ := h
  refine ⟨X, h1, h2, fun {w' A'} ⟨X', l1, l2, l3⟩ => ⟨X', l1, fun k hk => ?_, h3.trans (l2.below h3.size fun k hk hx => ?_)⟩⟩
  · rcases l3 k hk with h | h
    · exact h2 k h
    · exact Nat.le_trans h3.size h
  · exact Nat.lt_irrefl _ (Nat.lt_of_lt_of_le hk (h2 k hx))
theorem Is.new (w : World) (X : Nat → Prop) (l : List Int) (hl : ∀ x ∈ l, Num x) (hn : l.length ≤ 1000) (hX : ∀ k, X k → k < w.heap.size) (cs : Array Value) (hc : cs = (l.map fun x => Value.int .i64 x).toArray) : Is (w.alloc (.cells cs 3)) X (some ⟨w.heap.size, 0, none⟩) l.length l := by
  subst hc
  refine ⟨rfl, by omega, hl, fun i x hi => ⟨w.heap.size, 0, rfl, by simp, fun e => Nat.lt_irrefl _ (hX _ e), ?_⟩⟩
  rw [cell_of_row _ _ _ _ _ _ (heap_alloc_new w _)]
  simp [hi]
def sa : ByteArray := { data := #[97] }
def sxy : ByteArray := { data := #[120, 121] }
def sz : ByteArray := { data := #[122] }
def sk : ByteArray := { data := #[107] }
theorem name_a : nameB sa = true := by kernel_rfl
theorem name_k : nameB sk = true := by kernel_rfl
theorem place_nil (s : ByteArray) : place [] s = 0 := rfl
theorem found_nil (s : ByteArray) : foundB [] s = false := rfl
theorem put_nil (s x : ByteArray) : put [] s x = [(s, x)] := rfl
theorem got_nil (s : ByteArray) : got [] s = none := rfl
theorem place_one (s x : ByteArray) : place [(s, x)] s = 0 := by
  simp [place, cmpB_self]
theorem found_one (s x : ByteArray) : foundB [(s, x)] s = true := by
  unfold foundB
  rw [place_one]
  simp
theorem got_one (s x : ByteArray) : got [(s, x)] s = some x := by simp [got]
theorem total_nil : total [] = 0 := rfl
theorem total_one (s x : ByteArray) : total [(s, x)] = x.size := by simp [total]
theorem cut_all (x : ByteArray) (n : Nat) (h : x.size ≤ n) : cutOf x 0 (n : Int) = x := by
  unfold cutOf
  simp only [Int.toNat_zero]
  rw [show x.extract 0 x.size = x by simp, show (min (n : Int) (x.size : Int)).toNat = x.size by omega]
  simp
/-- A bucket of one object, or of none, without fates and late calls. -/
theorem one_get {q : Nat} {l : List Ch} {s x : ByteArray} (hn : nameB s = true) {n : Nat} (hx : x.size ≤ n) : (Bk.mk [(s, x)] q [] l).getE s 0 n = 0 ∧ (Bk.mk [(s, x)] q [] l).getS s 0 n = x ∧ Bk.askOk s 0 n = true := by
  have h0 : Bk.askOk s 0 n = true := by simp [Bk.askOk, hn]
  have h1 : (Bk.mk [(s, x)] q [] l).fetchE s = 0 := by simp [Bk.fetchE, Bk.fate0, found_one]
  have h2 : (Bk.mk [(s, x)] q [] l).fetchS s = x := by simp [Bk.fetchS, Bk.fate0, got_one]
  have h3 : (Bk.mk [(s, x)] q [] l).getE s 0 n = 0 := by
    rw [Bk.getE, h0, h1, h2]
    simp
  refine ⟨h3, ?_, h0⟩
  rw [Bk.getS, h3, h2]
  simp only [if_true]
  exact cut_all x n hx
theorem none_get {q : Nat} {l : List Ch} {s : ByteArray} (hn : nameB s = true) (n : Nat) : (Bk.mk [] q [] l).getE s 0 n = 15 ∧ (Bk.mk [] q [] l).getS s 0 n = { data := #[] } ∧ Bk.askOk s 0 n = true := by
  have h0 : Bk.askOk s 0 n = true := by simp [Bk.askOk, hn]
  have h1 : (Bk.mk [] q [] l).fetchE s = 15 := by simp [Bk.fetchE, Bk.fate0, found_nil]
  have h3 : (Bk.mk [] q [] l).getE s 0 n = 15 := by
    rw [Bk.getE, h0, h1]
    simp
  exact ⟨h3, by rw [Bk.getS, h3]; simp, h0⟩
theorem late_put {o : List Ob} {q : Nat} {f : List Nat} {l : List Ch} {s x : ByteArray} (hn : nameB s = true) (hx : x.size ≤ 65536) : (Bk.mk o q (3 :: f) l).put s x = ⟨o, q, f, l ++ [(true, s, x)]⟩ ∧ (Bk.mk o q (3 :: f) l).putE s x = 34 := by
  constructor
  · simp [Bk.put, hn, hx, Bk.call, Bk.fate0, Bk.next]
  · simp [Bk.putE, hn, hx, Bk.callE, Bk.fate0]
theorem awake_land (q : Nat) (s x : ByteArray) (hx : x.size ≤ q) : (Bk.mk [] q [] [(true, s, x)]).land 1 = ⟨[(s, x)], q, [], []⟩ := by
  have h1 : ¬ q < x.size := by omega
  have hu : upTo 1 1 = 1 := by decide
  simp [Bk.land, hu, Bk.acts, Bk.act, Bk.add, found_nil, total_nil, h1, put_nil, Bk.drop]
theorem there_put {q : Nat} {l : List Ch} {s x y : ByteArray} (hn : nameB s = true) (hy : y.size ≤ 65536) : (Bk.mk [(s, x)] q [] l).putE s y = 16 := by
  simp [Bk.putE, hn, hy, Bk.callE, Bk.fate0, Bk.actE, Bk.addE, Bk.next, found_one]
set_option maxHeartbeats 4000000 in
theorem awake_any (W : World) : Calls Try.prog 12 #[] W fun e w' => e = .returned (.bool true) ∧ Below W.heap.size W w' := by
  have hnw := new_any 100 (by omega) W
  have hz : sxy.size = 2 := rfl
  obtain ⟨p1, p2⟩ := late_put (o := []) (q := 100) (f := []) (l := []) (s := sa) (x := sxy) name_a (by omega)
  obtain ⟨g1, g2, g3⟩ := none_get (q := 100) (l := [(true, sa, sxy)]) name_a 9
  have hld := awake_land 100 sa sxy (by omega)
  obtain ⟨g4, g5, g6⟩ := one_get (q := 100) (l := []) (x := sxy) name_a (n := 9) (by omega)
  have p3 := there_put (q := 100) (l := []) (x := sxy) (y := sz) name_a (by show 1 ≤ _; omega)
  have hu : upTo 1 1 = 1 := by decide
  rw [List.nil_append] at p1
  have P1 := hide p1
  have P2 := hide p2
  have P3 := hide p3
  have G1 := hide g1
  have G2 := hide g2
  have G3 := hide g3
  have G4 := hide g4
  have G5 := hide g5
  have LD := hide hld
  have HU := hide hu
  clear p1 p2 p3 g1 g2 g3 g4 g5 g6 hld hu hz
  have v1 : sxy.toList = [120, 121] := by kernel_rfl
  go_enter Try.func12, Try.ntmps12
  go_wp2_with fail
  refine hnw.mono ?_
  rintro e w1 ⟨rfl, hN, hb1⟩
  have hM : Mine W w1 (bkT W.heap.size (bk0 100)) := let ⟨X, h1, h2⟩ := hN; ⟨X, h1, h2, hb1⟩
  clear hN hb1 hnw
  obtain ⟨X, hT, hX, hgo⟩ := hM.go1
  have hb8 := below_alloc w1 (.cells #[.int .i64 3] 3)
  have hc := fates_any ((bkT_good _ _).later hT hb8) (cap := 1) (Is.new w1 X [3] (by simp [Num]) (by simp) ((bkT_good _ _).lt hT) #[.int .i64 3] rfl) (by show 0 + 1 ≤ _; omega)
  rw [show (bk0 100).tell [3] = ⟨[], 100, [3], []⟩ from rfl] at hc
  simp only [List.length_cons, List.length_nil] at hc
  go_wp2_with fail
  refine hc.mono ?_
  rintro e w2 ⟨rfl, hl⟩
  replace hM := hgo (hl.first hb8)
  clear hl hgo hT hX X hc hb8
  obtain ⟨X, hT, hX, hgo⟩ := hM.go1
  have hc := put_any hT (by show 0 ≤ _; omega) (by show 1 ≤ _; omega) (by show 0 ≤ _; omega) sa sxy (by show 1 ≤ _; omega) (by show 2 ≤ _; omega)
  rw [P1.out, P2.out] at hc
  go_wp2_with fail
  refine hc.mono ?_
  rintro e w3 ⟨rfl, hl⟩
  replace hM := hgo hl
  clear hl hgo hT hX X hc
  obtain ⟨X, hT, hX, hgo⟩ := hM.go1
  have hc := get_any hT (by show 0 ≤ _; omega) (by show 0 ≤ _; omega) sa (by show 1 ≤ _; omega) 0 9 (by constructor <;> omega) (by constructor <;> omega)
  rw [show ((9 : Int)) = ((9 : Nat) : Int) from rfl, G1.out, G2.out, G3.out] at hc
  rw [show Bk.ask ⟨[], 100, [], [(true, sa, sxy)]⟩ true = ⟨[], 100, [], [(true, sa, sxy)]⟩ from rfl] at hc
  go_wp2_with fail
  refine hc.mono ?_
  rintro e w4 ⟨rfl, hl⟩
  replace hM := hgo hl
  clear hl hgo hT hX X hc
  obtain ⟨X, hT, hX, hgo⟩ := hM.go1
  have hc := land_any hT (by show 0 + 1 ≤ _; omega) 1 (by constructor <;> omega)
  rw [show (Bk.mk [] 100 [] [(true, sa, sxy)]).late.length = 1 from rfl, HU.out, LD.out] at hc
  go_wp2_with fail
  refine hc.mono ?_
  rintro e w5 ⟨rfl, hl⟩
  replace hM := hgo hl
  clear hl hgo hT hX X hc
  obtain ⟨X, hT, hX, hgo⟩ := hM.go1
  have hc := get_any hT (by show 1 ≤ _; omega) (by show 0 ≤ _; omega) sa (by show 1 ≤ _; omega) 0 9 (by constructor <;> omega) (by constructor <;> omega)
  rw [show ((9 : Int)) = ((9 : Nat) : Int) from rfl, G4.out, G5.out, G3.out] at hc
  rw [show Bk.ask ⟨[(sa, sxy)], 100, [], []⟩ true = ⟨[(sa, sxy)], 100, [], []⟩ from rfl] at hc
  go_wp2_with fail
  refine hc.mono ?_
  rintro e w6 ⟨rfl, hl⟩
  replace hM := hgo hl
  clear hl hgo hT hX X hc
  obtain ⟨X, hT, hX, hgo⟩ := hM.go1
  have hc := put_any hT (by show 1 ≤ _; omega) (by show 0 ≤ _; omega) (by show 0 ≤ _; omega) sa sz (by show 1 ≤ _; omega) (by show 1 ≤ _; omega)
  rw [P3.out] at hc
  go_wp2_with fail
  refine hc.mono ?_
  rintro e w7 ⟨rfl, hl⟩
  replace hM := hgo hl
  clear hl hgo hT hX X hc
  have hbb := hide hM.below
  clear hM
  go_wp2
  go_ret
  exact ⟨rfl, hbb.out⟩

end Wi
end Go.Proofs.Ythnhapjjgaicdaa
