/-
  No cell of these rows narrows 'for every input' (looked for: loops, veiled, ifaces, maps, wideKeys, modest, calm, conditions, laid).
  DERIVED. THE GIVEN ROWS OF THIS SEAT. 8 by the template 'for every input the law returns true; each argument reads behind the call as it read before'; 0 by the template 'total and deterministic' (their statements: YthnhapjjgaicdaaTotals.lean).
  GIVEN WITH THE SEED: the statements are not yours to turn. If you find one false, say at which input.
  Laid BY PROGRAM, IN A SANDBOX (cutbox-rows.mjs): the forced cells as the released guide's own fill.sh prints them over the translation b73595a78a3c0aab… (all of the seat's roots in one cut). By AI agents, Wed Nov 11 2026. No macro, syntax, notation, axiom, sorry.
-/
import Derived.Test.YthnhapjjgaicdaaChecked
import GoSem.Claim
import GoSem.ClaimJoined
import GoSem.ClaimMapViews
import Derived.JoinedTies
import Derived.KernelRfl
namespace Go.Proofs.Ythnhapjjgaicdaa
/- THE CELL 'sum', in the pinned program and in every row, IS THE sha256 OF THE DUMP (.gsa) THAT YthnhapjjgaicdaaProg.lean LOADS. Nothing in Lean hashes anything: it is a label: what it is worth is what the hold of that sum in a sandbox is worth. -/
noncomputable def Try.pinned : Pinned := { name := "ythnhapjjgaicdaa", sum := "b73595a78a3c0aabbc15bfcedcd3debcc467a92aa1a1bc6cd47ec8fd7e3175e9", checked := Try.checked }
namespace Rows
def none {H : Type} : Left H := { results := [], args := [] }

/-- 'lighterlaw05.BucketPlays': WHATEVER THE INPUT: true; the input reads as it did. -/
def bucketPlaysSpec : ChangeSpec := { name := "bucketPlays", fn := fun _ => fun
  | [d1, d2] => { results := [.lit (.bool true)], args := [d1, d2] }
  | _ => none }
def bucketPlaysRow : OpenClaim := { program := "ythnhapjjgaicdaa", sum := "b73595a78a3c0aabbc15bfcedcd3debcc467a92aa1a1bc6cd47ec8fd7e3175e9", func := "lighter/lighterlaw05.BucketPlays", spec := "bucketPlays", inPlace := ["internal/bytealg.abigen_runtime_cmpstring", "slices.overlaps[lighter/bucket.object]"], unfollowed := true, recurses := true, apart := false }
def BucketPlaysSaid : Prop := bucketPlaysRow.holds Try.pinned (OpenSpec.ofChange bucketPlaysSpec)

/-- ITS FALSE NEIGHBOUR: 'it returns false'. Refute it at one input. -/
def bucketPlaysWrong : ChangeSpec := { name := "bucketPlays", fn := fun _ => fun
  | [d1, d2] => { results := [.lit (.bool false)], args := [d1, d2] }
  | _ => none }
def BucketPlaysWrongFalsely : Prop := bucketPlaysRow.holds Try.pinned (OpenSpec.ofChange bucketPlaysWrong)

/-- 'lighterlaw05.BucketCopies': WHATEVER THE INPUT: true; the input reads as it did. -/
def bucketCopiesSpec : ChangeSpec := { name := "bucketCopies", fn := fun _ => fun
  | [d1, d2] => { results := [.lit (.bool true)], args := [d1, d2] }
  | _ => none }
def bucketCopiesRow : OpenClaim := { program := "ythnhapjjgaicdaa", sum := "b73595a78a3c0aabbc15bfcedcd3debcc467a92aa1a1bc6cd47ec8fd7e3175e9", func := "lighter/lighterlaw05.BucketCopies", spec := "bucketCopies", inPlace := ["internal/bytealg.abigen_runtime_cmpstring", "slices.overlaps[lighter/bucket.object]"], unfollowed := true, recurses := true, apart := false }
def BucketCopiesSaid : Prop := bucketCopiesRow.holds Try.pinned (OpenSpec.ofChange bucketCopiesSpec)

/-- ITS FALSE NEIGHBOUR: 'it returns false'. Refute it at one input. -/
def bucketCopiesWrong : ChangeSpec := { name := "bucketCopies", fn := fun _ => fun
  | [d1, d2] => { results := [.lit (.bool false)], args := [d1, d2] }
  | _ => none }
def BucketCopiesWrongFalsely : Prop := bucketCopiesRow.holds Try.pinned (OpenSpec.ofChange bucketCopiesWrong)

/-- 'lighterlaw05.BucketOnce': WHATEVER THE INPUT: true; the input reads as it did. -/
def bucketOnceSpec : ChangeSpec := { name := "bucketOnce", fn := fun _ => fun
  | [d1, d2] => { results := [.lit (.bool true)], args := [d1, d2] }
  | _ => none }
def bucketOnceRow : OpenClaim := { program := "ythnhapjjgaicdaa", sum := "b73595a78a3c0aabbc15bfcedcd3debcc467a92aa1a1bc6cd47ec8fd7e3175e9", func := "lighter/lighterlaw05.BucketOnce", spec := "bucketOnce", inPlace := ["internal/bytealg.abigen_runtime_cmpstring", "slices.overlaps[lighter/bucket.object]"], unfollowed := true, recurses := true, apart := false }
def BucketOnceSaid : Prop := bucketOnceRow.holds Try.pinned (OpenSpec.ofChange bucketOnceSpec)

/-- ITS FALSE NEIGHBOUR: 'it returns false'. Refute it at one input. -/
def bucketOnceWrong : ChangeSpec := { name := "bucketOnce", fn := fun _ => fun
  | [d1, d2] => { results := [.lit (.bool false)], args := [d1, d2] }
  | _ => none }
def BucketOnceWrongFalsely : Prop := bucketOnceRow.holds Try.pinned (OpenSpec.ofChange bucketOnceWrong)

/-- 'lighterlaw05.BucketRoom': WHATEVER THE INPUT: true; the input reads as it did. -/
def bucketRoomSpec : ChangeSpec := { name := "bucketRoom", fn := fun _ => fun
  | [d1, d2] => { results := [.lit (.bool true)], args := [d1, d2] }
  | _ => none }
def bucketRoomRow : OpenClaim := { program := "ythnhapjjgaicdaa", sum := "b73595a78a3c0aabbc15bfcedcd3debcc467a92aa1a1bc6cd47ec8fd7e3175e9", func := "lighter/lighterlaw05.BucketRoom", spec := "bucketRoom", inPlace := ["internal/bytealg.abigen_runtime_cmpstring", "slices.overlaps[lighter/bucket.object]"], unfollowed := true, recurses := true, apart := false }
def BucketRoomSaid : Prop := bucketRoomRow.holds Try.pinned (OpenSpec.ofChange bucketRoomSpec)

/-- ITS FALSE NEIGHBOUR: 'it returns false'. Refute it at one input. -/
def bucketRoomWrong : ChangeSpec := { name := "bucketRoom", fn := fun _ => fun
  | [d1, d2] => { results := [.lit (.bool false)], args := [d1, d2] }
  | _ => none }
def BucketRoomWrongFalsely : Prop := bucketRoomRow.holds Try.pinned (OpenSpec.ofChange bucketRoomWrong)

/-- 'lighterlaw05.BucketNil': WHATEVER THE INPUT: true; the input reads as it did. -/
def bucketNilSpec : ChangeSpec := { name := "bucketNil", fn := fun _ => fun
  | [d] => { results := [.lit (.bool true)], args := [d] }
  | _ => none }
def bucketNilRow : OpenClaim := { program := "ythnhapjjgaicdaa", sum := "b73595a78a3c0aabbc15bfcedcd3debcc467a92aa1a1bc6cd47ec8fd7e3175e9", func := "lighter/lighterlaw05.BucketNil", spec := "bucketNil", inPlace := ["internal/bytealg.abigen_runtime_cmpstring", "slices.overlaps[lighter/bucket.object]"], unfollowed := true, recurses := true, apart := false }
def BucketNilSaid : Prop := bucketNilRow.holds Try.pinned (OpenSpec.ofChange bucketNilSpec)

/-- ITS FALSE NEIGHBOUR: 'it returns false'. Refute it at one input. -/
def bucketNilWrong : ChangeSpec := { name := "bucketNil", fn := fun _ => fun
  | [d] => { results := [.lit (.bool false)], args := [d] }
  | _ => none }
def BucketNilWrongFalsely : Prop := bucketNilRow.holds Try.pinned (OpenSpec.ofChange bucketNilWrong)

/-- 'lighterlaw05.BucketLates': WHATEVER THE INPUT: true; the input reads as it did. -/
def bucketLatesSpec : ChangeSpec := { name := "bucketLates", fn := fun _ => fun
  | [d1, d2, d3] => { results := [.lit (.bool true)], args := [d1, d2, d3] }
  | _ => none }
def bucketLatesRow : OpenClaim := { program := "ythnhapjjgaicdaa", sum := "b73595a78a3c0aabbc15bfcedcd3debcc467a92aa1a1bc6cd47ec8fd7e3175e9", func := "lighter/lighterlaw05.BucketLates", spec := "bucketLates", inPlace := ["internal/bytealg.abigen_runtime_cmpstring", "slices.overlaps[lighter/bucket.object]"], unfollowed := true, recurses := true, apart := false }
def BucketLatesSaid : Prop := bucketLatesRow.holds Try.pinned (OpenSpec.ofChange bucketLatesSpec)

/-- ITS FALSE NEIGHBOUR: 'it returns false'. Refute it at one input. -/
def bucketLatesWrong : ChangeSpec := { name := "bucketLates", fn := fun _ => fun
  | [d1, d2, d3] => { results := [.lit (.bool false)], args := [d1, d2, d3] }
  | _ => none }
def BucketLatesWrongFalsely : Prop := bucketLatesRow.holds Try.pinned (OpenSpec.ofChange bucketLatesWrong)

/-- 'lighterlaw05.BucketLists': WHATEVER THE INPUT: true; the input reads as it did. -/
def bucketListsSpec : ChangeSpec := { name := "bucketLists", fn := fun _ => fun
  | [d1, d2] => { results := [.lit (.bool true)], args := [d1, d2] }
  | _ => none }
def bucketListsRow : OpenClaim := { program := "ythnhapjjgaicdaa", sum := "b73595a78a3c0aabbc15bfcedcd3debcc467a92aa1a1bc6cd47ec8fd7e3175e9", func := "lighter/lighterlaw05.BucketLists", spec := "bucketLists", inPlace := ["internal/bytealg.abigen_runtime_cmpstring", "slices.overlaps[lighter/bucket.object]"], unfollowed := true, recurses := true, apart := false }
def BucketListsSaid : Prop := bucketListsRow.holds Try.pinned (OpenSpec.ofChange bucketListsSpec)

/-- ITS FALSE NEIGHBOUR: 'it returns false'. Refute it at one input. -/
def bucketListsWrong : ChangeSpec := { name := "bucketLists", fn := fun _ => fun
  | [d1, d2] => { results := [.lit (.bool false)], args := [d1, d2] }
  | _ => none }
def BucketListsWrongFalsely : Prop := bucketListsRow.holds Try.pinned (OpenSpec.ofChange bucketListsWrong)

/-- 'lighterlaw05.BucketParts': WHATEVER THE INPUT: true; the input reads as it did. -/
def bucketPartsSpec : ChangeSpec := { name := "bucketParts", fn := fun _ => fun
  | [d1, d2] => { results := [.lit (.bool true)], args := [d1, d2] }
  | _ => none }
def bucketPartsRow : OpenClaim := { program := "ythnhapjjgaicdaa", sum := "b73595a78a3c0aabbc15bfcedcd3debcc467a92aa1a1bc6cd47ec8fd7e3175e9", func := "lighter/lighterlaw05.BucketParts", spec := "bucketParts", inPlace := ["internal/bytealg.abigen_runtime_cmpstring", "slices.overlaps[lighter/bucket.object]"], unfollowed := true, recurses := true, apart := false }
def BucketPartsSaid : Prop := bucketPartsRow.holds Try.pinned (OpenSpec.ofChange bucketPartsSpec)

/-- ITS FALSE NEIGHBOUR: 'it returns false'. Refute it at one input. -/
def bucketPartsWrong : ChangeSpec := { name := "bucketParts", fn := fun _ => fun
  | [d1, d2] => { results := [.lit (.bool false)], args := [d1, d2] }
  | _ => none }
def BucketPartsWrongFalsely : Prop := bucketPartsRow.holds Try.pinned (OpenSpec.ofChange bucketPartsWrong)

/- THE SECOND FORM. 'bulk': how many values and letters a reading holds, each counted each time it is reached (what is shared counts as often as it is met; a slice's spare places count too). A statement '..UptoSaid' is the law's where the arguments, and the package variables that the reading takes, are together of bulk at most 1048576: NARROWER than '..Said'. Prove '..Said' where nothing that the law and all that it calls make is longer than what came in: it says more and counts as full. Else prove '..UptoSaid'. A law counts once. -/
mutual
def uptoBulk {H : Type} : DataW H → Nat
  | .lit (.string bytes) => bytes.length + 1
  | .lit _ => 1
  | .nil => 1
  | .ptr d => uptoBulk d + 1
  | .slice elems spare => uptoBulkAll elems + uptoBulkAll spare + 1
  | .agg parts => uptoBulkAll parts + 1
  | .iface _ d => uptoBulk d + 1
  | .map entries => uptoBulkEntries entries + 1
  | .held _ => 1
def uptoBulkAll {H : Type} : List (DataW H) → Nat
  | [] => 0
  | d :: r => uptoBulk d + uptoBulkAll r
def uptoBulkEntries {H : Type} : List (Lit × DataW H) → Nat
  | [] => 0
  | x :: r => uptoBulkEntry x + uptoBulkEntries r
def uptoBulkEntry {H : Type} : Lit × DataW H → Nat
  | (.string bytes, d) => bytes.length + uptoBulk d + 1
  | (_, d) => uptoBulk d + 1
 end
def uptoSmall : (H : Type) → List (DataW H) → Bool := fun _ ds => decide (uptoBulkAll ds ≤ 1048576)
def OpenSpec.upto (s : _root_.Go.ChangeSpec) : _root_.Go.OpenSpec := { _root_.Go.OpenSpec.ofChange s with cond := some uptoSmall }

/-- 'lighterlaw05.BucketPlays', WHERE WHAT IT READS IS OF BULK AT MOST 1048576: true; the input reads as it did. -/
def bucketPlaysUptoRow : OpenClaim := { program := "ythnhapjjgaicdaa", sum := "b73595a78a3c0aabbc15bfcedcd3debcc467a92aa1a1bc6cd47ec8fd7e3175e9", func := "lighter/lighterlaw05.BucketPlays", spec := "bucketPlays", inPlace := ["internal/bytealg.abigen_runtime_cmpstring", "slices.overlaps[lighter/bucket.object]"], unfollowed := true, recurses := true, apart := false, narrowed := true }
def BucketPlaysUptoSaid : Prop := bucketPlaysUptoRow.holds Try.pinned (OpenSpec.upto bucketPlaysSpec)

/-- 'lighterlaw05.BucketCopies', WHERE WHAT IT READS IS OF BULK AT MOST 1048576: true; the input reads as it did. -/
def bucketCopiesUptoRow : OpenClaim := { program := "ythnhapjjgaicdaa", sum := "b73595a78a3c0aabbc15bfcedcd3debcc467a92aa1a1bc6cd47ec8fd7e3175e9", func := "lighter/lighterlaw05.BucketCopies", spec := "bucketCopies", inPlace := ["internal/bytealg.abigen_runtime_cmpstring", "slices.overlaps[lighter/bucket.object]"], unfollowed := true, recurses := true, apart := false, narrowed := true }
def BucketCopiesUptoSaid : Prop := bucketCopiesUptoRow.holds Try.pinned (OpenSpec.upto bucketCopiesSpec)

/-- 'lighterlaw05.BucketOnce', WHERE WHAT IT READS IS OF BULK AT MOST 1048576: true; the input reads as it did. -/
def bucketOnceUptoRow : OpenClaim := { program := "ythnhapjjgaicdaa", sum := "b73595a78a3c0aabbc15bfcedcd3debcc467a92aa1a1bc6cd47ec8fd7e3175e9", func := "lighter/lighterlaw05.BucketOnce", spec := "bucketOnce", inPlace := ["internal/bytealg.abigen_runtime_cmpstring", "slices.overlaps[lighter/bucket.object]"], unfollowed := true, recurses := true, apart := false, narrowed := true }
def BucketOnceUptoSaid : Prop := bucketOnceUptoRow.holds Try.pinned (OpenSpec.upto bucketOnceSpec)

/-- 'lighterlaw05.BucketRoom', WHERE WHAT IT READS IS OF BULK AT MOST 1048576: true; the input reads as it did. -/
def bucketRoomUptoRow : OpenClaim := { program := "ythnhapjjgaicdaa", sum := "b73595a78a3c0aabbc15bfcedcd3debcc467a92aa1a1bc6cd47ec8fd7e3175e9", func := "lighter/lighterlaw05.BucketRoom", spec := "bucketRoom", inPlace := ["internal/bytealg.abigen_runtime_cmpstring", "slices.overlaps[lighter/bucket.object]"], unfollowed := true, recurses := true, apart := false, narrowed := true }
def BucketRoomUptoSaid : Prop := bucketRoomUptoRow.holds Try.pinned (OpenSpec.upto bucketRoomSpec)

/-- 'lighterlaw05.BucketNil', WHERE WHAT IT READS IS OF BULK AT MOST 1048576: true; the input reads as it did. -/
def bucketNilUptoRow : OpenClaim := { program := "ythnhapjjgaicdaa", sum := "b73595a78a3c0aabbc15bfcedcd3debcc467a92aa1a1bc6cd47ec8fd7e3175e9", func := "lighter/lighterlaw05.BucketNil", spec := "bucketNil", inPlace := ["internal/bytealg.abigen_runtime_cmpstring", "slices.overlaps[lighter/bucket.object]"], unfollowed := true, recurses := true, apart := false, narrowed := true }
def BucketNilUptoSaid : Prop := bucketNilUptoRow.holds Try.pinned (OpenSpec.upto bucketNilSpec)

/-- 'lighterlaw05.BucketLates', WHERE WHAT IT READS IS OF BULK AT MOST 1048576: true; the input reads as it did. -/
def bucketLatesUptoRow : OpenClaim := { program := "ythnhapjjgaicdaa", sum := "b73595a78a3c0aabbc15bfcedcd3debcc467a92aa1a1bc6cd47ec8fd7e3175e9", func := "lighter/lighterlaw05.BucketLates", spec := "bucketLates", inPlace := ["internal/bytealg.abigen_runtime_cmpstring", "slices.overlaps[lighter/bucket.object]"], unfollowed := true, recurses := true, apart := false, narrowed := true }
def BucketLatesUptoSaid : Prop := bucketLatesUptoRow.holds Try.pinned (OpenSpec.upto bucketLatesSpec)

/-- 'lighterlaw05.BucketLists', WHERE WHAT IT READS IS OF BULK AT MOST 1048576: true; the input reads as it did. -/
def bucketListsUptoRow : OpenClaim := { program := "ythnhapjjgaicdaa", sum := "b73595a78a3c0aabbc15bfcedcd3debcc467a92aa1a1bc6cd47ec8fd7e3175e9", func := "lighter/lighterlaw05.BucketLists", spec := "bucketLists", inPlace := ["internal/bytealg.abigen_runtime_cmpstring", "slices.overlaps[lighter/bucket.object]"], unfollowed := true, recurses := true, apart := false, narrowed := true }
def BucketListsUptoSaid : Prop := bucketListsUptoRow.holds Try.pinned (OpenSpec.upto bucketListsSpec)

/-- 'lighterlaw05.BucketParts', WHERE WHAT IT READS IS OF BULK AT MOST 1048576: true; the input reads as it did. -/
def bucketPartsUptoRow : OpenClaim := { program := "ythnhapjjgaicdaa", sum := "b73595a78a3c0aabbc15bfcedcd3debcc467a92aa1a1bc6cd47ec8fd7e3175e9", func := "lighter/lighterlaw05.BucketParts", spec := "bucketParts", inPlace := ["internal/bytealg.abigen_runtime_cmpstring", "slices.overlaps[lighter/bucket.object]"], unfollowed := true, recurses := true, apart := false, narrowed := true }
def BucketPartsUptoSaid : Prop := bucketPartsUptoRow.holds Try.pinned (OpenSpec.upto bucketPartsSpec)

end Rows
end Go.Proofs.Ythnhapjjgaicdaa
