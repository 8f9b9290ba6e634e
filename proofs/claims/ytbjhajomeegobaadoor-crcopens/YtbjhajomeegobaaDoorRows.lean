/-
  NARROWER THAN 'FOR EVERY INPUT', by the rows' own cells (each row's printed sentence says how): CrcSums: laid · CrcZeros: laid · CrcOpens: laid · CrcParts: laid · CrcTold: laid · CrcKeys: laid · CrcXors: laid · CrcSealed: laid.
  DERIVED. THE GIVEN ROWS OF THIS SEAT. 8 by the template 'for every input the law returns true; each argument reads behind the call as it read before'; 0 by the template 'total and deterministic' (their statements: YtbjhajomeegobaaDoorTotals.lean).
  GIVEN WITH THE SEED: the statements are not yours to turn. If you find one false, say at which input.
  Laid BY PROGRAM, IN A SANDBOX (cutbox-rows.mjs): the forced cells as the released guide's own fill.sh prints them over the translation 550440f84c744902… (all of the seat's roots in one cut). By AI agents, Wed Nov 11 2026. No macro, syntax, notation, axiom, sorry.
-/
import Derived.Test.YtbjhajomeegobaaDoorChecked
import GoSem.Claim
import GoSem.ClaimJoined
import GoSem.ClaimMapViews
import Derived.JoinedTies
import Derived.KernelRfl
namespace Go.Proofs.YtbjhajomeegobaaDoor
/- THE CELL 'sum', in the pinned program and in every row, IS THE sha256 OF THE DUMP (.gsa) THAT YtbjhajomeegobaaDoorProg.lean LOADS. Nothing in Lean hashes anything: it is a label: what it is worth is what the hold of that sum in a sandbox is worth. -/
noncomputable def Tryd.pinned : Pinned := { name := "ytbjhajomeegobaadoor", sum := "550440f84c7449025764a3c222828efbfc8a67b4e473c67250958cd46520f8ad", checked := Tryd.checked }
namespace Rows
def none {H : Type} : Left H := { results := [], args := [] }

/- WHAT THE LISTED PACKAGE-LEVEL VARIABLES READ AS WHEN THE CALL BEGINS. Each datum BY PROGRAM (the guide's laid-datum.mjs) off the statement by which the dump's own 'gosem.cut.vars' lays the variable. In a bare row this is a premise. The card (YtbjhajomeegobaaDoorCards.lean) ties it to the program's text. -/
def laid_lighter_crc_fourBits {H : Type} : DataW H := .agg [.lit (.int .u32 0), .lit (.int .u32 274646895), .lit (.int .u32 549293790), .lit (.int .u32 820201905), .lit (.int .u32 1098587580), .lit (.int .u32 1361435347), .lit (.int .u32 1640403810), .lit (.int .u32 1905808397), .lit (.int .u32 2197175160), .lit (.int .u32 2460548119), .lit (.int .u32 2722870694), .lit (.int .u32 2987750089), .lit (.int .u32 3280807620), .lit (.int .u32 3553878443), .lit (.int .u32 3811616794), .lit (.int .u32 4084100981)]

/-- 'lighterlaw02.CrcSums': WHATEVER THE INPUT: true; the input reads as it did. -/
def crcSumsSpec : ChangeSpec := { name := "crcSums", fn := fun _ => fun
  | [d1, d2] => { results := [.lit (.bool true)], args := [d1, d2] }
  | _ => none }
def crcSumsRow : OpenClaim := { program := "ytbjhajomeegobaadoor", sum := "550440f84c7449025764a3c222828efbfc8a67b4e473c67250958cd46520f8ad", func := "lighter/lighterlaw02.CrcSums", spec := "crcSums", named := ["lighter/crc.fourBits"], apart := false, laid := [("lighter/crc.fourBits", laid_lighter_crc_fourBits)] }
def CrcSumsSaid : Prop := crcSumsRow.holds Tryd.pinned (OpenSpec.ofChange crcSumsSpec)

/-- ITS FALSE NEIGHBOUR: 'it returns false'. Refute it at one input. -/
def crcSumsWrong : ChangeSpec := { name := "crcSums", fn := fun _ => fun
  | [d1, d2] => { results := [.lit (.bool false)], args := [d1, d2] }
  | _ => none }
def CrcSumsWrongFalsely : Prop := crcSumsRow.holds Tryd.pinned (OpenSpec.ofChange crcSumsWrong)

/-- 'lighterlaw02.CrcZeros': WHATEVER THE INPUT: true; the input reads as it did. -/
def crcZerosSpec : ChangeSpec := { name := "crcZeros", fn := fun _ => fun
  | [d1, d2] => { results := [.lit (.bool true)], args := [d1, d2] }
  | _ => none }
def crcZerosRow : OpenClaim := { program := "ytbjhajomeegobaadoor", sum := "550440f84c7449025764a3c222828efbfc8a67b4e473c67250958cd46520f8ad", func := "lighter/lighterlaw02.CrcZeros", spec := "crcZeros", named := ["lighter/crc.fourBits"], apart := false, laid := [("lighter/crc.fourBits", laid_lighter_crc_fourBits)] }
def CrcZerosSaid : Prop := crcZerosRow.holds Tryd.pinned (OpenSpec.ofChange crcZerosSpec)

/-- ITS FALSE NEIGHBOUR: 'it returns false'. Refute it at one input. -/
def crcZerosWrong : ChangeSpec := { name := "crcZeros", fn := fun _ => fun
  | [d1, d2] => { results := [.lit (.bool false)], args := [d1, d2] }
  | _ => none }
def CrcZerosWrongFalsely : Prop := crcZerosRow.holds Tryd.pinned (OpenSpec.ofChange crcZerosWrong)

/-- 'lighterlaw02.CrcOpens': WHATEVER THE INPUT: true; the input reads as it did. -/
def crcOpensSpec : ChangeSpec := { name := "crcOpens", fn := fun _ => fun
  | [d] => { results := [.lit (.bool true)], args := [d] }
  | _ => none }
def crcOpensRow : OpenClaim := { program := "ytbjhajomeegobaadoor", sum := "550440f84c7449025764a3c222828efbfc8a67b4e473c67250958cd46520f8ad", func := "lighter/lighterlaw02.CrcOpens", spec := "crcOpens", named := ["lighter/crc.fourBits"], apart := false, laid := [("lighter/crc.fourBits", laid_lighter_crc_fourBits)] }
def CrcOpensSaid : Prop := crcOpensRow.holds Tryd.pinned (OpenSpec.ofChange crcOpensSpec)

/-- ITS FALSE NEIGHBOUR: 'it returns false'. Refute it at one input. -/
def crcOpensWrong : ChangeSpec := { name := "crcOpens", fn := fun _ => fun
  | [d] => { results := [.lit (.bool false)], args := [d] }
  | _ => none }
def CrcOpensWrongFalsely : Prop := crcOpensRow.holds Tryd.pinned (OpenSpec.ofChange crcOpensWrong)

/-- 'lighterlaw02.CrcParts': WHATEVER THE INPUT: true; the input reads as it did. -/
def crcPartsSpec : ChangeSpec := { name := "crcParts", fn := fun _ => fun
  | [d1, d2, d3] => { results := [.lit (.bool true)], args := [d1, d2, d3] }
  | _ => none }
def crcPartsRow : OpenClaim := { program := "ytbjhajomeegobaadoor", sum := "550440f84c7449025764a3c222828efbfc8a67b4e473c67250958cd46520f8ad", func := "lighter/lighterlaw02.CrcParts", spec := "crcParts", named := ["lighter/crc.fourBits"], apart := false, laid := [("lighter/crc.fourBits", laid_lighter_crc_fourBits)] }
def CrcPartsSaid : Prop := crcPartsRow.holds Tryd.pinned (OpenSpec.ofChange crcPartsSpec)

/-- ITS FALSE NEIGHBOUR: 'it returns false'. Refute it at one input. -/
def crcPartsWrong : ChangeSpec := { name := "crcParts", fn := fun _ => fun
  | [d1, d2, d3] => { results := [.lit (.bool false)], args := [d1, d2, d3] }
  | _ => none }
def CrcPartsWrongFalsely : Prop := crcPartsRow.holds Tryd.pinned (OpenSpec.ofChange crcPartsWrong)

/-- 'lighterlaw02.CrcTold': WHATEVER THE INPUT: true; the input reads as it did. -/
def crcToldSpec : ChangeSpec := { name := "crcTold", fn := fun _ => fun
  | [d1, d2, d3] => { results := [.lit (.bool true)], args := [d1, d2, d3] }
  | _ => none }
def crcToldRow : OpenClaim := { program := "ytbjhajomeegobaadoor", sum := "550440f84c7449025764a3c222828efbfc8a67b4e473c67250958cd46520f8ad", func := "lighter/lighterlaw02.CrcTold", spec := "crcTold", named := ["lighter/crc.fourBits"], apart := false, laid := [("lighter/crc.fourBits", laid_lighter_crc_fourBits)] }
def CrcToldSaid : Prop := crcToldRow.holds Tryd.pinned (OpenSpec.ofChange crcToldSpec)

/-- ITS FALSE NEIGHBOUR: 'it returns false'. Refute it at one input. -/
def crcToldWrong : ChangeSpec := { name := "crcTold", fn := fun _ => fun
  | [d1, d2, d3] => { results := [.lit (.bool false)], args := [d1, d2, d3] }
  | _ => none }
def CrcToldWrongFalsely : Prop := crcToldRow.holds Tryd.pinned (OpenSpec.ofChange crcToldWrong)

/-- 'lighterlaw02.CrcKeys': WHATEVER THE INPUT: true; the input reads as it did. -/
def crcKeysSpec : ChangeSpec := { name := "crcKeys", fn := fun _ => fun
  | [d1, d2] => { results := [.lit (.bool true)], args := [d1, d2] }
  | _ => none }
def crcKeysRow : OpenClaim := { program := "ytbjhajomeegobaadoor", sum := "550440f84c7449025764a3c222828efbfc8a67b4e473c67250958cd46520f8ad", func := "lighter/lighterlaw02.CrcKeys", spec := "crcKeys", named := ["lighter/crc.fourBits"], apart := false, laid := [("lighter/crc.fourBits", laid_lighter_crc_fourBits)] }
def CrcKeysSaid : Prop := crcKeysRow.holds Tryd.pinned (OpenSpec.ofChange crcKeysSpec)

/-- ITS FALSE NEIGHBOUR: 'it returns false'. Refute it at one input. -/
def crcKeysWrong : ChangeSpec := { name := "crcKeys", fn := fun _ => fun
  | [d1, d2] => { results := [.lit (.bool false)], args := [d1, d2] }
  | _ => none }
def CrcKeysWrongFalsely : Prop := crcKeysRow.holds Tryd.pinned (OpenSpec.ofChange crcKeysWrong)

/-- 'lighterlaw02.CrcXors': WHATEVER THE INPUT: true; the input reads as it did. -/
def crcXorsSpec : ChangeSpec := { name := "crcXors", fn := fun _ => fun
  | [d1, d2, d3] => { results := [.lit (.bool true)], args := [d1, d2, d3] }
  | _ => none }
def crcXorsRow : OpenClaim := { program := "ytbjhajomeegobaadoor", sum := "550440f84c7449025764a3c222828efbfc8a67b4e473c67250958cd46520f8ad", func := "lighter/lighterlaw02.CrcXors", spec := "crcXors", named := ["lighter/crc.fourBits"], apart := false, laid := [("lighter/crc.fourBits", laid_lighter_crc_fourBits)] }
def CrcXorsSaid : Prop := crcXorsRow.holds Tryd.pinned (OpenSpec.ofChange crcXorsSpec)

/-- ITS FALSE NEIGHBOUR: 'it returns false'. Refute it at one input. -/
def crcXorsWrong : ChangeSpec := { name := "crcXors", fn := fun _ => fun
  | [d1, d2, d3] => { results := [.lit (.bool false)], args := [d1, d2, d3] }
  | _ => none }
def CrcXorsWrongFalsely : Prop := crcXorsRow.holds Tryd.pinned (OpenSpec.ofChange crcXorsWrong)

/-- 'lighterlaw02.CrcSealed': WHATEVER THE INPUT: true; the input reads as it did. -/
def crcSealedSpec : ChangeSpec := { name := "crcSealed", fn := fun _ => fun
  | [d1, d2] => { results := [.lit (.bool true)], args := [d1, d2] }
  | _ => none }
def crcSealedRow : OpenClaim := { program := "ytbjhajomeegobaadoor", sum := "550440f84c7449025764a3c222828efbfc8a67b4e473c67250958cd46520f8ad", func := "lighter/lighterlaw02.CrcSealed", spec := "crcSealed", named := ["lighter/crc.fourBits"], apart := false, laid := [("lighter/crc.fourBits", laid_lighter_crc_fourBits)] }
def CrcSealedSaid : Prop := crcSealedRow.holds Tryd.pinned (OpenSpec.ofChange crcSealedSpec)

/-- ITS FALSE NEIGHBOUR: 'it returns false'. Refute it at one input. -/
def crcSealedWrong : ChangeSpec := { name := "crcSealed", fn := fun _ => fun
  | [d1, d2] => { results := [.lit (.bool false)], args := [d1, d2] }
  | _ => none }
def CrcSealedWrongFalsely : Prop := crcSealedRow.holds Tryd.pinned (OpenSpec.ofChange crcSealedWrong)

/- THE SECOND FORM. 'bulk': how many values and letters a reading holds, each counted each time it is reached (what is shared counts as often as it is met; a slice's spare places count too). A statement '..UptoSaid' is the law's where the arguments, and the package variables that the reading takes, are together of bulk at most 1048576: NARROWER than '..Said'. Prove '..Said' where nothing that the law and all that it calls make is longer than what came in: it says more and counts as full. Else prove '..UptoSaid'. A law counts once. -/
mutual
def uptoBulk {H : Type} : DataW H → Nat
  | .lit (.string bytes) => bytes.length + 1
  | .lit _ => 1
  | .nil => 1
  | .ptr d => uptoBulk d + 1
  | .slice elems spare => uptoBulkAll elems + uptoBulkAll spare + 1
  | .agg parts => uptoBulkAll parts + 1
  | .iface _ d => uptoBulk d + 1
  | .map entries => uptoBulkEntries entries + 1
  | .held _ => 1
def uptoBulkAll {H : Type} : List (DataW H) → Nat
  | [] => 0
  | d :: r => uptoBulk d + uptoBulkAll r
def uptoBulkEntries {H : Type} : List (Lit × DataW H) → Nat
  | [] => 0
  | x :: r => uptoBulkEntry x + uptoBulkEntries r
def uptoBulkEntry {H : Type} : Lit × DataW H → Nat
  | (.string bytes, d) => bytes.length + uptoBulk d + 1
  | (_, d) => uptoBulk d + 1
 end
def uptoSmall : (H : Type) → List (DataW H) → Bool := fun _ ds => decide (uptoBulkAll ds ≤ 1048576)
def OpenSpec.upto (s : _root_.Go.ChangeSpec) : _root_.Go.OpenSpec := { _root_.Go.OpenSpec.ofChange s with cond := some uptoSmall }

/-- 'lighterlaw02.CrcSums', WHERE WHAT IT READS IS OF BULK AT MOST 1048576: true; the input reads as it did. -/
def crcSumsUptoRow : OpenClaim := { program := "ytbjhajomeegobaadoor", sum := "550440f84c7449025764a3c222828efbfc8a67b4e473c67250958cd46520f8ad", func := "lighter/lighterlaw02.CrcSums", spec := "crcSums", named := ["lighter/crc.fourBits"], apart := false, laid := [("lighter/crc.fourBits", laid_lighter_crc_fourBits)], narrowed := true }
def CrcSumsUptoSaid : Prop := crcSumsUptoRow.holds Tryd.pinned (OpenSpec.upto crcSumsSpec)

/-- 'lighterlaw02.CrcZeros', WHERE WHAT IT READS IS OF BULK AT MOST 1048576: true; the input reads as it did. -/
def crcZerosUptoRow : OpenClaim := { program := "ytbjhajomeegobaadoor", sum := "550440f84c7449025764a3c222828efbfc8a67b4e473c67250958cd46520f8ad", func := "lighter/lighterlaw02.CrcZeros", spec := "crcZeros", named := ["lighter/crc.fourBits"], apart := false, laid := [("lighter/crc.fourBits", laid_lighter_crc_fourBits)], narrowed := true }
def CrcZerosUptoSaid : Prop := crcZerosUptoRow.holds Tryd.pinned (OpenSpec.upto crcZerosSpec)

/-- 'lighterlaw02.CrcOpens', WHERE WHAT IT READS IS OF BULK AT MOST 1048576: true; the input reads as it did. -/
def crcOpensUptoRow : OpenClaim := { program := "ytbjhajomeegobaadoor", sum := "550440f84c7449025764a3c222828efbfc8a67b4e473c67250958cd46520f8ad", func := "lighter/lighterlaw02.CrcOpens", spec := "crcOpens", named := ["lighter/crc.fourBits"], apart := false, laid := [("lighter/crc.fourBits", laid_lighter_crc_fourBits)], narrowed := true }
def CrcOpensUptoSaid : Prop := crcOpensUptoRow.holds Tryd.pinned (OpenSpec.upto crcOpensSpec)

/-- 'lighterlaw02.CrcParts', WHERE WHAT IT READS IS OF BULK AT MOST 1048576: true; the input reads as it did. -/
def crcPartsUptoRow : OpenClaim := { program := "ytbjhajomeegobaadoor", sum := "550440f84c7449025764a3c222828efbfc8a67b4e473c67250958cd46520f8ad", func := "lighter/lighterlaw02.CrcParts", spec := "crcParts", named := ["lighter/crc.fourBits"], apart := false, laid := [("lighter/crc.fourBits", laid_lighter_crc_fourBits)], narrowed := true }
def CrcPartsUptoSaid : Prop := crcPartsUptoRow.holds Tryd.pinned (OpenSpec.upto crcPartsSpec)

/-- 'lighterlaw02.CrcTold', WHERE WHAT IT READS IS OF BULK AT MOST 1048576: true; the input reads as it did. -/
def crcToldUptoRow : OpenClaim := { program := "ytbjhajomeegobaadoor", sum := "550440f84c7449025764a3c222828efbfc8a67b4e473c67250958cd46520f8ad", func := "lighter/lighterlaw02.CrcTold", spec := "crcTold", named := ["lighter/crc.fourBits"], apart := false, laid := [("lighter/crc.fourBits", laid_lighter_crc_fourBits)], narrowed := true }
def CrcToldUptoSaid : Prop := crcToldUptoRow.holds Tryd.pinned (OpenSpec.upto crcToldSpec)

/-- 'lighterlaw02.CrcKeys', WHERE WHAT IT READS IS OF BULK AT MOST 1048576: true; the input reads as it did. -/
def crcKeysUptoRow : OpenClaim := { program := "ytbjhajomeegobaadoor", sum := "550440f84c7449025764a3c222828efbfc8a67b4e473c67250958cd46520f8ad", func := "lighter/lighterlaw02.CrcKeys", spec := "crcKeys", named := ["lighter/crc.fourBits"], apart := false, laid := [("lighter/crc.fourBits", laid_lighter_crc_fourBits)], narrowed := true }
def CrcKeysUptoSaid : Prop := crcKeysUptoRow.holds Tryd.pinned (OpenSpec.upto crcKeysSpec)

/-- 'lighterlaw02.CrcXors', WHERE WHAT IT READS IS OF BULK AT MOST 1048576: true; the input reads as it did. -/
def crcXorsUptoRow : OpenClaim := { program := "ytbjhajomeegobaadoor", sum := "550440f84c7449025764a3c222828efbfc8a67b4e473c67250958cd46520f8ad", func := "lighter/lighterlaw02.CrcXors", spec := "crcXors", named := ["lighter/crc.fourBits"], apart := false, laid := [("lighter/crc.fourBits", laid_lighter_crc_fourBits)], narrowed := true }
def CrcXorsUptoSaid : Prop := crcXorsUptoRow.holds Tryd.pinned (OpenSpec.upto crcXorsSpec)

/-- 'lighterlaw02.CrcSealed', WHERE WHAT IT READS IS OF BULK AT MOST 1048576: true; the input reads as it did. -/
def crcSealedUptoRow : OpenClaim := { program := "ytbjhajomeegobaadoor", sum := "550440f84c7449025764a3c222828efbfc8a67b4e473c67250958cd46520f8ad", func := "lighter/lighterlaw02.CrcSealed", spec := "crcSealed", named := ["lighter/crc.fourBits"], apart := false, laid := [("lighter/crc.fourBits", laid_lighter_crc_fourBits)], narrowed := true }
def CrcSealedUptoSaid : Prop := crcSealedUptoRow.holds Tryd.pinned (OpenSpec.upto crcSealedSpec)

end Rows
end Go.Proofs.YtbjhajomeegobaaDoor
