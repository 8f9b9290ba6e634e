/-
  NARROWER THAN 'FOR EVERY INPUT', by the rows' own cells (each row's printed sentence says how): SuperWrites: laid · SuperReads: laid · SuperNext: laid · SuperBack: laid · SuperTorn: laid · SuperRow: laid.
  DERIVED. THE GIVEN ROWS OF THIS SEAT. 6 by the template 'for every input the law returns true; each argument reads behind the call as it read before'; 0 by the template 'total and deterministic' (their statements: YtjopjffecnflkaaDoorTotals.lean).
  GIVEN WITH THE SEED: the statements are not yours to turn. If you find one false, say at which input.
  Laid BY PROGRAM, IN A SANDBOX (cutbox-rows.mjs): the forced cells as the released guide's own fill.sh prints them over the translation 3db63f6cca766c01… (all of the seat's roots in one cut). By AI agents, Wed Nov 11 2026. No macro, syntax, notation, axiom, sorry.
-/
import Derived.Test.YtjopjffecnflkaaDoorChecked
import GoSem.Claim
import GoSem.ClaimJoined
import GoSem.ClaimMapViews
import Derived.JoinedTies
import Derived.KernelRfl
namespace Go.Proofs.YtjopjffecnflkaaDoor
/- THE CELL 'sum', in the pinned program and in every row, IS THE sha256 OF THE DUMP (.gsa) THAT YtjopjffecnflkaaDoorProg.lean LOADS. Nothing in Lean hashes anything: it is a label: what it is worth is what the hold of that sum in a sandbox is worth. -/
noncomputable def Tryd.pinned : Pinned := { name := "ytjopjffecnflkaadoor", sum := "3db63f6cca766c018b2246d5aed10bc01e8716434148cb3810a3c6321e27ce09", checked := Tryd.checked }
namespace Rows
def none {H : Type} : Left H := { results := [], args := [] }

/- WHAT THE LISTED PACKAGE-LEVEL VARIABLES READ AS WHEN THE CALL BEGINS. Each datum BY PROGRAM (the guide's laid-datum.mjs) off the statement by which the dump's own 'gosem.cut.vars' lays the variable. In a bare row this is a premise. The card (YtjopjffecnflkaaDoorCards.lean) ties it to the program's text. -/
def laid_lighter_crc_fourBits {H : Type} : DataW H := .agg [.lit (.int .u32 0), .lit (.int .u32 274646895), .lit (.int .u32 549293790), .lit (.int .u32 820201905), .lit (.int .u32 1098587580), .lit (.int .u32 1361435347), .lit (.int .u32 1640403810), .lit (.int .u32 1905808397), .lit (.int .u32 2197175160), .lit (.int .u32 2460548119), .lit (.int .u32 2722870694), .lit (.int .u32 2987750089), .lit (.int .u32 3280807620), .lit (.int .u32 3553878443), .lit (.int .u32 3811616794), .lit (.int .u32 4084100981)]

/-- 'lighterlaw11.SuperWrites': WHATEVER THE INPUT: true; the input reads as it did. -/
def superWritesSpec : ChangeSpec := { name := "superWrites", fn := fun _ => fun
  | [d] => { results := [.lit (.bool true)], args := [d] }
  | _ => none }
def superWritesRow : OpenClaim := { program := "ytjopjffecnflkaadoor", sum := "3db63f6cca766c018b2246d5aed10bc01e8716434148cb3810a3c6321e27ce09", func := "lighter/lighterlaw11.SuperWrites", spec := "superWrites", named := ["lighter/crc.fourBits"], apart := false, laid := [("lighter/crc.fourBits", laid_lighter_crc_fourBits)] }
def SuperWritesSaid : Prop := superWritesRow.holds Tryd.pinned (OpenSpec.ofChange superWritesSpec)

/-- ITS FALSE NEIGHBOUR: 'it returns false'. Refute it at one input. -/
def superWritesWrong : ChangeSpec := { name := "superWrites", fn := fun _ => fun
  | [d] => { results := [.lit (.bool false)], args := [d] }
  | _ => none }
def SuperWritesWrongFalsely : Prop := superWritesRow.holds Tryd.pinned (OpenSpec.ofChange superWritesWrong)

/-- 'lighterlaw11.SuperReads': WHATEVER THE INPUT: true; the input reads as it did. -/
def superReadsSpec : ChangeSpec := { name := "superReads", fn := fun _ => fun
  | [d1, d2] => { results := [.lit (.bool true)], args := [d1, d2] }
  | _ => none }
def superReadsRow : OpenClaim := { program := "ytjopjffecnflkaadoor", sum := "3db63f6cca766c018b2246d5aed10bc01e8716434148cb3810a3c6321e27ce09", func := "lighter/lighterlaw11.SuperReads", spec := "superReads", named := ["lighter/crc.fourBits"], apart := false, laid := [("lighter/crc.fourBits", laid_lighter_crc_fourBits)] }
def SuperReadsSaid : Prop := superReadsRow.holds Tryd.pinned (OpenSpec.ofChange superReadsSpec)

/-- ITS FALSE NEIGHBOUR: 'it returns false'. Refute it at one input. -/
def superReadsWrong : ChangeSpec := { name := "superReads", fn := fun _ => fun
  | [d1, d2] => { results := [.lit (.bool false)], args := [d1, d2] }
  | _ => none }
def SuperReadsWrongFalsely : Prop := superReadsRow.holds Tryd.pinned (OpenSpec.ofChange superReadsWrong)

/-- 'lighterlaw11.SuperNext': WHATEVER THE INPUT: true; the input reads as it did. -/
def superNextSpec : ChangeSpec := { name := "superNext", fn := fun _ => fun
  | [d1, d2, d3] => { results := [.lit (.bool true)], args := [d1, d2, d3] }
  | _ => none }
def superNextRow : OpenClaim := { program := "ytjopjffecnflkaadoor", sum := "3db63f6cca766c018b2246d5aed10bc01e8716434148cb3810a3c6321e27ce09", func := "lighter/lighterlaw11.SuperNext", spec := "superNext", named := ["lighter/crc.fourBits"], apart := false, laid := [("lighter/crc.fourBits", laid_lighter_crc_fourBits)] }
def SuperNextSaid : Prop := superNextRow.holds Tryd.pinned (OpenSpec.ofChange superNextSpec)

/-- ITS FALSE NEIGHBOUR: 'it returns false'. Refute it at one input. -/
def superNextWrong : ChangeSpec := { name := "superNext", fn := fun _ => fun
  | [d1, d2, d3] => { results := [.lit (.bool false)], args := [d1, d2, d3] }
  | _ => none }
def SuperNextWrongFalsely : Prop := superNextRow.holds Tryd.pinned (OpenSpec.ofChange superNextWrong)

/-- 'lighterlaw11.SuperBack': WHATEVER THE INPUT: true; the input reads as it did. -/
def superBackSpec : ChangeSpec := { name := "superBack", fn := fun _ => fun
  | [d1, d2, d3] => { results := [.lit (.bool true)], args := [d1, d2, d3] }
  | _ => none }
def superBackRow : OpenClaim := { program := "ytjopjffecnflkaadoor", sum := "3db63f6cca766c018b2246d5aed10bc01e8716434148cb3810a3c6321e27ce09", func := "lighter/lighterlaw11.SuperBack", spec := "superBack", named := ["lighter/crc.fourBits"], apart := false, laid := [("lighter/crc.fourBits", laid_lighter_crc_fourBits)] }
def SuperBackSaid : Prop := superBackRow.holds Tryd.pinned (OpenSpec.ofChange superBackSpec)

/-- ITS FALSE NEIGHBOUR: 'it returns false'. Refute it at one input. -/
def superBackWrong : ChangeSpec := { name := "superBack", fn := fun _ => fun
  | [d1, d2, d3] => { results := [.lit (.bool false)], args := [d1, d2, d3] }
  | _ => none }
def SuperBackWrongFalsely : Prop := superBackRow.holds Tryd.pinned (OpenSpec.ofChange superBackWrong)

/-- 'lighterlaw11.SuperTorn': WHATEVER THE INPUT: true; the input reads as it did. -/
def superTornSpec : ChangeSpec := { name := "superTorn", fn := fun _ => fun
  | [d1, d2, d3] => { results := [.lit (.bool true)], args := [d1, d2, d3] }
  | _ => none }
def superTornRow : OpenClaim := { program := "ytjopjffecnflkaadoor", sum := "3db63f6cca766c018b2246d5aed10bc01e8716434148cb3810a3c6321e27ce09", func := "lighter/lighterlaw11.SuperTorn", spec := "superTorn", named := ["lighter/crc.fourBits"], apart := false, laid := [("lighter/crc.fourBits", laid_lighter_crc_fourBits)] }
def SuperTornSaid : Prop := superTornRow.holds Tryd.pinned (OpenSpec.ofChange superTornSpec)

/-- ITS FALSE NEIGHBOUR: 'it returns false'. Refute it at one input. -/
def superTornWrong : ChangeSpec := { name := "superTorn", fn := fun _ => fun
  | [d1, d2, d3] => { results := [.lit (.bool false)], args := [d1, d2, d3] }
  | _ => none }
def SuperTornWrongFalsely : Prop := superTornRow.holds Tryd.pinned (OpenSpec.ofChange superTornWrong)

/-- 'lighterlaw11.SuperRow': WHATEVER THE INPUT: true; the input reads as it did. -/
def superRowSpec : ChangeSpec := { name := "superRow", fn := fun _ => fun
  | [d1, d2] => { results := [.lit (.bool true)], args := [d1, d2] }
  | _ => none }
def superRowRow : OpenClaim := { program := "ytjopjffecnflkaadoor", sum := "3db63f6cca766c018b2246d5aed10bc01e8716434148cb3810a3c6321e27ce09", func := "lighter/lighterlaw11.SuperRow", spec := "superRow", named := ["lighter/crc.fourBits"], apart := false, laid := [("lighter/crc.fourBits", laid_lighter_crc_fourBits)] }
def SuperRowSaid : Prop := superRowRow.holds Tryd.pinned (OpenSpec.ofChange superRowSpec)

/-- ITS FALSE NEIGHBOUR: 'it returns false'. Refute it at one input. -/
def superRowWrong : ChangeSpec := { name := "superRow", fn := fun _ => fun
  | [d1, d2] => { results := [.lit (.bool false)], args := [d1, d2] }
  | _ => none }
def SuperRowWrongFalsely : Prop := superRowRow.holds Tryd.pinned (OpenSpec.ofChange superRowWrong)

/- THE SECOND FORM. 'bulk': how many values and letters a reading holds, each counted each time it is reached (what is shared counts as often as it is met; a slice's spare places count too). A statement '..UptoSaid' is the law's where the arguments, and the package variables that the reading takes, are together of bulk at most 1048576: NARROWER than '..Said'. Prove '..Said' where nothing that the law and all that it calls make is longer than what came in: it says more and counts as full. Else prove '..UptoSaid'. A law counts once. -/
mutual
def uptoBulk {H : Type} : DataW H → Nat
  | .lit (.string bytes) => bytes.length + 1
  | .lit _ => 1
  | .nil => 1
  | .ptr d => uptoBulk d + 1
  | .slice elems spare => uptoBulkAll elems + uptoBulkAll spare + 1
  | .agg parts => uptoBulkAll parts + 1
  | .iface _ d => uptoBulk d + 1
  | .map entries => uptoBulkEntries entries + 1
  | .held _ => 1
def uptoBulkAll {H : Type} : List (DataW H) → Nat
  | [] => 0
  | d :: r => uptoBulk d + uptoBulkAll r
def uptoBulkEntries {H : Type} : List (Lit × DataW H) → Nat
  | [] => 0
  | x :: r => uptoBulkEntry x + uptoBulkEntries r
def uptoBulkEntry {H : Type} : Lit × DataW H → Nat
  | (.string bytes, d) => bytes.length + uptoBulk d + 1
  | (_, d) => uptoBulk d + 1
 end
def uptoSmall : (H : Type) → List (DataW H) → Bool := fun _ ds => decide (uptoBulkAll ds ≤ 1048576)
def OpenSpec.upto (s : _root_.Go.ChangeSpec) : _root_.Go.OpenSpec := { _root_.Go.OpenSpec.ofChange s with cond := some uptoSmall }

/-- 'lighterlaw11.SuperWrites', WHERE WHAT IT READS IS OF BULK AT MOST 1048576: true; the input reads as it did. -/
def superWritesUptoRow : OpenClaim := { program := "ytjopjffecnflkaadoor", sum := "3db63f6cca766c018b2246d5aed10bc01e8716434148cb3810a3c6321e27ce09", func := "lighter/lighterlaw11.SuperWrites", spec := "superWrites", named := ["lighter/crc.fourBits"], apart := false, laid := [("lighter/crc.fourBits", laid_lighter_crc_fourBits)], narrowed := true }
def SuperWritesUptoSaid : Prop := superWritesUptoRow.holds Tryd.pinned (OpenSpec.upto superWritesSpec)

/-- 'lighterlaw11.SuperReads', WHERE WHAT IT READS IS OF BULK AT MOST 1048576: true; the input reads as it did. -/
def superReadsUptoRow : OpenClaim := { program := "ytjopjffecnflkaadoor", sum := "3db63f6cca766c018b2246d5aed10bc01e8716434148cb3810a3c6321e27ce09", func := "lighter/lighterlaw11.SuperReads", spec := "superReads", named := ["lighter/crc.fourBits"], apart := false, laid := [("lighter/crc.fourBits", laid_lighter_crc_fourBits)], narrowed := true }
def SuperReadsUptoSaid : Prop := superReadsUptoRow.holds Tryd.pinned (OpenSpec.upto superReadsSpec)

/-- 'lighterlaw11.SuperNext', WHERE WHAT IT READS IS OF BULK AT MOST 1048576: true; the input reads as it did. -/
def superNextUptoRow : OpenClaim := { program := "ytjopjffecnflkaadoor", sum := "3db63f6cca766c018b2246d5aed10bc01e8716434148cb3810a3c6321e27ce09", func := "lighter/lighterlaw11.SuperNext", spec := "superNext", named := ["lighter/crc.fourBits"], apart := false, laid := [("lighter/crc.fourBits", laid_lighter_crc_fourBits)], narrowed := true }
def SuperNextUptoSaid : Prop := superNextUptoRow.holds Tryd.pinned (OpenSpec.upto superNextSpec)

/-- 'lighterlaw11.SuperBack', WHERE WHAT IT READS IS OF BULK AT MOST 1048576: true; the input reads as it did. -/
def superBackUptoRow : OpenClaim := { program := "ytjopjffecnflkaadoor", sum := "3db63f6cca766c018b2246d5aed10bc01e8716434148cb3810a3c6321e27ce09", func := "lighter/lighterlaw11.SuperBack", spec := "superBack", named := ["lighter/crc.fourBits"], apart := false, laid := [("lighter/crc.fourBits", laid_lighter_crc_fourBits)], narrowed := true }
def SuperBackUptoSaid : Prop := superBackUptoRow.holds Tryd.pinned (OpenSpec.upto superBackSpec)

/-- 'lighterlaw11.SuperTorn', WHERE WHAT IT READS IS OF BULK AT MOST 1048576: true; the input reads as it did. -/
def superTornUptoRow : OpenClaim := { program := "ytjopjffecnflkaadoor", sum := "3db63f6cca766c018b2246d5aed10bc01e8716434148cb3810a3c6321e27ce09", func := "lighter/lighterlaw11.SuperTorn", spec := "superTorn", named := ["lighter/crc.fourBits"], apart := false, laid := [("lighter/crc.fourBits", laid_lighter_crc_fourBits)], narrowed := true }
def SuperTornUptoSaid : Prop := superTornUptoRow.holds Tryd.pinned (OpenSpec.upto superTornSpec)

/-- 'lighterlaw11.SuperRow', WHERE WHAT IT READS IS OF BULK AT MOST 1048576: true; the input reads as it did. -/
def superRowUptoRow : OpenClaim := { program := "ytjopjffecnflkaadoor", sum := "3db63f6cca766c018b2246d5aed10bc01e8716434148cb3810a3c6321e27ce09", func := "lighter/lighterlaw11.SuperRow", spec := "superRow", named := ["lighter/crc.fourBits"], apart := false, laid := [("lighter/crc.fourBits", laid_lighter_crc_fourBits)], narrowed := true }
def SuperRowUptoSaid : Prop := superRowUptoRow.holds Tryd.pinned (OpenSpec.upto superRowSpec)

end Rows
end Go.Proofs.YtjopjffecnflkaaDoor
