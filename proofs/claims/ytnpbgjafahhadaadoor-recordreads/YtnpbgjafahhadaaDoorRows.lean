/-
  NARROWER THAN 'FOR EVERY INPUT', by the rows' own cells (each row's printed sentence says how): RecordWrites: laid · RecordReads: laid · RecordBack: laid · RecordTold: laid · RecordOne: laid · RecordPairs: laid.
  DERIVED. THE GIVEN ROWS OF THIS SEAT. 6 by the template 'for every input the law returns true; each argument reads behind the call as it read before'; 0 by the template 'total and deterministic' (their statements: YtnpbgjafahhadaaDoorTotals.lean).
  GIVEN WITH THE SEED: the statements are not yours to turn. If you find one false, say at which input.
  Laid BY PROGRAM, IN A SANDBOX (cutbox-rows.mjs): the forced cells as the released guide's own fill.sh prints them over the translation 1a511e89a2dd83e0… (all of the seat's roots in one cut). By AI agents, Wed Nov 11 2026. No macro, syntax, notation, axiom, sorry.
-/
import Derived.Test.YtnpbgjafahhadaaDoorChecked
import GoSem.Claim
import GoSem.ClaimJoined
import GoSem.ClaimMapViews
import Derived.JoinedTies
import Derived.KernelRfl
namespace Go.Proofs.YtnpbgjafahhadaaDoor
/- THE CELL 'sum', in the pinned program and in every row, IS THE sha256 OF THE DUMP (.gsa) THAT YtnpbgjafahhadaaDoorProg.lean LOADS. Nothing in Lean hashes anything: it is a label: what it is worth is what the hold of that sum in a sandbox is worth. -/
noncomputable def Tryd.pinned : Pinned := { name := "ytnpbgjafahhadaadoor", sum := "1a511e89a2dd83e0947a5bf187492431918094b4c9e17168e4b9adee3de53ddc", checked := Tryd.checked }
namespace Rows
def none {H : Type} : Left H := { results := [], args := [] }

/- WHAT THE LISTED PACKAGE-LEVEL VARIABLES READ AS WHEN THE CALL BEGINS. Each datum BY PROGRAM (the guide's laid-datum.mjs) off the statement by which the dump's own 'gosem.cut.vars' lays the variable. In a bare row this is a premise. The card (YtnpbgjafahhadaaDoorCards.lean) ties it to the program's text. -/
def laid_lighter_crc_fourBits {H : Type} : DataW H := .agg [.lit (.int .u32 0), .lit (.int .u32 274646895), .lit (.int .u32 549293790), .lit (.int .u32 820201905), .lit (.int .u32 1098587580), .lit (.int .u32 1361435347), .lit (.int .u32 1640403810), .lit (.int .u32 1905808397), .lit (.int .u32 2197175160), .lit (.int .u32 2460548119), .lit (.int .u32 2722870694), .lit (.int .u32 2987750089), .lit (.int .u32 3280807620), .lit (.int .u32 3553878443), .lit (.int .u32 3811616794), .lit (.int .u32 4084100981)]

/-- 'lighterlaw10.RecordWrites': WHATEVER THE INPUT: true; the input reads as it did. -/
def recordWritesSpec : ChangeSpec := { name := "recordWrites", fn := fun _ => fun
  | [d] => { results := [.lit (.bool true)], args := [d] }
  | _ => none }
def recordWritesRow : OpenClaim := { program := "ytnpbgjafahhadaadoor", sum := "1a511e89a2dd83e0947a5bf187492431918094b4c9e17168e4b9adee3de53ddc", func := "lighter/lighterlaw10.RecordWrites", spec := "recordWrites", inPlace := ["internal/abi.NoEscape", "internal/bytealg.MakeNoZero"], unfollowed := true, recurses := true, named := ["lighter/crc.fourBits"], apart := false, laid := [("lighter/crc.fourBits", laid_lighter_crc_fourBits)] }
def RecordWritesSaid : Prop := recordWritesRow.holds Tryd.pinned (OpenSpec.ofChange recordWritesSpec)

/-- ITS FALSE NEIGHBOUR: 'it returns false'. Refute it at one input. -/
def recordWritesWrong : ChangeSpec := { name := "recordWrites", fn := fun _ => fun
  | [d] => { results := [.lit (.bool false)], args := [d] }
  | _ => none }
def RecordWritesWrongFalsely : Prop := recordWritesRow.holds Tryd.pinned (OpenSpec.ofChange recordWritesWrong)

/-- 'lighterlaw10.RecordReads': WHATEVER THE INPUT: true; the input reads as it did. -/
def recordReadsSpec : ChangeSpec := { name := "recordReads", fn := fun _ => fun
  | [d] => { results := [.lit (.bool true)], args := [d] }
  | _ => none }
def recordReadsRow : OpenClaim := { program := "ytnpbgjafahhadaadoor", sum := "1a511e89a2dd83e0947a5bf187492431918094b4c9e17168e4b9adee3de53ddc", func := "lighter/lighterlaw10.RecordReads", spec := "recordReads", inPlace := ["internal/abi.NoEscape", "internal/bytealg.MakeNoZero"], unfollowed := true, recurses := true, named := ["lighter/crc.fourBits"], apart := false, laid := [("lighter/crc.fourBits", laid_lighter_crc_fourBits)] }
def RecordReadsSaid : Prop := recordReadsRow.holds Tryd.pinned (OpenSpec.ofChange recordReadsSpec)

/-- ITS FALSE NEIGHBOUR: 'it returns false'. Refute it at one input. -/
def recordReadsWrong : ChangeSpec := { name := "recordReads", fn := fun _ => fun
  | [d] => { results := [.lit (.bool false)], args := [d] }
  | _ => none }
def RecordReadsWrongFalsely : Prop := recordReadsRow.holds Tryd.pinned (OpenSpec.ofChange recordReadsWrong)

/-- 'lighterlaw10.RecordBack': WHATEVER THE INPUT: true; the input reads as it did. -/
def recordBackSpec : ChangeSpec := { name := "recordBack", fn := fun _ => fun
  | [d1, d2] => { results := [.lit (.bool true)], args := [d1, d2] }
  | _ => none }
def recordBackRow : OpenClaim := { program := "ytnpbgjafahhadaadoor", sum := "1a511e89a2dd83e0947a5bf187492431918094b4c9e17168e4b9adee3de53ddc", func := "lighter/lighterlaw10.RecordBack", spec := "recordBack", inPlace := ["internal/abi.NoEscape", "internal/bytealg.MakeNoZero"], unfollowed := true, recurses := true, named := ["lighter/crc.fourBits"], apart := false, laid := [("lighter/crc.fourBits", laid_lighter_crc_fourBits)] }
def RecordBackSaid : Prop := recordBackRow.holds Tryd.pinned (OpenSpec.ofChange recordBackSpec)

/-- ITS FALSE NEIGHBOUR: 'it returns false'. Refute it at one input. -/
def recordBackWrong : ChangeSpec := { name := "recordBack", fn := fun _ => fun
  | [d1, d2] => { results := [.lit (.bool false)], args := [d1, d2] }
  | _ => none }
def RecordBackWrongFalsely : Prop := recordBackRow.holds Tryd.pinned (OpenSpec.ofChange recordBackWrong)

/-- 'lighterlaw10.RecordTold': WHATEVER THE INPUT: true; the input reads as it did. -/
def recordToldSpec : ChangeSpec := { name := "recordTold", fn := fun _ => fun
  | [d1, d2, d3] => { results := [.lit (.bool true)], args := [d1, d2, d3] }
  | _ => none }
def recordToldRow : OpenClaim := { program := "ytnpbgjafahhadaadoor", sum := "1a511e89a2dd83e0947a5bf187492431918094b4c9e17168e4b9adee3de53ddc", func := "lighter/lighterlaw10.RecordTold", spec := "recordTold", inPlace := ["internal/abi.NoEscape", "internal/bytealg.MakeNoZero"], unfollowed := true, recurses := true, named := ["lighter/crc.fourBits"], apart := false, laid := [("lighter/crc.fourBits", laid_lighter_crc_fourBits)] }
def RecordToldSaid : Prop := recordToldRow.holds Tryd.pinned (OpenSpec.ofChange recordToldSpec)

/-- ITS FALSE NEIGHBOUR: 'it returns false'. Refute it at one input. -/
def recordToldWrong : ChangeSpec := { name := "recordTold", fn := fun _ => fun
  | [d1, d2, d3] => { results := [.lit (.bool false)], args := [d1, d2, d3] }
  | _ => none }
def RecordToldWrongFalsely : Prop := recordToldRow.holds Tryd.pinned (OpenSpec.ofChange recordToldWrong)

/-- 'lighterlaw10.RecordOne': WHATEVER THE INPUT: true; the input reads as it did. -/
def recordOneSpec : ChangeSpec := { name := "recordOne", fn := fun _ => fun
  | [d] => { results := [.lit (.bool true)], args := [d] }
  | _ => none }
def recordOneRow : OpenClaim := { program := "ytnpbgjafahhadaadoor", sum := "1a511e89a2dd83e0947a5bf187492431918094b4c9e17168e4b9adee3de53ddc", func := "lighter/lighterlaw10.RecordOne", spec := "recordOne", inPlace := ["internal/abi.NoEscape", "internal/bytealg.MakeNoZero"], unfollowed := true, recurses := true, named := ["lighter/crc.fourBits"], apart := false, laid := [("lighter/crc.fourBits", laid_lighter_crc_fourBits)] }
def RecordOneSaid : Prop := recordOneRow.holds Tryd.pinned (OpenSpec.ofChange recordOneSpec)

/-- ITS FALSE NEIGHBOUR: 'it returns false'. Refute it at one input. -/
def recordOneWrong : ChangeSpec := { name := "recordOne", fn := fun _ => fun
  | [d] => { results := [.lit (.bool false)], args := [d] }
  | _ => none }
def RecordOneWrongFalsely : Prop := recordOneRow.holds Tryd.pinned (OpenSpec.ofChange recordOneWrong)

/-- 'lighterlaw10.RecordPairs': WHATEVER THE INPUT: true; the input reads as it did. -/
def recordPairsSpec : ChangeSpec := { name := "recordPairs", fn := fun _ => fun
  | [d1, d2] => { results := [.lit (.bool true)], args := [d1, d2] }
  | _ => none }
def recordPairsRow : OpenClaim := { program := "ytnpbgjafahhadaadoor", sum := "1a511e89a2dd83e0947a5bf187492431918094b4c9e17168e4b9adee3de53ddc", func := "lighter/lighterlaw10.RecordPairs", spec := "recordPairs", inPlace := ["internal/abi.NoEscape", "internal/bytealg.MakeNoZero"], unfollowed := true, recurses := true, named := ["lighter/crc.fourBits"], apart := false, laid := [("lighter/crc.fourBits", laid_lighter_crc_fourBits)] }
def RecordPairsSaid : Prop := recordPairsRow.holds Tryd.pinned (OpenSpec.ofChange recordPairsSpec)

/-- ITS FALSE NEIGHBOUR: 'it returns false'. Refute it at one input. -/
def recordPairsWrong : ChangeSpec := { name := "recordPairs", fn := fun _ => fun
  | [d1, d2] => { results := [.lit (.bool false)], args := [d1, d2] }
  | _ => none }
def RecordPairsWrongFalsely : Prop := recordPairsRow.holds Tryd.pinned (OpenSpec.ofChange recordPairsWrong)

/- THE SECOND FORM. 'bulk': how many values and letters a reading holds, each counted each time it is reached (what is shared counts as often as it is met; a slice's spare places count too). A statement '..UptoSaid' is the law's where the arguments, and the package variables that the reading takes, are together of bulk at most 1048576: NARROWER than '..Said'. Prove '..Said' where nothing that the law and all that it calls make is longer than what came in: it says more and counts as full. Else prove '..UptoSaid'. A law counts once. -/
mutual
def uptoBulk {H : Type} : DataW H → Nat
  | .lit (.string bytes) => bytes.length + 1
  | .lit _ => 1
  | .nil => 1
  | .ptr d => uptoBulk d + 1
  | .slice elems spare => uptoBulkAll elems + uptoBulkAll spare + 1
  | .agg parts => uptoBulkAll parts + 1
  | .iface _ d => uptoBulk d + 1
  | .map entries => uptoBulkEntries entries + 1
  | .held _ => 1
def uptoBulkAll {H : Type} : List (DataW H) → Nat
  | [] => 0
  | d :: r => uptoBulk d + uptoBulkAll r
def uptoBulkEntries {H : Type} : List (Lit × DataW H) → Nat
  | [] => 0
  | x :: r => uptoBulkEntry x + uptoBulkEntries r
def uptoBulkEntry {H : Type} : Lit × DataW H → Nat
  | (.string bytes, d) => bytes.length + uptoBulk d + 1
  | (_, d) => uptoBulk d + 1
 end
def uptoSmall : (H : Type) → List (DataW H) → Bool := fun _ ds => decide (uptoBulkAll ds ≤ 1048576)
def OpenSpec.upto (s : _root_.Go.ChangeSpec) : _root_.Go.OpenSpec := { _root_.Go.OpenSpec.ofChange s with cond := some uptoSmall }

/-- 'lighterlaw10.RecordWrites', WHERE WHAT IT READS IS OF BULK AT MOST 1048576: true; the input reads as it did. -/
def recordWritesUptoRow : OpenClaim := { program := "ytnpbgjafahhadaadoor", sum := "1a511e89a2dd83e0947a5bf187492431918094b4c9e17168e4b9adee3de53ddc", func := "lighter/lighterlaw10.RecordWrites", spec := "recordWrites", inPlace := ["internal/abi.NoEscape", "internal/bytealg.MakeNoZero"], unfollowed := true, recurses := true, named := ["lighter/crc.fourBits"], apart := false, laid := [("lighter/crc.fourBits", laid_lighter_crc_fourBits)], narrowed := true }
def RecordWritesUptoSaid : Prop := recordWritesUptoRow.holds Tryd.pinned (OpenSpec.upto recordWritesSpec)

/-- 'lighterlaw10.RecordReads', WHERE WHAT IT READS IS OF BULK AT MOST 1048576: true; the input reads as it did. -/
def recordReadsUptoRow : OpenClaim := { program := "ytnpbgjafahhadaadoor", sum := "1a511e89a2dd83e0947a5bf187492431918094b4c9e17168e4b9adee3de53ddc", func := "lighter/lighterlaw10.RecordReads", spec := "recordReads", inPlace := ["internal/abi.NoEscape", "internal/bytealg.MakeNoZero"], unfollowed := true, recurses := true, named := ["lighter/crc.fourBits"], apart := false, laid := [("lighter/crc.fourBits", laid_lighter_crc_fourBits)], narrowed := true }
def RecordReadsUptoSaid : Prop := recordReadsUptoRow.holds Tryd.pinned (OpenSpec.upto recordReadsSpec)

/-- 'lighterlaw10.RecordBack', WHERE WHAT IT READS IS OF BULK AT MOST 1048576: true; the input reads as it did. -/
def recordBackUptoRow : OpenClaim := { program := "ytnpbgjafahhadaadoor", sum := "1a511e89a2dd83e0947a5bf187492431918094b4c9e17168e4b9adee3de53ddc", func := "lighter/lighterlaw10.RecordBack", spec := "recordBack", inPlace := ["internal/abi.NoEscape", "internal/bytealg.MakeNoZero"], unfollowed := true, recurses := true, named := ["lighter/crc.fourBits"], apart := false, laid := [("lighter/crc.fourBits", laid_lighter_crc_fourBits)], narrowed := true }
def RecordBackUptoSaid : Prop := recordBackUptoRow.holds Tryd.pinned (OpenSpec.upto recordBackSpec)

/-- 'lighterlaw10.RecordTold', WHERE WHAT IT READS IS OF BULK AT MOST 1048576: true; the input reads as it did. -/
def recordToldUptoRow : OpenClaim := { program := "ytnpbgjafahhadaadoor", sum := "1a511e89a2dd83e0947a5bf187492431918094b4c9e17168e4b9adee3de53ddc", func := "lighter/lighterlaw10.RecordTold", spec := "recordTold", inPlace := ["internal/abi.NoEscape", "internal/bytealg.MakeNoZero"], unfollowed := true, recurses := true, named := ["lighter/crc.fourBits"], apart := false, laid := [("lighter/crc.fourBits", laid_lighter_crc_fourBits)], narrowed := true }
def RecordToldUptoSaid : Prop := recordToldUptoRow.holds Tryd.pinned (OpenSpec.upto recordToldSpec)

/-- 'lighterlaw10.RecordOne', WHERE WHAT IT READS IS OF BULK AT MOST 1048576: true; the input reads as it did. -/
def recordOneUptoRow : OpenClaim := { program := "ytnpbgjafahhadaadoor", sum := "1a511e89a2dd83e0947a5bf187492431918094b4c9e17168e4b9adee3de53ddc", func := "lighter/lighterlaw10.RecordOne", spec := "recordOne", inPlace := ["internal/abi.NoEscape", "internal/bytealg.MakeNoZero"], unfollowed := true, recurses := true, named := ["lighter/crc.fourBits"], apart := false, laid := [("lighter/crc.fourBits", laid_lighter_crc_fourBits)], narrowed := true }
def RecordOneUptoSaid : Prop := recordOneUptoRow.holds Tryd.pinned (OpenSpec.upto recordOneSpec)

/-- 'lighterlaw10.RecordPairs', WHERE WHAT IT READS IS OF BULK AT MOST 1048576: true; the input reads as it did. -/
def recordPairsUptoRow : OpenClaim := { program := "ytnpbgjafahhadaadoor", sum := "1a511e89a2dd83e0947a5bf187492431918094b4c9e17168e4b9adee3de53ddc", func := "lighter/lighterlaw10.RecordPairs", spec := "recordPairs", inPlace := ["internal/abi.NoEscape", "internal/bytealg.MakeNoZero"], unfollowed := true, recurses := true, named := ["lighter/crc.fourBits"], apart := false, laid := [("lighter/crc.fourBits", laid_lighter_crc_fourBits)], narrowed := true }
def RecordPairsUptoSaid : Prop := recordPairsUptoRow.holds Tryd.pinned (OpenSpec.upto recordPairsSpec)

end Rows
end Go.Proofs.YtnpbgjafahhadaaDoor
