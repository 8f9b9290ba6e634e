/-
  DERIVED. GIVEN WITH THE SEED: THE CARDS: each row of YtnpbgjafahhadaaDoorRows.lean that lists a variable, with what it lists TIED to the program's text (the seventh form; the later family's looks); each row that meets fmt, with fmt's text TOLD by the authors' own Lean function (tested against real Go, not proved from fmt's source: count such statements apart). THE CARD IS WHAT COUNTS. Prove the row's statement (the work); the ties are given (YtnpbgjafahhadaaDoorTie.lean); close each card by the builder's one call (the guide's Derived/Test/ToyasCard.lean, 'card_holds'). Laid BY PROGRAM, IN A SANDBOX (cutbox-door.mjs). By AI agents, Wed Nov 11 2026. No macro, syntax, notation, axiom, sorry.
-/
import Derived.Test.YtnpbgjafahhadaaDoorRows
import GoSem.ClaimSeven
namespace Go.Proofs.YtnpbgjafahhadaaDoor
namespace Rows

/-- THE TIED CARD OF 'lighterlaw10.RecordWrites'. -/
def recordWritesCard : Claim7 := { stood := { row := recordWritesRow, standIns := [], harness := (true, "367a496c1eb0d329ee514a2e6bb613796cb26f00918ea6f3b6645863c70112b2"), looks := false }, kinds := [], alts := [], laidByText := true, laidKinds := [.data], laidTests := true, laidLooks := .later }
def RecordWritesCardSaid : Prop := Claim7.holds Tryd.pinned (.plain (OpenSpec.ofChange recordWritesSpec)) recordWritesCard

/-- THE TIED CARD OF 'lighterlaw10.RecordReads'. -/
def recordReadsCard : Claim7 := { stood := { row := recordReadsRow, standIns := [], harness := (true, "367a496c1eb0d329ee514a2e6bb613796cb26f00918ea6f3b6645863c70112b2"), looks := false }, kinds := [], alts := [], laidByText := true, laidKinds := [.data], laidTests := true, laidLooks := .later }
def RecordReadsCardSaid : Prop := Claim7.holds Tryd.pinned (.plain (OpenSpec.ofChange recordReadsSpec)) recordReadsCard

/-- THE TIED CARD OF 'lighterlaw10.RecordBack'. -/
def recordBackCard : Claim7 := { stood := { row := recordBackRow, standIns := [], harness := (true, "367a496c1eb0d329ee514a2e6bb613796cb26f00918ea6f3b6645863c70112b2"), looks := false }, kinds := [], alts := [], laidByText := true, laidKinds := [.data], laidTests := true, laidLooks := .later }
def RecordBackCardSaid : Prop := Claim7.holds Tryd.pinned (.plain (OpenSpec.ofChange recordBackSpec)) recordBackCard

/-- THE TIED CARD OF 'lighterlaw10.RecordTold'. -/
def recordToldCard : Claim7 := { stood := { row := recordToldRow, standIns := [], harness := (true, "367a496c1eb0d329ee514a2e6bb613796cb26f00918ea6f3b6645863c70112b2"), looks := false }, kinds := [], alts := [], laidByText := true, laidKinds := [.data], laidTests := true, laidLooks := .later }
def RecordToldCardSaid : Prop := Claim7.holds Tryd.pinned (.plain (OpenSpec.ofChange recordToldSpec)) recordToldCard

/-- THE TIED CARD OF 'lighterlaw10.RecordOne'. -/
def recordOneCard : Claim7 := { stood := { row := recordOneRow, standIns := [], harness := (true, "367a496c1eb0d329ee514a2e6bb613796cb26f00918ea6f3b6645863c70112b2"), looks := false }, kinds := [], alts := [], laidByText := true, laidKinds := [.data], laidTests := true, laidLooks := .later }
def RecordOneCardSaid : Prop := Claim7.holds Tryd.pinned (.plain (OpenSpec.ofChange recordOneSpec)) recordOneCard

/-- THE TIED CARD OF 'lighterlaw10.RecordPairs'. -/
def recordPairsCard : Claim7 := { stood := { row := recordPairsRow, standIns := [], harness := (true, "367a496c1eb0d329ee514a2e6bb613796cb26f00918ea6f3b6645863c70112b2"), looks := false }, kinds := [], alts := [], laidByText := true, laidKinds := [.data], laidTests := true, laidLooks := .later }
def RecordPairsCardSaid : Prop := Claim7.holds Tryd.pinned (.plain (OpenSpec.ofChange recordPairsSpec)) recordPairsCard

/-- THE SECOND FORM's CARD OF 'lighterlaw10.RecordWrites'. -/
def recordWritesUptoCard : Claim7 := { stood := { row := recordWritesUptoRow, standIns := [], harness := (true, "367a496c1eb0d329ee514a2e6bb613796cb26f00918ea6f3b6645863c70112b2"), looks := false }, kinds := [], alts := [], laidByText := true, laidKinds := [.data], laidTests := true, laidLooks := .later }
def RecordWritesUptoCardSaid : Prop := Claim7.holds Tryd.pinned (.plain (OpenSpec.upto recordWritesSpec)) recordWritesUptoCard

/-- THE SECOND FORM's CARD OF 'lighterlaw10.RecordReads'. -/
def recordReadsUptoCard : Claim7 := { stood := { row := recordReadsUptoRow, standIns := [], harness := (true, "367a496c1eb0d329ee514a2e6bb613796cb26f00918ea6f3b6645863c70112b2"), looks := false }, kinds := [], alts := [], laidByText := true, laidKinds := [.data], laidTests := true, laidLooks := .later }
def RecordReadsUptoCardSaid : Prop := Claim7.holds Tryd.pinned (.plain (OpenSpec.upto recordReadsSpec)) recordReadsUptoCard

/-- THE SECOND FORM's CARD OF 'lighterlaw10.RecordBack'. -/
def recordBackUptoCard : Claim7 := { stood := { row := recordBackUptoRow, standIns := [], harness := (true, "367a496c1eb0d329ee514a2e6bb613796cb26f00918ea6f3b6645863c70112b2"), looks := false }, kinds := [], alts := [], laidByText := true, laidKinds := [.data], laidTests := true, laidLooks := .later }
def RecordBackUptoCardSaid : Prop := Claim7.holds Tryd.pinned (.plain (OpenSpec.upto recordBackSpec)) recordBackUptoCard

/-- THE SECOND FORM's CARD OF 'lighterlaw10.RecordTold'. -/
def recordToldUptoCard : Claim7 := { stood := { row := recordToldUptoRow, standIns := [], harness := (true, "367a496c1eb0d329ee514a2e6bb613796cb26f00918ea6f3b6645863c70112b2"), looks := false }, kinds := [], alts := [], laidByText := true, laidKinds := [.data], laidTests := true, laidLooks := .later }
def RecordToldUptoCardSaid : Prop := Claim7.holds Tryd.pinned (.plain (OpenSpec.upto recordToldSpec)) recordToldUptoCard

/-- THE SECOND FORM's CARD OF 'lighterlaw10.RecordOne'. -/
def recordOneUptoCard : Claim7 := { stood := { row := recordOneUptoRow, standIns := [], harness := (true, "367a496c1eb0d329ee514a2e6bb613796cb26f00918ea6f3b6645863c70112b2"), looks := false }, kinds := [], alts := [], laidByText := true, laidKinds := [.data], laidTests := true, laidLooks := .later }
def RecordOneUptoCardSaid : Prop := Claim7.holds Tryd.pinned (.plain (OpenSpec.upto recordOneSpec)) recordOneUptoCard

/-- THE SECOND FORM's CARD OF 'lighterlaw10.RecordPairs'. -/
def recordPairsUptoCard : Claim7 := { stood := { row := recordPairsUptoRow, standIns := [], harness := (true, "367a496c1eb0d329ee514a2e6bb613796cb26f00918ea6f3b6645863c70112b2"), looks := false }, kinds := [], alts := [], laidByText := true, laidKinds := [.data], laidTests := true, laidLooks := .later }
def RecordPairsUptoCardSaid : Prop := Claim7.holds Tryd.pinned (.plain (OpenSpec.upto recordPairsSpec)) recordPairsUptoCard
end Rows
end Go.Proofs.YtnpbgjafahhadaaDoor
