/-
  DERIVED. GIVEN WITH THE SEED: THE CARDS: each row of YtjopjffecnflkaaDoorRows.lean that lists a variable, with what it lists TIED to the program's text (the seventh form; the later family's looks); each row that meets fmt, with fmt's text TOLD by the authors' own Lean function (tested against real Go, not proved from fmt's source: count such statements apart). THE CARD IS WHAT COUNTS. Prove the row's statement (the work); the ties are given (YtjopjffecnflkaaDoorTie.lean); close each card by the builder's one call (the guide's Derived/Test/ToyasCard.lean, 'card_holds'). Laid BY PROGRAM, IN A SANDBOX (cutbox-door.mjs). By AI agents, Wed Nov 11 2026. No macro, syntax, notation, axiom, sorry.
-/
import Derived.Test.YtjopjffecnflkaaDoorRows
import GoSem.ClaimSeven
namespace Go.Proofs.YtjopjffecnflkaaDoor
namespace Rows

/-- THE TIED CARD OF 'lighterlaw11.SuperWrites'. -/
def superWritesCard : Claim7 := { stood := { row := superWritesRow, standIns := [], harness := (true, "15b08134712b0b22ad20abea42483e283ac943aa9b9c2ff8d0462f8ea72be5e8"), looks := false }, kinds := [], alts := [], laidByText := true, laidKinds := [.data], laidTests := true, laidLooks := .later }
def SuperWritesCardSaid : Prop := Claim7.holds Tryd.pinned (.plain (OpenSpec.ofChange superWritesSpec)) superWritesCard

/-- THE TIED CARD OF 'lighterlaw11.SuperReads'. -/
def superReadsCard : Claim7 := { stood := { row := superReadsRow, standIns := [], harness := (true, "15b08134712b0b22ad20abea42483e283ac943aa9b9c2ff8d0462f8ea72be5e8"), looks := false }, kinds := [], alts := [], laidByText := true, laidKinds := [.data], laidTests := true, laidLooks := .later }
def SuperReadsCardSaid : Prop := Claim7.holds Tryd.pinned (.plain (OpenSpec.ofChange superReadsSpec)) superReadsCard

/-- THE TIED CARD OF 'lighterlaw11.SuperNext'. -/
def superNextCard : Claim7 := { stood := { row := superNextRow, standIns := [], harness := (true, "15b08134712b0b22ad20abea42483e283ac943aa9b9c2ff8d0462f8ea72be5e8"), looks := false }, kinds := [], alts := [], laidByText := true, laidKinds := [.data], laidTests := true, laidLooks := .later }
def SuperNextCardSaid : Prop := Claim7.holds Tryd.pinned (.plain (OpenSpec.ofChange superNextSpec)) superNextCard

/-- THE TIED CARD OF 'lighterlaw11.SuperBack'. -/
def superBackCard : Claim7 := { stood := { row := superBackRow, standIns := [], harness := (true, "15b08134712b0b22ad20abea42483e283ac943aa9b9c2ff8d0462f8ea72be5e8"), looks := false }, kinds := [], alts := [], laidByText := true, laidKinds := [.data], laidTests := true, laidLooks := .later }
def SuperBackCardSaid : Prop := Claim7.holds Tryd.pinned (.plain (OpenSpec.ofChange superBackSpec)) superBackCard

/-- THE TIED CARD OF 'lighterlaw11.SuperTorn'. -/
def superTornCard : Claim7 := { stood := { row := superTornRow, standIns := [], harness := (true, "15b08134712b0b22ad20abea42483e283ac943aa9b9c2ff8d0462f8ea72be5e8"), looks := false }, kinds := [], alts := [], laidByText := true, laidKinds := [.data], laidTests := true, laidLooks := .later }
def SuperTornCardSaid : Prop := Claim7.holds Tryd.pinned (.plain (OpenSpec.ofChange superTornSpec)) superTornCard

/-- THE TIED CARD OF 'lighterlaw11.SuperRow'. -/
def superRowCard : Claim7 := { stood := { row := superRowRow, standIns := [], harness := (true, "15b08134712b0b22ad20abea42483e283ac943aa9b9c2ff8d0462f8ea72be5e8"), looks := false }, kinds := [], alts := [], laidByText := true, laidKinds := [.data], laidTests := true, laidLooks := .later }
def SuperRowCardSaid : Prop := Claim7.holds Tryd.pinned (.plain (OpenSpec.ofChange superRowSpec)) superRowCard

/-- THE SECOND FORM's CARD OF 'lighterlaw11.SuperWrites'. -/
def superWritesUptoCard : Claim7 := { stood := { row := superWritesUptoRow, standIns := [], harness := (true, "15b08134712b0b22ad20abea42483e283ac943aa9b9c2ff8d0462f8ea72be5e8"), looks := false }, kinds := [], alts := [], laidByText := true, laidKinds := [.data], laidTests := true, laidLooks := .later }
def SuperWritesUptoCardSaid : Prop := Claim7.holds Tryd.pinned (.plain (OpenSpec.upto superWritesSpec)) superWritesUptoCard

/-- THE SECOND FORM's CARD OF 'lighterlaw11.SuperReads'. -/
def superReadsUptoCard : Claim7 := { stood := { row := superReadsUptoRow, standIns := [], harness := (true, "15b08134712b0b22ad20abea42483e283ac943aa9b9c2ff8d0462f8ea72be5e8"), looks := false }, kinds := [], alts := [], laidByText := true, laidKinds := [.data], laidTests := true, laidLooks := .later }
def SuperReadsUptoCardSaid : Prop := Claim7.holds Tryd.pinned (.plain (OpenSpec.upto superReadsSpec)) superReadsUptoCard

/-- THE SECOND FORM's CARD OF 'lighterlaw11.SuperNext'. -/
def superNextUptoCard : Claim7 := { stood := { row := superNextUptoRow, standIns := [], harness := (true, "15b08134712b0b22ad20abea42483e283ac943aa9b9c2ff8d0462f8ea72be5e8"), looks := false }, kinds := [], alts := [], laidByText := true, laidKinds := [.data], laidTests := true, laidLooks := .later }
def SuperNextUptoCardSaid : Prop := Claim7.holds Tryd.pinned (.plain (OpenSpec.upto superNextSpec)) superNextUptoCard

/-- THE SECOND FORM's CARD OF 'lighterlaw11.SuperBack'. -/
def superBackUptoCard : Claim7 := { stood := { row := superBackUptoRow, standIns := [], harness := (true, "15b08134712b0b22ad20abea42483e283ac943aa9b9c2ff8d0462f8ea72be5e8"), looks := false }, kinds := [], alts := [], laidByText := true, laidKinds := [.data], laidTests := true, laidLooks := .later }
def SuperBackUptoCardSaid : Prop := Claim7.holds Tryd.pinned (.plain (OpenSpec.upto superBackSpec)) superBackUptoCard

/-- THE SECOND FORM's CARD OF 'lighterlaw11.SuperTorn'. -/
def superTornUptoCard : Claim7 := { stood := { row := superTornUptoRow, standIns := [], harness := (true, "15b08134712b0b22ad20abea42483e283ac943aa9b9c2ff8d0462f8ea72be5e8"), looks := false }, kinds := [], alts := [], laidByText := true, laidKinds := [.data], laidTests := true, laidLooks := .later }
def SuperTornUptoCardSaid : Prop := Claim7.holds Tryd.pinned (.plain (OpenSpec.upto superTornSpec)) superTornUptoCard

/-- THE SECOND FORM's CARD OF 'lighterlaw11.SuperRow'. -/
def superRowUptoCard : Claim7 := { stood := { row := superRowUptoRow, standIns := [], harness := (true, "15b08134712b0b22ad20abea42483e283ac943aa9b9c2ff8d0462f8ea72be5e8"), looks := false }, kinds := [], alts := [], laidByText := true, laidKinds := [.data], laidTests := true, laidLooks := .later }
def SuperRowUptoCardSaid : Prop := Claim7.holds Tryd.pinned (.plain (OpenSpec.upto superRowSpec)) superRowUptoCard
end Rows
end Go.Proofs.YtjopjffecnflkaaDoor
