/-
  DERIVED. GIVEN WITH THE SEED: THE CARDS: each row of YtiekhkapgjdblaaGreatDoorRows.lean that lists a variable, with what it lists TIED to the program's text (the seventh form; the later family's looks); each row that meets fmt, with fmt's text TOLD by the authors' own Lean function (tested against real Go, not proved from fmt's source: count such statements apart). THE CARD IS WHAT COUNTS. Prove the row's statement (the work); the ties are given (YtiekhkapgjdblaaGreatDoorTie.lean); close each card by the builder's one call (the guide's Derived/Test/ToyasCard.lean, 'card_holds'). Laid BY PROGRAM, IN A SANDBOX (cutbox-door.mjs). By AI agents, Wed Nov 11 2026. No macro, syntax, notation, axiom, sorry.
-/
import Derived.Test.YtiekhkapgjdblaaGreatDoorRows
import GoSem.ClaimSeven
namespace Go.Proofs.YtiekhkapgjdblaaGreatDoor
namespace Rows

/-- THE TIED CARD OF 'linchpinlaw8.TellPrints'. -/
def tellPrintsCard : Claim7 := { stood := { row := tellPrintsRow, standIns := [], harness := (true, "27868a23a835e547e2afcb4e0e1452aafdffb72498ba35c7ef46be6ed660d23a"), looks := false }, kinds := [], alts := [], laidByText := true, laidKinds := [.data, .data, .data, .data, .pinned], laidTests := true, laidLooks := .later }
def TellPrintsCardSaid : Prop := Claim7.holds Tryz.pinned (.plain (OpenSpec.ofChange tellPrintsSpec)) tellPrintsCard

/-- THE TIED CARD OF 'linchpinlaw8.TellReads'. -/
def tellReadsCard : Claim7 := { stood := { row := tellReadsRow, standIns := [], harness := (true, "27868a23a835e547e2afcb4e0e1452aafdffb72498ba35c7ef46be6ed660d23a"), looks := false }, kinds := [], alts := [], laidByText := true, laidKinds := [.data, .data, .data, .data, .pinned], laidTests := true, laidLooks := .later }
def TellReadsCardSaid : Prop := Claim7.holds Tryz.pinned (.plain (OpenSpec.ofChange tellReadsSpec)) tellReadsCard

/-- THE TIED CARD OF 'linchpinlaw8.TellBack'. -/
def tellBackCard : Claim7 := { stood := { row := tellBackRow, standIns := [], harness := (true, "27868a23a835e547e2afcb4e0e1452aafdffb72498ba35c7ef46be6ed660d23a"), looks := false }, kinds := [], alts := [], laidByText := true, laidKinds := [.data, .data, .data, .data, .pinned], laidTests := true, laidLooks := .later }
def TellBackCardSaid : Prop := Claim7.holds Tryz.pinned (.plain (OpenSpec.ofChange tellBackSpec)) tellBackCard

/-- THE TIED CARD OF 'linchpinlaw8.TellUnlike'. -/
def tellUnlikeCard : Claim7 := { stood := { row := tellUnlikeRow, standIns := [], harness := (true, "27868a23a835e547e2afcb4e0e1452aafdffb72498ba35c7ef46be6ed660d23a"), looks := false }, kinds := [], alts := [], laidByText := true, laidKinds := [.data, .data, .data, .data, .pinned], laidTests := true, laidLooks := .later }
def TellUnlikeCardSaid : Prop := Claim7.holds Tryz.pinned (.plain (OpenSpec.ofChange tellUnlikeSpec)) tellUnlikeCard

/-- THE TIED CARD OF 'linchpinlaw8.TellScopes'. -/
def tellScopesCard : Claim7 := { stood := { row := tellScopesRow, standIns := [], harness := (true, "27868a23a835e547e2afcb4e0e1452aafdffb72498ba35c7ef46be6ed660d23a"), looks := false }, kinds := [], alts := [], laidByText := true, laidKinds := [.data, .data, .data, .data, .pinned], laidTests := true, laidLooks := .later }
def TellScopesCardSaid : Prop := Claim7.holds Tryz.pinned (.plain (OpenSpec.ofChange tellScopesSpec)) tellScopesCard

/-- THE TIED CARD OF 'linchpinlaw8.TellParts'. -/
def tellPartsCard : Claim7 := { stood := { row := tellPartsRow, standIns := [], harness := (true, "27868a23a835e547e2afcb4e0e1452aafdffb72498ba35c7ef46be6ed660d23a"), looks := false }, kinds := [], alts := [], laidByText := true, laidKinds := [.data, .data, .data, .data, .pinned], laidTests := true, laidLooks := .later }
def TellPartsCardSaid : Prop := Claim7.holds Tryz.pinned (.plain (OpenSpec.ofChange tellPartsSpec)) tellPartsCard

/-- THE SECOND FORM's CARD OF 'linchpinlaw8.TellPrints'. -/
def tellPrintsUptoCard : Claim7 := { stood := { row := tellPrintsUptoRow, standIns := [], harness := (true, "27868a23a835e547e2afcb4e0e1452aafdffb72498ba35c7ef46be6ed660d23a"), looks := false }, kinds := [], alts := [], laidByText := true, laidKinds := [.data, .data, .data, .data, .pinned], laidTests := true, laidLooks := .later }
def TellPrintsUptoCardSaid : Prop := Claim7.holds Tryz.pinned (.plain (OpenSpec.upto tellPrintsSpec)) tellPrintsUptoCard

/-- THE SECOND FORM's CARD OF 'linchpinlaw8.TellReads'. -/
def tellReadsUptoCard : Claim7 := { stood := { row := tellReadsUptoRow, standIns := [], harness := (true, "27868a23a835e547e2afcb4e0e1452aafdffb72498ba35c7ef46be6ed660d23a"), looks := false }, kinds := [], alts := [], laidByText := true, laidKinds := [.data, .data, .data, .data, .pinned], laidTests := true, laidLooks := .later }
def TellReadsUptoCardSaid : Prop := Claim7.holds Tryz.pinned (.plain (OpenSpec.upto tellReadsSpec)) tellReadsUptoCard

/-- THE SECOND FORM's CARD OF 'linchpinlaw8.TellBack'. -/
def tellBackUptoCard : Claim7 := { stood := { row := tellBackUptoRow, standIns := [], harness := (true, "27868a23a835e547e2afcb4e0e1452aafdffb72498ba35c7ef46be6ed660d23a"), looks := false }, kinds := [], alts := [], laidByText := true, laidKinds := [.data, .data, .data, .data, .pinned], laidTests := true, laidLooks := .later }
def TellBackUptoCardSaid : Prop := Claim7.holds Tryz.pinned (.plain (OpenSpec.upto tellBackSpec)) tellBackUptoCard

/-- THE SECOND FORM's CARD OF 'linchpinlaw8.TellUnlike'. -/
def tellUnlikeUptoCard : Claim7 := { stood := { row := tellUnlikeUptoRow, standIns := [], harness := (true, "27868a23a835e547e2afcb4e0e1452aafdffb72498ba35c7ef46be6ed660d23a"), looks := false }, kinds := [], alts := [], laidByText := true, laidKinds := [.data, .data, .data, .data, .pinned], laidTests := true, laidLooks := .later }
def TellUnlikeUptoCardSaid : Prop := Claim7.holds Tryz.pinned (.plain (OpenSpec.upto tellUnlikeSpec)) tellUnlikeUptoCard

/-- THE SECOND FORM's CARD OF 'linchpinlaw8.TellScopes'. -/
def tellScopesUptoCard : Claim7 := { stood := { row := tellScopesUptoRow, standIns := [], harness := (true, "27868a23a835e547e2afcb4e0e1452aafdffb72498ba35c7ef46be6ed660d23a"), looks := false }, kinds := [], alts := [], laidByText := true, laidKinds := [.data, .data, .data, .data, .pinned], laidTests := true, laidLooks := .later }
def TellScopesUptoCardSaid : Prop := Claim7.holds Tryz.pinned (.plain (OpenSpec.upto tellScopesSpec)) tellScopesUptoCard

/-- THE SECOND FORM's CARD OF 'linchpinlaw8.TellParts'. -/
def tellPartsUptoCard : Claim7 := { stood := { row := tellPartsUptoRow, standIns := [], harness := (true, "27868a23a835e547e2afcb4e0e1452aafdffb72498ba35c7ef46be6ed660d23a"), looks := false }, kinds := [], alts := [], laidByText := true, laidKinds := [.data, .data, .data, .data, .pinned], laidTests := true, laidLooks := .later }
def TellPartsUptoCardSaid : Prop := Claim7.holds Tryz.pinned (.plain (OpenSpec.upto tellPartsSpec)) tellPartsUptoCard
end Rows
end Go.Proofs.YtiekhkapgjdblaaGreatDoor
