/-
  DERIVED. GIVEN WITH THE SEED: THE CARDS: each row of YteghandhpbmpgaaGreatDoorRows.lean that lists a variable, with what it lists TIED to the program's text (the seventh form; the later family's looks); each row that meets fmt, with fmt's text TOLD by the authors' own Lean function (tested against real Go, not proved from fmt's source: count such statements apart). THE CARD IS WHAT COUNTS. Prove the row's statement (the work); the ties are given (YteghandhpbmpgaaGreatDoorTie.lean); close each card by the builder's one call (the guide's Derived/Test/ToyasCard.lean, 'card_holds'). Laid BY PROGRAM, IN A SANDBOX (cutbox-door.mjs). By AI agents, Wed Nov 11 2026. No macro, syntax, notation, axiom, sorry.
-/
import Derived.Test.YteghandhpbmpgaaGreatDoorRows
import GoSem.ClaimSeven
namespace Go.Proofs.YteghandhpbmpgaaGreatDoor
namespace Rows

/-- THE TIED CARD OF 'linchpinlaw12.RecordChecks'. -/
def recordChecksCard : Claim7 := { stood := { row := recordChecksRow, standIns := [], harness := (true, "6e491ced3b74c5926c6b36252f39b39f7f20e90e05284afb72eb2beae8454d8e"), looks := false }, kinds := [], alts := [], laidByText := true, laidKinds := [.data, .data, .data, .data, .data, .data, .pinned], laidTests := true, laidLooks := .later }
def RecordChecksCardSaid : Prop := Claim7.holds Tryz.pinned (.plain (OpenSpec.ofChange recordChecksSpec)) recordChecksCard

/-- THE TIED CARD OF 'linchpinlaw12.RecordReads'. -/
def recordReadsCard : Claim7 := { stood := { row := recordReadsRow, standIns := [], harness := (true, "6e491ced3b74c5926c6b36252f39b39f7f20e90e05284afb72eb2beae8454d8e"), looks := false }, kinds := [], alts := [], laidByText := true, laidKinds := [.data, .data, .data, .data, .data, .data, .pinned], laidTests := true, laidLooks := .later }
def RecordReadsCardSaid : Prop := Claim7.holds Tryz.pinned (.plain (OpenSpec.ofChange recordReadsSpec)) recordReadsCard

/-- THE TIED CARD OF 'linchpinlaw12.RecordBent'. -/
def recordBentCard : Claim7 := { stood := { row := recordBentRow, standIns := [], harness := (true, "6e491ced3b74c5926c6b36252f39b39f7f20e90e05284afb72eb2beae8454d8e"), looks := false }, kinds := [], alts := [], laidByText := true, laidKinds := [.data, .data, .data, .data, .data, .data, .pinned], laidTests := true, laidLooks := .later }
def RecordBentCardSaid : Prop := Claim7.holds Tryz.pinned (.plain (OpenSpec.ofChange recordBentSpec)) recordBentCard

/-- THE TIED CARD OF 'linchpinlaw13.ShelfRaw'. -/
def shelfRawCard : Claim7 := { stood := { row := shelfRawRow, standIns := [], harness := (true, "6e491ced3b74c5926c6b36252f39b39f7f20e90e05284afb72eb2beae8454d8e"), looks := false }, kinds := [], alts := [], laidByText := true, laidKinds := [.data, .data, .data, .data, .data, .pinned], laidTests := true, laidLooks := .later }
def ShelfRawCardSaid : Prop := Claim7.holds Tryz.pinned (.plain (OpenSpec.ofChange shelfRawSpec)) shelfRawCard

/-- THE TIED CARD OF 'linchpinlaw13.ShelfPuts'. -/
def shelfPutsCard : Claim7 := { stood := { row := shelfPutsRow, standIns := [], harness := (true, "6e491ced3b74c5926c6b36252f39b39f7f20e90e05284afb72eb2beae8454d8e"), looks := false }, kinds := [], alts := [], laidByText := true, laidKinds := [.data, .data, .data, .data, .data, .pinned], laidTests := true, laidLooks := .later }
def ShelfPutsCardSaid : Prop := Claim7.holds Tryz.pinned (.plain (OpenSpec.ofChange shelfPutsSpec)) shelfPutsCard

/-- THE TIED CARD OF 'linchpinlaw13.ShelfPlays'. -/
def shelfPlaysCard : Claim7 := { stood := { row := shelfPlaysRow, standIns := [], harness := (true, "6e491ced3b74c5926c6b36252f39b39f7f20e90e05284afb72eb2beae8454d8e"), looks := false }, kinds := [], alts := [], laidByText := true, laidKinds := [.data, .data, .data, .data, .data, .pinned], laidTests := true, laidLooks := .later }
def ShelfPlaysCardSaid : Prop := Claim7.holds Tryz.pinned (.plain (OpenSpec.ofChange shelfPlaysSpec)) shelfPlaysCard

/-- THE TIED CARD OF 'linchpinlaw13.ShelfGrown'. -/
def shelfGrownCard : Claim7 := { stood := { row := shelfGrownRow, standIns := [], harness := (true, "6e491ced3b74c5926c6b36252f39b39f7f20e90e05284afb72eb2beae8454d8e"), looks := false }, kinds := [], alts := [], laidByText := true, laidKinds := [.data, .data, .data, .data, .data, .pinned], laidTests := true, laidLooks := .later }
def ShelfGrownCardSaid : Prop := Claim7.holds Tryz.pinned (.plain (OpenSpec.ofChange shelfGrownSpec)) shelfGrownCard

/-- THE TIED CARD OF 'linchpinlaw13.ShelfList'. -/
def shelfListCard : Claim7 := { stood := { row := shelfListRow, standIns := [], harness := (true, "6e491ced3b74c5926c6b36252f39b39f7f20e90e05284afb72eb2beae8454d8e"), looks := false }, kinds := [], alts := [], laidByText := true, laidKinds := [.data, .data, .data, .data, .data, .pinned], laidTests := true, laidLooks := .later }
def ShelfListCardSaid : Prop := Claim7.holds Tryz.pinned (.plain (OpenSpec.ofChange shelfListSpec)) shelfListCard

/-- THE TIED CARD OF 'linchpinlaw13.ShelfSums'. -/
def shelfSumsCard : Claim7 := { stood := { row := shelfSumsRow, standIns := [], harness := (true, "6e491ced3b74c5926c6b36252f39b39f7f20e90e05284afb72eb2beae8454d8e"), looks := false }, kinds := [], alts := [], laidByText := true, laidKinds := [.data, .data, .data, .data, .data, .pinned], laidTests := true, laidLooks := .later }
def ShelfSumsCardSaid : Prop := Claim7.holds Tryz.pinned (.plain (OpenSpec.ofChange shelfSumsSpec)) shelfSumsCard

/-- THE TIED CARD OF 'linchpinlaw13.ShelfTwice'. -/
def shelfTwiceCard : Claim7 := { stood := { row := shelfTwiceRow, standIns := [], harness := (true, "6e491ced3b74c5926c6b36252f39b39f7f20e90e05284afb72eb2beae8454d8e"), looks := false }, kinds := [], alts := [], laidByText := true, laidKinds := [.data, .data, .data, .data, .data, .pinned], laidTests := true, laidLooks := .later }
def ShelfTwiceCardSaid : Prop := Claim7.holds Tryz.pinned (.plain (OpenSpec.ofChange shelfTwiceSpec)) shelfTwiceCard

/-- THE TIED CARD OF 'linchpinlaw13.ShelfTwo'. -/
def shelfTwoCard : Claim7 := { stood := { row := shelfTwoRow, standIns := [], harness := (true, "6e491ced3b74c5926c6b36252f39b39f7f20e90e05284afb72eb2beae8454d8e"), looks := false }, kinds := [], alts := [], laidByText := true, laidKinds := [.data, .data, .data, .data, .data, .pinned], laidTests := true, laidLooks := .later }
def ShelfTwoCardSaid : Prop := Claim7.holds Tryz.pinned (.plain (OpenSpec.ofChange shelfTwoSpec)) shelfTwoCard

/-- THE SECOND FORM's CARD OF 'linchpinlaw12.RecordChecks'. -/
def recordChecksUptoCard : Claim7 := { stood := { row := recordChecksUptoRow, standIns := [], harness := (true, "6e491ced3b74c5926c6b36252f39b39f7f20e90e05284afb72eb2beae8454d8e"), looks := false }, kinds := [], alts := [], laidByText := true, laidKinds := [.data, .data, .data, .data, .data, .data, .pinned], laidTests := true, laidLooks := .later }
def RecordChecksUptoCardSaid : Prop := Claim7.holds Tryz.pinned (.plain (OpenSpec.upto recordChecksSpec)) recordChecksUptoCard

/-- THE SECOND FORM's CARD OF 'linchpinlaw12.RecordReads'. -/
def recordReadsUptoCard : Claim7 := { stood := { row := recordReadsUptoRow, standIns := [], harness := (true, "6e491ced3b74c5926c6b36252f39b39f7f20e90e05284afb72eb2beae8454d8e"), looks := false }, kinds := [], alts := [], laidByText := true, laidKinds := [.data, .data, .data, .data, .data, .data, .pinned], laidTests := true, laidLooks := .later }
def RecordReadsUptoCardSaid : Prop := Claim7.holds Tryz.pinned (.plain (OpenSpec.upto recordReadsSpec)) recordReadsUptoCard

/-- THE SECOND FORM's CARD OF 'linchpinlaw12.RecordBent'. -/
def recordBentUptoCard : Claim7 := { stood := { row := recordBentUptoRow, standIns := [], harness := (true, "6e491ced3b74c5926c6b36252f39b39f7f20e90e05284afb72eb2beae8454d8e"), looks := false }, kinds := [], alts := [], laidByText := true, laidKinds := [.data, .data, .data, .data, .data, .data, .pinned], laidTests := true, laidLooks := .later }
def RecordBentUptoCardSaid : Prop := Claim7.holds Tryz.pinned (.plain (OpenSpec.upto recordBentSpec)) recordBentUptoCard

/-- THE SECOND FORM's CARD OF 'linchpinlaw13.ShelfRaw'. -/
def shelfRawUptoCard : Claim7 := { stood := { row := shelfRawUptoRow, standIns := [], harness := (true, "6e491ced3b74c5926c6b36252f39b39f7f20e90e05284afb72eb2beae8454d8e"), looks := false }, kinds := [], alts := [], laidByText := true, laidKinds := [.data, .data, .data, .data, .data, .pinned], laidTests := true, laidLooks := .later }
def ShelfRawUptoCardSaid : Prop := Claim7.holds Tryz.pinned (.plain (OpenSpec.upto shelfRawSpec)) shelfRawUptoCard

/-- THE SECOND FORM's CARD OF 'linchpinlaw13.ShelfPuts'. -/
def shelfPutsUptoCard : Claim7 := { stood := { row := shelfPutsUptoRow, standIns := [], harness := (true, "6e491ced3b74c5926c6b36252f39b39f7f20e90e05284afb72eb2beae8454d8e"), looks := false }, kinds := [], alts := [], laidByText := true, laidKinds := [.data, .data, .data, .data, .data, .pinned], laidTests := true, laidLooks := .later }
def ShelfPutsUptoCardSaid : Prop := Claim7.holds Tryz.pinned (.plain (OpenSpec.upto shelfPutsSpec)) shelfPutsUptoCard

/-- THE SECOND FORM's CARD OF 'linchpinlaw13.ShelfPlays'. -/
def shelfPlaysUptoCard : Claim7 := { stood := { row := shelfPlaysUptoRow, standIns := [], harness := (true, "6e491ced3b74c5926c6b36252f39b39f7f20e90e05284afb72eb2beae8454d8e"), looks := false }, kinds := [], alts := [], laidByText := true, laidKinds := [.data, .data, .data, .data, .data, .pinned], laidTests := true, laidLooks := .later }
def ShelfPlaysUptoCardSaid : Prop := Claim7.holds Tryz.pinned (.plain (OpenSpec.upto shelfPlaysSpec)) shelfPlaysUptoCard

/-- THE SECOND FORM's CARD OF 'linchpinlaw13.ShelfGrown'. -/
def shelfGrownUptoCard : Claim7 := { stood := { row := shelfGrownUptoRow, standIns := [], harness := (true, "6e491ced3b74c5926c6b36252f39b39f7f20e90e05284afb72eb2beae8454d8e"), looks := false }, kinds := [], alts := [], laidByText := true, laidKinds := [.data, .data, .data, .data, .data, .pinned], laidTests := true, laidLooks := .later }
def ShelfGrownUptoCardSaid : Prop := Claim7.holds Tryz.pinned (.plain (OpenSpec.upto shelfGrownSpec)) shelfGrownUptoCard

/-- THE SECOND FORM's CARD OF 'linchpinlaw13.ShelfList'. -/
def shelfListUptoCard : Claim7 := { stood := { row := shelfListUptoRow, standIns := [], harness := (true, "6e491ced3b74c5926c6b36252f39b39f7f20e90e05284afb72eb2beae8454d8e"), looks := false }, kinds := [], alts := [], laidByText := true, laidKinds := [.data, .data, .data, .data, .data, .pinned], laidTests := true, laidLooks := .later }
def ShelfListUptoCardSaid : Prop := Claim7.holds Tryz.pinned (.plain (OpenSpec.upto shelfListSpec)) shelfListUptoCard

/-- THE SECOND FORM's CARD OF 'linchpinlaw13.ShelfSums'. -/
def shelfSumsUptoCard : Claim7 := { stood := { row := shelfSumsUptoRow, standIns := [], harness := (true, "6e491ced3b74c5926c6b36252f39b39f7f20e90e05284afb72eb2beae8454d8e"), looks := false }, kinds := [], alts := [], laidByText := true, laidKinds := [.data, .data, .data, .data, .data, .pinned], laidTests := true, laidLooks := .later }
def ShelfSumsUptoCardSaid : Prop := Claim7.holds Tryz.pinned (.plain (OpenSpec.upto shelfSumsSpec)) shelfSumsUptoCard

/-- THE SECOND FORM's CARD OF 'linchpinlaw13.ShelfTwice'. -/
def shelfTwiceUptoCard : Claim7 := { stood := { row := shelfTwiceUptoRow, standIns := [], harness := (true, "6e491ced3b74c5926c6b36252f39b39f7f20e90e05284afb72eb2beae8454d8e"), looks := false }, kinds := [], alts := [], laidByText := true, laidKinds := [.data, .data, .data, .data, .data, .pinned], laidTests := true, laidLooks := .later }
def ShelfTwiceUptoCardSaid : Prop := Claim7.holds Tryz.pinned (.plain (OpenSpec.upto shelfTwiceSpec)) shelfTwiceUptoCard

/-- THE SECOND FORM's CARD OF 'linchpinlaw13.ShelfTwo'. -/
def shelfTwoUptoCard : Claim7 := { stood := { row := shelfTwoUptoRow, standIns := [], harness := (true, "6e491ced3b74c5926c6b36252f39b39f7f20e90e05284afb72eb2beae8454d8e"), looks := false }, kinds := [], alts := [], laidByText := true, laidKinds := [.data, .data, .data, .data, .data, .pinned], laidTests := true, laidLooks := .later }
def ShelfTwoUptoCardSaid : Prop := Claim7.holds Tryz.pinned (.plain (OpenSpec.upto shelfTwoSpec)) shelfTwoUptoCard
end Rows
end Go.Proofs.YteghandhpbmpgaaGreatDoor
