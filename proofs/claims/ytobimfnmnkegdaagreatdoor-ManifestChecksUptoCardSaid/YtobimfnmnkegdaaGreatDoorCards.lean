/-
  DERIVED. GIVEN WITH THE SEED: THE CARDS: each row of YtobimfnmnkegdaaGreatDoorRows.lean that lists a variable, with what it lists TIED to the program's text (the seventh form; the later family's looks); each row that meets fmt, with fmt's text TOLD by the authors' own Lean function (tested against real Go, not proved from fmt's source: count such statements apart). THE CARD IS WHAT COUNTS. Prove the row's statement (the work); the ties are given (YtobimfnmnkegdaaGreatDoorTie.lean); close each card by the builder's one call (the guide's Derived/Test/ToyasCard.lean, 'card_holds'). Laid BY PROGRAM, IN A SANDBOX (cutbox-door.mjs). By AI agents, Wed Nov 11 2026. No macro, syntax, notation, axiom, sorry.
-/
import Derived.Test.YtobimfnmnkegdaaGreatDoorRows
import GoSem.ClaimSeven
namespace Go.Proofs.YtobimfnmnkegdaaGreatDoor
namespace Rows

/-- THE TIED CARD OF 'linchpinlaw12.RecordReads'. -/
def recordReadsCard : Claim7 := { stood := { row := recordReadsRow, standIns := [], harness := (true, "63969860792c0d2fbded61f9001d37ab247041c028e04b8d7c4f85c555e937a9"), looks := false }, kinds := [], alts := [], laidByText := true, laidKinds := [.data, .data, .data, .data, .data, .data, .pinned], laidTests := true, laidLooks := .later }
def RecordReadsCardSaid : Prop := Claim7.holds Tryz.pinned (.plain (OpenSpec.ofChange recordReadsSpec)) recordReadsCard

/-- THE TIED CARD OF 'linchpinlaw12.RecordBent'. -/
def recordBentCard : Claim7 := { stood := { row := recordBentRow, standIns := [], harness := (true, "63969860792c0d2fbded61f9001d37ab247041c028e04b8d7c4f85c555e937a9"), looks := false }, kinds := [], alts := [], laidByText := true, laidKinds := [.data, .data, .data, .data, .data, .data, .pinned], laidTests := true, laidLooks := .later }
def RecordBentCardSaid : Prop := Claim7.holds Tryz.pinned (.plain (OpenSpec.ofChange recordBentSpec)) recordBentCard

/-- THE TIED CARD OF 'linchpinlaw16.ManifestChecks'. -/
def manifestChecksCard : Claim7 := { stood := { row := manifestChecksRow, standIns := [], harness := (true, "63969860792c0d2fbded61f9001d37ab247041c028e04b8d7c4f85c555e937a9"), looks := false }, kinds := [], alts := [], laidByText := true, laidKinds := [.data, .data, .data, .data, .data, .data, .pinned], laidTests := true, laidLooks := .later }
def ManifestChecksCardSaid : Prop := Claim7.holds Tryz.pinned (.plain (OpenSpec.ofChange manifestChecksSpec)) manifestChecksCard

/-- THE TIED CARD OF 'linchpinlaw16.ManifestReads'. -/
def manifestReadsCard : Claim7 := { stood := { row := manifestReadsRow, standIns := [], harness := (true, "63969860792c0d2fbded61f9001d37ab247041c028e04b8d7c4f85c555e937a9"), looks := false }, kinds := [], alts := [], laidByText := true, laidKinds := [.data, .data, .data, .data, .data, .data, .pinned], laidTests := true, laidLooks := .later }
def ManifestReadsCardSaid : Prop := Claim7.holds Tryz.pinned (.plain (OpenSpec.ofChange manifestReadsSpec)) manifestReadsCard

/-- THE TIED CARD OF 'linchpinlaw16.ManifestBent'. -/
def manifestBentCard : Claim7 := { stood := { row := manifestBentRow, standIns := [], harness := (true, "63969860792c0d2fbded61f9001d37ab247041c028e04b8d7c4f85c555e937a9"), looks := false }, kinds := [], alts := [], laidByText := true, laidKinds := [.data, .data, .data, .data, .data, .data, .pinned], laidTests := true, laidLooks := .later }
def ManifestBentCardSaid : Prop := Claim7.holds Tryz.pinned (.plain (OpenSpec.ofChange manifestBentSpec)) manifestBentCard

/-- THE TIED CARD OF 'linchpinlaw16.ManifestBack'. -/
def manifestBackCard : Claim7 := { stood := { row := manifestBackRow, standIns := [], harness := (true, "63969860792c0d2fbded61f9001d37ab247041c028e04b8d7c4f85c555e937a9"), looks := false }, kinds := [], alts := [], laidByText := true, laidKinds := [.data, .data, .data, .data, .data, .data, .pinned], laidTests := true, laidLooks := .later }
def ManifestBackCardSaid : Prop := Claim7.holds Tryz.pinned (.plain (OpenSpec.ofChange manifestBackSpec)) manifestBackCard

/-- THE TIED CARD OF 'linchpinlaw16.ManifestRises'. -/
def manifestRisesCard : Claim7 := { stood := { row := manifestRisesRow, standIns := [], harness := (true, "63969860792c0d2fbded61f9001d37ab247041c028e04b8d7c4f85c555e937a9"), looks := false }, kinds := [], alts := [], laidByText := true, laidKinds := [.data, .data, .data, .data, .data, .data, .pinned], laidTests := true, laidLooks := .later }
def ManifestRisesCardSaid : Prop := Claim7.holds Tryz.pinned (.plain (OpenSpec.ofChange manifestRisesSpec)) manifestRisesCard

/-- THE SECOND FORM's CARD OF 'linchpinlaw12.RecordReads'. -/
def recordReadsUptoCard : Claim7 := { stood := { row := recordReadsUptoRow, standIns := [], harness := (true, "63969860792c0d2fbded61f9001d37ab247041c028e04b8d7c4f85c555e937a9"), looks := false }, kinds := [], alts := [], laidByText := true, laidKinds := [.data, .data, .data, .data, .data, .data, .pinned], laidTests := true, laidLooks := .later }
def RecordReadsUptoCardSaid : Prop := Claim7.holds Tryz.pinned (.plain (OpenSpec.upto recordReadsSpec)) recordReadsUptoCard

/-- THE SECOND FORM's CARD OF 'linchpinlaw12.RecordBent'. -/
def recordBentUptoCard : Claim7 := { stood := { row := recordBentUptoRow, standIns := [], harness := (true, "63969860792c0d2fbded61f9001d37ab247041c028e04b8d7c4f85c555e937a9"), looks := false }, kinds := [], alts := [], laidByText := true, laidKinds := [.data, .data, .data, .data, .data, .data, .pinned], laidTests := true, laidLooks := .later }
def RecordBentUptoCardSaid : Prop := Claim7.holds Tryz.pinned (.plain (OpenSpec.upto recordBentSpec)) recordBentUptoCard

/-- THE SECOND FORM's CARD OF 'linchpinlaw16.ManifestChecks'. -/
def manifestChecksUptoCard : Claim7 := { stood := { row := manifestChecksUptoRow, standIns := [], harness := (true, "63969860792c0d2fbded61f9001d37ab247041c028e04b8d7c4f85c555e937a9"), looks := false }, kinds := [], alts := [], laidByText := true, laidKinds := [.data, .data, .data, .data, .data, .data, .pinned], laidTests := true, laidLooks := .later }
def ManifestChecksUptoCardSaid : Prop := Claim7.holds Tryz.pinned (.plain (OpenSpec.upto manifestChecksSpec)) manifestChecksUptoCard

/-- THE SECOND FORM's CARD OF 'linchpinlaw16.ManifestReads'. -/
def manifestReadsUptoCard : Claim7 := { stood := { row := manifestReadsUptoRow, standIns := [], harness := (true, "63969860792c0d2fbded61f9001d37ab247041c028e04b8d7c4f85c555e937a9"), looks := false }, kinds := [], alts := [], laidByText := true, laidKinds := [.data, .data, .data, .data, .data, .data, .pinned], laidTests := true, laidLooks := .later }
def ManifestReadsUptoCardSaid : Prop := Claim7.holds Tryz.pinned (.plain (OpenSpec.upto manifestReadsSpec)) manifestReadsUptoCard

/-- THE SECOND FORM's CARD OF 'linchpinlaw16.ManifestBent'. -/
def manifestBentUptoCard : Claim7 := { stood := { row := manifestBentUptoRow, standIns := [], harness := (true, "63969860792c0d2fbded61f9001d37ab247041c028e04b8d7c4f85c555e937a9"), looks := false }, kinds := [], alts := [], laidByText := true, laidKinds := [.data, .data, .data, .data, .data, .data, .pinned], laidTests := true, laidLooks := .later }
def ManifestBentUptoCardSaid : Prop := Claim7.holds Tryz.pinned (.plain (OpenSpec.upto manifestBentSpec)) manifestBentUptoCard

/-- THE SECOND FORM's CARD OF 'linchpinlaw16.ManifestBack'. -/
def manifestBackUptoCard : Claim7 := { stood := { row := manifestBackUptoRow, standIns := [], harness := (true, "63969860792c0d2fbded61f9001d37ab247041c028e04b8d7c4f85c555e937a9"), looks := false }, kinds := [], alts := [], laidByText := true, laidKinds := [.data, .data, .data, .data, .data, .data, .pinned], laidTests := true, laidLooks := .later }
def ManifestBackUptoCardSaid : Prop := Claim7.holds Tryz.pinned (.plain (OpenSpec.upto manifestBackSpec)) manifestBackUptoCard

/-- THE SECOND FORM's CARD OF 'linchpinlaw16.ManifestRises'. -/
def manifestRisesUptoCard : Claim7 := { stood := { row := manifestRisesUptoRow, standIns := [], harness := (true, "63969860792c0d2fbded61f9001d37ab247041c028e04b8d7c4f85c555e937a9"), looks := false }, kinds := [], alts := [], laidByText := true, laidKinds := [.data, .data, .data, .data, .data, .data, .pinned], laidTests := true, laidLooks := .later }
def ManifestRisesUptoCardSaid : Prop := Claim7.holds Tryz.pinned (.plain (OpenSpec.upto manifestRisesSpec)) manifestRisesUptoCard
end Rows
end Go.Proofs.YtobimfnmnkegdaaGreatDoor
