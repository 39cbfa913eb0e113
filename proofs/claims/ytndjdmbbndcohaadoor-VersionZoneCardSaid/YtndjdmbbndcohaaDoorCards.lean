/-
  DERIVED. GIVEN WITH THE SEED: THE CARDS: each row of YtndjdmbbndcohaaDoorRows.lean that lists a variable, with what it lists TIED to the program's text (the seventh form; the later family's looks); each row that meets fmt, with fmt's text TOLD by the authors' own Lean function (tested against real Go, not proved from fmt's source: count such statements apart). THE CARD IS WHAT COUNTS. Prove the row's statement (the work); the ties are given (YtndjdmbbndcohaaDoorTie.lean); close each card by the builder's one call (the guide's Derived/Test/ToyasCard.lean, 'card_holds'). Laid BY PROGRAM, IN A SANDBOX (cutbox-door.mjs). By AI agents, Wed Nov 11 2026. No macro, syntax, notation, axiom, sorry.
-/
import Derived.Test.YtndjdmbbndcohaaDoorRows
import GoSem.ClaimSeven
namespace Go.Proofs.YtndjdmbbndcohaaDoor
namespace Rows

/-- THE TIED CARD OF 'linchpinlaw2.VersionOrder'. -/
def versionOrderCard : Claim7 := { stood := { row := versionOrderRow, standIns := [], harness := (true, "393b772ee1c3a7e568aefcea253ab6e44a40257220f9aaa4c592abd8739cc93e"), looks := false }, kinds := [], alts := [], laidByText := true, laidKinds := [.data, .data, .data], laidTests := true, laidLooks := .later }
def VersionOrderCardSaid : Prop := Claim7.holds Tryd.pinned (.plain (OpenSpec.ofChange versionOrderSpec)) versionOrderCard

/-- THE TIED CARD OF 'linchpinlaw2.VersionZone'. -/
def versionZoneCard : Claim7 := { stood := { row := versionZoneRow, standIns := [], harness := (true, "393b772ee1c3a7e568aefcea253ab6e44a40257220f9aaa4c592abd8739cc93e"), looks := false }, kinds := [], alts := [], laidByText := true, laidKinds := [.data, .data, .data], laidTests := true, laidLooks := .later }
def VersionZoneCardSaid : Prop := Claim7.holds Tryd.pinned (.plain (OpenSpec.ofChange versionZoneSpec)) versionZoneCard

/-- THE SECOND FORM's CARD OF 'linchpinlaw2.VersionOrder'. -/
def versionOrderUptoCard : Claim7 := { stood := { row := versionOrderUptoRow, standIns := [], harness := (true, "393b772ee1c3a7e568aefcea253ab6e44a40257220f9aaa4c592abd8739cc93e"), looks := false }, kinds := [], alts := [], laidByText := true, laidKinds := [.data, .data, .data], laidTests := true, laidLooks := .later }
def VersionOrderUptoCardSaid : Prop := Claim7.holds Tryd.pinned (.plain (OpenSpec.upto versionOrderSpec)) versionOrderUptoCard

/-- THE SECOND FORM's CARD OF 'linchpinlaw2.VersionZone'. -/
def versionZoneUptoCard : Claim7 := { stood := { row := versionZoneUptoRow, standIns := [], harness := (true, "393b772ee1c3a7e568aefcea253ab6e44a40257220f9aaa4c592abd8739cc93e"), looks := false }, kinds := [], alts := [], laidByText := true, laidKinds := [.data, .data, .data], laidTests := true, laidLooks := .later }
def VersionZoneUptoCardSaid : Prop := Claim7.holds Tryd.pinned (.plain (OpenSpec.upto versionZoneSpec)) versionZoneUptoCard
end Rows
end Go.Proofs.YtndjdmbbndcohaaDoor
