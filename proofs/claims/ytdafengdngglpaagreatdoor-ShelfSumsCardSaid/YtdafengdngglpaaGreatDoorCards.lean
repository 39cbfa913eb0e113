/-
  DERIVED. GIVEN WITH THE SEED: THE CARDS: each row of YtdafengdngglpaaGreatDoorRows.lean that lists a variable, with what it lists TIED to the program's text (the seventh form; the later family's looks); each row that meets fmt, with fmt's text TOLD by the authors' own Lean function (tested against real Go, not proved from fmt's source: count such statements apart). THE CARD IS WHAT COUNTS. Prove the row's statement (the work); the ties are given (YtdafengdngglpaaGreatDoorTie.lean); close each card by the builder's one call (the guide's Derived/Test/ToyasCard.lean, 'card_holds'). Laid BY PROGRAM, IN A SANDBOX (cutbox-door.mjs). By AI agents, Wed Nov 11 2026. No macro, syntax, notation, axiom, sorry.
-/
import Derived.Test.YtdafengdngglpaaGreatDoorRows
import GoSem.ClaimSeven
namespace Go.Proofs.YtdafengdngglpaaGreatDoor
namespace Rows

/-- THE TIED CARD OF 'linchpinlaw12.RecordReads'. -/
def recordReadsCard : Claim7 := { stood := { row := recordReadsRow, standIns := [], harness := (true, "1fa19a7f8e23913f675901d9a17a5ca4b0c62f79834b8c49d68ef21ff17d3742"), looks := false }, kinds := [], alts := [], laidByText := true, laidKinds := [.data, .data, .data, .data, .data, .data, .pinned], laidTests := true, laidLooks := .later }
def RecordReadsCardSaid : Prop := Claim7.holds Tryz.pinned (.plain (OpenSpec.ofChange recordReadsSpec)) recordReadsCard

/-- THE TIED CARD OF 'linchpinlaw12.RecordBent'. -/
def recordBentCard : Claim7 := { stood := { row := recordBentRow, standIns := [], harness := (true, "1fa19a7f8e23913f675901d9a17a5ca4b0c62f79834b8c49d68ef21ff17d3742"), looks := false }, kinds := [], alts := [], laidByText := true, laidKinds := [.data, .data, .data, .data, .data, .data, .pinned], laidTests := true, laidLooks := .later }
def RecordBentCardSaid : Prop := Claim7.holds Tryz.pinned (.plain (OpenSpec.ofChange recordBentSpec)) recordBentCard

/-- THE TIED CARD OF 'linchpinlaw13.ShelfRaw'. -/
def shelfRawCard : Claim7 := { stood := { row := shelfRawRow, standIns := [], harness := (true, "1fa19a7f8e23913f675901d9a17a5ca4b0c62f79834b8c49d68ef21ff17d3742"), looks := false }, kinds := [], alts := [], laidByText := true, laidKinds := [.data, .data, .data, .data, .data, .pinned], laidTests := true, laidLooks := .later }
def ShelfRawCardSaid : Prop := Claim7.holds Tryz.pinned (.plain (OpenSpec.ofChange shelfRawSpec)) shelfRawCard

/-- THE TIED CARD OF 'linchpinlaw13.ShelfPuts'. -/
def shelfPutsCard : Claim7 := { stood := { row := shelfPutsRow, standIns := [], harness := (true, "1fa19a7f8e23913f675901d9a17a5ca4b0c62f79834b8c49d68ef21ff17d3742"), looks := false }, kinds := [], alts := [], laidByText := true, laidKinds := [.data, .data, .data, .data, .data, .pinned], laidTests := true, laidLooks := .later }
def ShelfPutsCardSaid : Prop := Claim7.holds Tryz.pinned (.plain (OpenSpec.ofChange shelfPutsSpec)) shelfPutsCard

/-- THE TIED CARD OF 'linchpinlaw13.ShelfGrown'. -/
def shelfGrownCard : Claim7 := { stood := { row := shelfGrownRow, standIns := [], harness := (true, "1fa19a7f8e23913f675901d9a17a5ca4b0c62f79834b8c49d68ef21ff17d3742"), looks := false }, kinds := [], alts := [], laidByText := true, laidKinds := [.data, .data, .data, .data, .data, .pinned], laidTests := true, laidLooks := .later }
def ShelfGrownCardSaid : Prop := Claim7.holds Tryz.pinned (.plain (OpenSpec.ofChange shelfGrownSpec)) shelfGrownCard

/-- THE TIED CARD OF 'linchpinlaw13.ShelfSums'. -/
def shelfSumsCard : Claim7 := { stood := { row := shelfSumsRow, standIns := [], harness := (true, "1fa19a7f8e23913f675901d9a17a5ca4b0c62f79834b8c49d68ef21ff17d3742"), looks := false }, kinds := [], alts := [], laidByText := true, laidKinds := [.data, .data, .data, .data, .data, .pinned], laidTests := true, laidLooks := .later }
def ShelfSumsCardSaid : Prop := Claim7.holds Tryz.pinned (.plain (OpenSpec.ofChange shelfSumsSpec)) shelfSumsCard

/-- THE TIED CARD OF 'linchpinlaw14.IndexPrints'. -/
def indexPrintsCard : Claim7 := { stood := { row := indexPrintsRow, standIns := [], harness := (true, "1fa19a7f8e23913f675901d9a17a5ca4b0c62f79834b8c49d68ef21ff17d3742"), looks := false }, kinds := [], alts := [], laidByText := true, laidKinds := [.data, .data, .data, .data, .data, .data, .pinned], laidTests := true, laidLooks := .later }
def IndexPrintsCardSaid : Prop := Claim7.holds Tryz.pinned (.plain (OpenSpec.ofChange indexPrintsSpec)) indexPrintsCard

/-- THE TIED CARD OF 'linchpinlaw14.IndexReads'. -/
def indexReadsCard : Claim7 := { stood := { row := indexReadsRow, standIns := [], harness := (true, "1fa19a7f8e23913f675901d9a17a5ca4b0c62f79834b8c49d68ef21ff17d3742"), looks := false }, kinds := [], alts := [], laidByText := true, laidKinds := [.data, .data, .data, .data, .data, .data, .pinned], laidTests := true, laidLooks := .later }
def IndexReadsCardSaid : Prop := Claim7.holds Tryz.pinned (.plain (OpenSpec.ofChange indexReadsSpec)) indexReadsCard

/-- THE TIED CARD OF 'linchpinlaw14.IndexBent'. -/
def indexBentCard : Claim7 := { stood := { row := indexBentRow, standIns := [], harness := (true, "1fa19a7f8e23913f675901d9a17a5ca4b0c62f79834b8c49d68ef21ff17d3742"), looks := false }, kinds := [], alts := [], laidByText := true, laidKinds := [.data, .data, .data, .data, .data, .data, .pinned], laidTests := true, laidLooks := .later }
def IndexBentCardSaid : Prop := Claim7.holds Tryz.pinned (.plain (OpenSpec.ofChange indexBentSpec)) indexBentCard

/-- THE TIED CARD OF 'linchpinlaw14.IndexBack'. -/
def indexBackCard : Claim7 := { stood := { row := indexBackRow, standIns := [], harness := (true, "1fa19a7f8e23913f675901d9a17a5ca4b0c62f79834b8c49d68ef21ff17d3742"), looks := false }, kinds := [], alts := [], laidByText := true, laidKinds := [.data, .data, .data, .data, .data, .data, .pinned], laidTests := true, laidLooks := .later }
def IndexBackCardSaid : Prop := Claim7.holds Tryz.pinned (.plain (OpenSpec.ofChange indexBackSpec)) indexBackCard

/-- THE TIED CARD OF 'linchpinlaw14.IndexSums'. -/
def indexSumsCard : Claim7 := { stood := { row := indexSumsRow, standIns := [], harness := (true, "1fa19a7f8e23913f675901d9a17a5ca4b0c62f79834b8c49d68ef21ff17d3742"), looks := false }, kinds := [], alts := [], laidByText := true, laidKinds := [.data, .data, .data, .data, .data, .data, .pinned], laidTests := true, laidLooks := .later }
def IndexSumsCardSaid : Prop := Claim7.holds Tryz.pinned (.plain (OpenSpec.ofChange indexSumsSpec)) indexSumsCard

/-- THE TIED CARD OF 'linchpinlaw14.IndexGrows'. -/
def indexGrowsCard : Claim7 := { stood := { row := indexGrowsRow, standIns := [], harness := (true, "1fa19a7f8e23913f675901d9a17a5ca4b0c62f79834b8c49d68ef21ff17d3742"), looks := false }, kinds := [], alts := [], laidByText := true, laidKinds := [.data, .data, .data, .data, .data, .data, .pinned], laidTests := true, laidLooks := .later }
def IndexGrowsCardSaid : Prop := Claim7.holds Tryz.pinned (.plain (OpenSpec.ofChange indexGrowsSpec)) indexGrowsCard

/-- THE SECOND FORM's CARD OF 'linchpinlaw12.RecordReads'. -/
def recordReadsUptoCard : Claim7 := { stood := { row := recordReadsUptoRow, standIns := [], harness := (true, "1fa19a7f8e23913f675901d9a17a5ca4b0c62f79834b8c49d68ef21ff17d3742"), looks := false }, kinds := [], alts := [], laidByText := true, laidKinds := [.data, .data, .data, .data, .data, .data, .pinned], laidTests := true, laidLooks := .later }
def RecordReadsUptoCardSaid : Prop := Claim7.holds Tryz.pinned (.plain (OpenSpec.upto recordReadsSpec)) recordReadsUptoCard

/-- THE SECOND FORM's CARD OF 'linchpinlaw12.RecordBent'. -/
def recordBentUptoCard : Claim7 := { stood := { row := recordBentUptoRow, standIns := [], harness := (true, "1fa19a7f8e23913f675901d9a17a5ca4b0c62f79834b8c49d68ef21ff17d3742"), looks := false }, kinds := [], alts := [], laidByText := true, laidKinds := [.data, .data, .data, .data, .data, .data, .pinned], laidTests := true, laidLooks := .later }
def RecordBentUptoCardSaid : Prop := Claim7.holds Tryz.pinned (.plain (OpenSpec.upto recordBentSpec)) recordBentUptoCard

/-- THE SECOND FORM's CARD OF 'linchpinlaw13.ShelfRaw'. -/
def shelfRawUptoCard : Claim7 := { stood := { row := shelfRawUptoRow, standIns := [], harness := (true, "1fa19a7f8e23913f675901d9a17a5ca4b0c62f79834b8c49d68ef21ff17d3742"), looks := false }, kinds := [], alts := [], laidByText := true, laidKinds := [.data, .data, .data, .data, .data, .pinned], laidTests := true, laidLooks := .later }
def ShelfRawUptoCardSaid : Prop := Claim7.holds Tryz.pinned (.plain (OpenSpec.upto shelfRawSpec)) shelfRawUptoCard

/-- THE SECOND FORM's CARD OF 'linchpinlaw13.ShelfPuts'. -/
def shelfPutsUptoCard : Claim7 := { stood := { row := shelfPutsUptoRow, standIns := [], harness := (true, "1fa19a7f8e23913f675901d9a17a5ca4b0c62f79834b8c49d68ef21ff17d3742"), looks := false }, kinds := [], alts := [], laidByText := true, laidKinds := [.data, .data, .data, .data, .data, .pinned], laidTests := true, laidLooks := .later }
def ShelfPutsUptoCardSaid : Prop := Claim7.holds Tryz.pinned (.plain (OpenSpec.upto shelfPutsSpec)) shelfPutsUptoCard

/-- THE SECOND FORM's CARD OF 'linchpinlaw13.ShelfGrown'. -/
def shelfGrownUptoCard : Claim7 := { stood := { row := shelfGrownUptoRow, standIns := [], harness := (true, "1fa19a7f8e23913f675901d9a17a5ca4b0c62f79834b8c49d68ef21ff17d3742"), looks := false }, kinds := [], alts := [], laidByText := true, laidKinds := [.data, .data, .data, .data, .data, .pinned], laidTests := true, laidLooks := .later }
def ShelfGrownUptoCardSaid : Prop := Claim7.holds Tryz.pinned (.plain (OpenSpec.upto shelfGrownSpec)) shelfGrownUptoCard

/-- THE SECOND FORM's CARD OF 'linchpinlaw13.ShelfSums'. -/
def shelfSumsUptoCard : Claim7 := { stood := { row := shelfSumsUptoRow, standIns := [], harness := (true, "1fa19a7f8e23913f675901d9a17a5ca4b0c62f79834b8c49d68ef21ff17d3742"), looks := false }, kinds := [], alts := [], laidByText := true, laidKinds := [.data, .data, .data, .data, .data, .pinned], laidTests := true, laidLooks := .later }
def ShelfSumsUptoCardSaid : Prop := Claim7.holds Tryz.pinned (.plain (OpenSpec.upto shelfSumsSpec)) shelfSumsUptoCard

/-- THE SECOND FORM's CARD OF 'linchpinlaw14.IndexPrints'. -/
def indexPrintsUptoCard : Claim7 := { stood := { row := indexPrintsUptoRow, standIns := [], harness := (true, "1fa19a7f8e23913f675901d9a17a5ca4b0c62f79834b8c49d68ef21ff17d3742"), looks := false }, kinds := [], alts := [], laidByText := true, laidKinds := [.data, .data, .data, .data, .data, .data, .pinned], laidTests := true, laidLooks := .later }
def IndexPrintsUptoCardSaid : Prop := Claim7.holds Tryz.pinned (.plain (OpenSpec.upto indexPrintsSpec)) indexPrintsUptoCard

/-- THE SECOND FORM's CARD OF 'linchpinlaw14.IndexReads'. -/
def indexReadsUptoCard : Claim7 := { stood := { row := indexReadsUptoRow, standIns := [], harness := (true, "1fa19a7f8e23913f675901d9a17a5ca4b0c62f79834b8c49d68ef21ff17d3742"), looks := false }, kinds := [], alts := [], laidByText := true, laidKinds := [.data, .data, .data, .data, .data, .data, .pinned], laidTests := true, laidLooks := .later }
def IndexReadsUptoCardSaid : Prop := Claim7.holds Tryz.pinned (.plain (OpenSpec.upto indexReadsSpec)) indexReadsUptoCard

/-- THE SECOND FORM's CARD OF 'linchpinlaw14.IndexBent'. -/
def indexBentUptoCard : Claim7 := { stood := { row := indexBentUptoRow, standIns := [], harness := (true, "1fa19a7f8e23913f675901d9a17a5ca4b0c62f79834b8c49d68ef21ff17d3742"), looks := false }, kinds := [], alts := [], laidByText := true, laidKinds := [.data, .data, .data, .data, .data, .data, .pinned], laidTests := true, laidLooks := .later }
def IndexBentUptoCardSaid : Prop := Claim7.holds Tryz.pinned (.plain (OpenSpec.upto indexBentSpec)) indexBentUptoCard

/-- THE SECOND FORM's CARD OF 'linchpinlaw14.IndexBack'. -/
def indexBackUptoCard : Claim7 := { stood := { row := indexBackUptoRow, standIns := [], harness := (true, "1fa19a7f8e23913f675901d9a17a5ca4b0c62f79834b8c49d68ef21ff17d3742"), looks := false }, kinds := [], alts := [], laidByText := true, laidKinds := [.data, .data, .data, .data, .data, .data, .pinned], laidTests := true, laidLooks := .later }
def IndexBackUptoCardSaid : Prop := Claim7.holds Tryz.pinned (.plain (OpenSpec.upto indexBackSpec)) indexBackUptoCard

/-- THE SECOND FORM's CARD OF 'linchpinlaw14.IndexSums'. -/
def indexSumsUptoCard : Claim7 := { stood := { row := indexSumsUptoRow, standIns := [], harness := (true, "1fa19a7f8e23913f675901d9a17a5ca4b0c62f79834b8c49d68ef21ff17d3742"), looks := false }, kinds := [], alts := [], laidByText := true, laidKinds := [.data, .data, .data, .data, .data, .data, .pinned], laidTests := true, laidLooks := .later }
def IndexSumsUptoCardSaid : Prop := Claim7.holds Tryz.pinned (.plain (OpenSpec.upto indexSumsSpec)) indexSumsUptoCard

/-- THE SECOND FORM's CARD OF 'linchpinlaw14.IndexGrows'. -/
def indexGrowsUptoCard : Claim7 := { stood := { row := indexGrowsUptoRow, standIns := [], harness := (true, "1fa19a7f8e23913f675901d9a17a5ca4b0c62f79834b8c49d68ef21ff17d3742"), looks := false }, kinds := [], alts := [], laidByText := true, laidKinds := [.data, .data, .data, .data, .data, .data, .pinned], laidTests := true, laidLooks := .later }
def IndexGrowsUptoCardSaid : Prop := Claim7.holds Tryz.pinned (.plain (OpenSpec.upto indexGrowsSpec)) indexGrowsUptoCard
end Rows
end Go.Proofs.YtdafengdngglpaaGreatDoor
