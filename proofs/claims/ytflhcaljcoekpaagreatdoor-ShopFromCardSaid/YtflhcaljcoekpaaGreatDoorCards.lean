/-
  DERIVED. GIVEN WITH THE SEED: THE CARDS: each row of YtflhcaljcoekpaaGreatDoorRows.lean that lists a variable, with what it lists TIED to the program's text (the seventh form; the later family's looks); each row that meets fmt, with fmt's text TOLD by the authors' own Lean function (tested against real Go, not proved from fmt's source: count such statements apart). THE CARD IS WHAT COUNTS. Prove the row's statement (the work); the ties are given (YtflhcaljcoekpaaGreatDoorTie.lean); close each card by the builder's one call (the guide's Derived/Test/ToyasCard.lean, 'card_holds'). Laid BY PROGRAM, IN A SANDBOX (cutbox-door.mjs). By AI agents, Wed Nov 11 2026. No macro, syntax, notation, axiom, sorry.
-/
import Derived.Test.YtflhcaljcoekpaaGreatDoorRows
import GoSem.ClaimSeven
namespace Go.Proofs.YtflhcaljcoekpaaGreatDoor
namespace Rows

/-- THE TIED CARD OF 'linchpinlaw14.IndexPrints'. -/
def indexPrintsCard : Claim7 := { stood := { row := indexPrintsRow, standIns := [], harness := (true, "50871fe411d0697fd11fa540781012dfcedd7d33caa6ef14cd27aae5eaa8ebe3"), looks := false }, kinds := [], alts := [], laidByText := true, laidKinds := [.data, .data, .data, .data, .data, .data, .pinned], laidTests := true, laidLooks := .later }
def IndexPrintsCardSaid : Prop := Claim7.holds Tryz.pinned (.plain (OpenSpec.ofChange indexPrintsSpec)) indexPrintsCard

/-- THE TIED CARD OF 'linchpinlaw14.IndexBack'. -/
def indexBackCard : Claim7 := { stood := { row := indexBackRow, standIns := [], harness := (true, "50871fe411d0697fd11fa540781012dfcedd7d33caa6ef14cd27aae5eaa8ebe3"), looks := false }, kinds := [], alts := [], laidByText := true, laidKinds := [.data, .data, .data, .data, .data, .data, .pinned], laidTests := true, laidLooks := .later }
def IndexBackCardSaid : Prop := Claim7.holds Tryz.pinned (.plain (OpenSpec.ofChange indexBackSpec)) indexBackCard

/-- THE TIED CARD OF 'linchpinlaw14.IndexSums'. -/
def indexSumsCard : Claim7 := { stood := { row := indexSumsRow, standIns := [], harness := (true, "50871fe411d0697fd11fa540781012dfcedd7d33caa6ef14cd27aae5eaa8ebe3"), looks := false }, kinds := [], alts := [], laidByText := true, laidKinds := [.data, .data, .data, .data, .data, .data, .pinned], laidTests := true, laidLooks := .later }
def IndexSumsCardSaid : Prop := Claim7.holds Tryz.pinned (.plain (OpenSpec.ofChange indexSumsSpec)) indexSumsCard

/-- THE TIED CARD OF 'linchpinlaw14.IndexGrows'. -/
def indexGrowsCard : Claim7 := { stood := { row := indexGrowsRow, standIns := [], harness := (true, "50871fe411d0697fd11fa540781012dfcedd7d33caa6ef14cd27aae5eaa8ebe3"), looks := false }, kinds := [], alts := [], laidByText := true, laidKinds := [.data, .data, .data, .data, .data, .data, .pinned], laidTests := true, laidLooks := .later }
def IndexGrowsCardSaid : Prop := Claim7.holds Tryz.pinned (.plain (OpenSpec.ofChange indexGrowsSpec)) indexGrowsCard

/-- THE TIED CARD OF 'linchpinlaw15.ShopRaw'. -/
def shopRawCard : Claim7 := { stood := { row := shopRawRow, standIns := [], harness := (true, "50871fe411d0697fd11fa540781012dfcedd7d33caa6ef14cd27aae5eaa8ebe3"), looks := false }, kinds := [], alts := [], laidByText := true, laidKinds := [.data, .data, .data, .data, .data, .pinned], laidTests := true, laidLooks := .later }
def ShopRawCardSaid : Prop := Claim7.holds Tryz.pinned (.plain (OpenSpec.ofChange shopRawSpec)) shopRawCard

/-- THE TIED CARD OF 'linchpinlaw15.ShopFrom'. -/
def shopFromCard : Claim7 := { stood := { row := shopFromRow, standIns := [], harness := (true, "50871fe411d0697fd11fa540781012dfcedd7d33caa6ef14cd27aae5eaa8ebe3"), looks := false }, kinds := [], alts := [], laidByText := true, laidKinds := [.data, .data, .data, .data, .data, .pinned], laidTests := true, laidLooks := .later }
def ShopFromCardSaid : Prop := Claim7.holds Tryz.pinned (.plain (OpenSpec.ofChange shopFromSpec)) shopFromCard

/-- THE TIED CARD OF 'linchpinlaw15.ShopLater'. -/
def shopLaterCard : Claim7 := { stood := { row := shopLaterRow, standIns := [], harness := (true, "50871fe411d0697fd11fa540781012dfcedd7d33caa6ef14cd27aae5eaa8ebe3"), looks := false }, kinds := [], alts := [], laidByText := true, laidKinds := [.data, .data, .data, .data, .data, .pinned], laidTests := true, laidLooks := .later }
def ShopLaterCardSaid : Prop := Claim7.holds Tryz.pinned (.plain (OpenSpec.ofChange shopLaterSpec)) shopLaterCard

/-- THE TIED CARD OF 'linchpinlaw15.ShopPinned'. -/
def shopPinnedCard : Claim7 := { stood := { row := shopPinnedRow, standIns := [], harness := (true, "50871fe411d0697fd11fa540781012dfcedd7d33caa6ef14cd27aae5eaa8ebe3"), looks := false }, kinds := [], alts := [], laidByText := true, laidKinds := [.data, .data, .data, .data, .data, .pinned], laidTests := true, laidLooks := .later }
def ShopPinnedCardSaid : Prop := Claim7.holds Tryz.pinned (.plain (OpenSpec.ofChange shopPinnedSpec)) shopPinnedCard

/-- THE SECOND FORM's CARD OF 'linchpinlaw14.IndexPrints'. -/
def indexPrintsUptoCard : Claim7 := { stood := { row := indexPrintsUptoRow, standIns := [], harness := (true, "50871fe411d0697fd11fa540781012dfcedd7d33caa6ef14cd27aae5eaa8ebe3"), looks := false }, kinds := [], alts := [], laidByText := true, laidKinds := [.data, .data, .data, .data, .data, .data, .pinned], laidTests := true, laidLooks := .later }
def IndexPrintsUptoCardSaid : Prop := Claim7.holds Tryz.pinned (.plain (OpenSpec.upto indexPrintsSpec)) indexPrintsUptoCard

/-- THE SECOND FORM's CARD OF 'linchpinlaw14.IndexBack'. -/
def indexBackUptoCard : Claim7 := { stood := { row := indexBackUptoRow, standIns := [], harness := (true, "50871fe411d0697fd11fa540781012dfcedd7d33caa6ef14cd27aae5eaa8ebe3"), looks := false }, kinds := [], alts := [], laidByText := true, laidKinds := [.data, .data, .data, .data, .data, .data, .pinned], laidTests := true, laidLooks := .later }
def IndexBackUptoCardSaid : Prop := Claim7.holds Tryz.pinned (.plain (OpenSpec.upto indexBackSpec)) indexBackUptoCard

/-- THE SECOND FORM's CARD OF 'linchpinlaw14.IndexSums'. -/
def indexSumsUptoCard : Claim7 := { stood := { row := indexSumsUptoRow, standIns := [], harness := (true, "50871fe411d0697fd11fa540781012dfcedd7d33caa6ef14cd27aae5eaa8ebe3"), looks := false }, kinds := [], alts := [], laidByText := true, laidKinds := [.data, .data, .data, .data, .data, .data, .pinned], laidTests := true, laidLooks := .later }
def IndexSumsUptoCardSaid : Prop := Claim7.holds Tryz.pinned (.plain (OpenSpec.upto indexSumsSpec)) indexSumsUptoCard

/-- THE SECOND FORM's CARD OF 'linchpinlaw14.IndexGrows'. -/
def indexGrowsUptoCard : Claim7 := { stood := { row := indexGrowsUptoRow, standIns := [], harness := (true, "50871fe411d0697fd11fa540781012dfcedd7d33caa6ef14cd27aae5eaa8ebe3"), looks := false }, kinds := [], alts := [], laidByText := true, laidKinds := [.data, .data, .data, .data, .data, .data, .pinned], laidTests := true, laidLooks := .later }
def IndexGrowsUptoCardSaid : Prop := Claim7.holds Tryz.pinned (.plain (OpenSpec.upto indexGrowsSpec)) indexGrowsUptoCard

/-- THE SECOND FORM's CARD OF 'linchpinlaw15.ShopRaw'. -/
def shopRawUptoCard : Claim7 := { stood := { row := shopRawUptoRow, standIns := [], harness := (true, "50871fe411d0697fd11fa540781012dfcedd7d33caa6ef14cd27aae5eaa8ebe3"), looks := false }, kinds := [], alts := [], laidByText := true, laidKinds := [.data, .data, .data, .data, .data, .pinned], laidTests := true, laidLooks := .later }
def ShopRawUptoCardSaid : Prop := Claim7.holds Tryz.pinned (.plain (OpenSpec.upto shopRawSpec)) shopRawUptoCard

/-- THE SECOND FORM's CARD OF 'linchpinlaw15.ShopFrom'. -/
def shopFromUptoCard : Claim7 := { stood := { row := shopFromUptoRow, standIns := [], harness := (true, "50871fe411d0697fd11fa540781012dfcedd7d33caa6ef14cd27aae5eaa8ebe3"), looks := false }, kinds := [], alts := [], laidByText := true, laidKinds := [.data, .data, .data, .data, .data, .pinned], laidTests := true, laidLooks := .later }
def ShopFromUptoCardSaid : Prop := Claim7.holds Tryz.pinned (.plain (OpenSpec.upto shopFromSpec)) shopFromUptoCard

/-- THE SECOND FORM's CARD OF 'linchpinlaw15.ShopLater'. -/
def shopLaterUptoCard : Claim7 := { stood := { row := shopLaterUptoRow, standIns := [], harness := (true, "50871fe411d0697fd11fa540781012dfcedd7d33caa6ef14cd27aae5eaa8ebe3"), looks := false }, kinds := [], alts := [], laidByText := true, laidKinds := [.data, .data, .data, .data, .data, .pinned], laidTests := true, laidLooks := .later }
def ShopLaterUptoCardSaid : Prop := Claim7.holds Tryz.pinned (.plain (OpenSpec.upto shopLaterSpec)) shopLaterUptoCard

/-- THE SECOND FORM's CARD OF 'linchpinlaw15.ShopPinned'. -/
def shopPinnedUptoCard : Claim7 := { stood := { row := shopPinnedUptoRow, standIns := [], harness := (true, "50871fe411d0697fd11fa540781012dfcedd7d33caa6ef14cd27aae5eaa8ebe3"), looks := false }, kinds := [], alts := [], laidByText := true, laidKinds := [.data, .data, .data, .data, .data, .pinned], laidTests := true, laidLooks := .later }
def ShopPinnedUptoCardSaid : Prop := Claim7.holds Tryz.pinned (.plain (OpenSpec.upto shopPinnedSpec)) shopPinnedUptoCard
end Rows
end Go.Proofs.YtflhcaljcoekpaaGreatDoor
