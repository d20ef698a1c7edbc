/-
  DERIVED. GIVEN WITH THE SEED: THE CARDS: each row of YtbfgkogmojnilaaDoorRows.lean that lists a variable, with what it lists TIED to the program's text (the seventh form; the later family's looks); each row that meets fmt, with fmt's text TOLD by the authors' own Lean function (tested against real Go, not proved from fmt's source: count such statements apart). THE CARD IS WHAT COUNTS. Prove the row's statement (the work); the ties are given (YtbfgkogmojnilaaDoorTie.lean); close each card by the builder's one call (the guide's Derived/Test/ToyasCard.lean, 'card_holds'). Laid BY PROGRAM, IN A SANDBOX (cutbox-door.mjs). By AI agents, Wed Nov 11 2026. No macro, syntax, notation, axiom, sorry.
-/
import Derived.Test.YtbfgkogmojnilaaDoorRows
import GoSem.ClaimSeven
namespace Go.Proofs.YtbfgkogmojnilaaDoor
namespace Rows

/-- THE TIED CARD OF 'chartularylaw08.TagsMakes'. -/
def tagsMakesCard : Claim7 := { stood := { row := tagsMakesRow, standIns := [], harness := (true, "569e2a124c4f05e0aaef1b40e635ad7a4627df5e27be46152d00cdbac595534a"), looks := false }, kinds := [], alts := [], laidByText := true, laidKinds := [.data, .pinned], laidTests := true, laidLooks := .later }
def TagsMakesCardSaid : Prop := Claim7.holds Tryd.pinned (.plain (OpenSpec.ofChange tagsMakesSpec)) tagsMakesCard

/-- THE TIED CARD OF 'chartularylaw08.TagsTexts'. -/
def tagsTextsCard : Claim7 := { stood := { row := tagsTextsRow, standIns := [], harness := (true, "569e2a124c4f05e0aaef1b40e635ad7a4627df5e27be46152d00cdbac595534a"), looks := false }, kinds := [], alts := [], laidByText := true, laidKinds := [.data, .pinned], laidTests := true, laidLooks := .later }
def TagsTextsCardSaid : Prop := Claim7.holds Tryd.pinned (.plain (OpenSpec.ofChange tagsTextsSpec)) tagsTextsCard

/-- THE TIED CARD OF 'chartularylaw08.TagsBack'. -/
def tagsBackCard : Claim7 := { stood := { row := tagsBackRow, standIns := [], harness := (true, "569e2a124c4f05e0aaef1b40e635ad7a4627df5e27be46152d00cdbac595534a"), looks := false }, kinds := [], alts := [], laidByText := true, laidKinds := [.data, .pinned], laidTests := true, laidLooks := .later }
def TagsBackCardSaid : Prop := Claim7.holds Tryd.pinned (.plain (OpenSpec.ofChange tagsBackSpec)) tagsBackCard

/-- THE TIED CARD OF 'chartularylaw08.TagsOver'. -/
def tagsOverCard : Claim7 := { stood := { row := tagsOverRow, standIns := [], harness := (true, "569e2a124c4f05e0aaef1b40e635ad7a4627df5e27be46152d00cdbac595534a"), looks := false }, kinds := [], alts := [], laidByText := true, laidKinds := [.data, .pinned], laidTests := true, laidLooks := .later }
def TagsOverCardSaid : Prop := Claim7.holds Tryd.pinned (.plain (OpenSpec.ofChange tagsOverSpec)) tagsOverCard

/-- THE SECOND FORM's CARD OF 'chartularylaw08.TagsMakes'. -/
def tagsMakesUptoCard : Claim7 := { stood := { row := tagsMakesUptoRow, standIns := [], harness := (true, "569e2a124c4f05e0aaef1b40e635ad7a4627df5e27be46152d00cdbac595534a"), looks := false }, kinds := [], alts := [], laidByText := true, laidKinds := [.data, .pinned], laidTests := true, laidLooks := .later }
def TagsMakesUptoCardSaid : Prop := Claim7.holds Tryd.pinned (.plain (OpenSpec.upto tagsMakesSpec)) tagsMakesUptoCard

/-- THE SECOND FORM's CARD OF 'chartularylaw08.TagsTexts'. -/
def tagsTextsUptoCard : Claim7 := { stood := { row := tagsTextsUptoRow, standIns := [], harness := (true, "569e2a124c4f05e0aaef1b40e635ad7a4627df5e27be46152d00cdbac595534a"), looks := false }, kinds := [], alts := [], laidByText := true, laidKinds := [.data, .pinned], laidTests := true, laidLooks := .later }
def TagsTextsUptoCardSaid : Prop := Claim7.holds Tryd.pinned (.plain (OpenSpec.upto tagsTextsSpec)) tagsTextsUptoCard

/-- THE SECOND FORM's CARD OF 'chartularylaw08.TagsBack'. -/
def tagsBackUptoCard : Claim7 := { stood := { row := tagsBackUptoRow, standIns := [], harness := (true, "569e2a124c4f05e0aaef1b40e635ad7a4627df5e27be46152d00cdbac595534a"), looks := false }, kinds := [], alts := [], laidByText := true, laidKinds := [.data, .pinned], laidTests := true, laidLooks := .later }
def TagsBackUptoCardSaid : Prop := Claim7.holds Tryd.pinned (.plain (OpenSpec.upto tagsBackSpec)) tagsBackUptoCard

/-- THE SECOND FORM's CARD OF 'chartularylaw08.TagsOver'. -/
def tagsOverUptoCard : Claim7 := { stood := { row := tagsOverUptoRow, standIns := [], harness := (true, "569e2a124c4f05e0aaef1b40e635ad7a4627df5e27be46152d00cdbac595534a"), looks := false }, kinds := [], alts := [], laidByText := true, laidKinds := [.data, .pinned], laidTests := true, laidLooks := .later }
def TagsOverUptoCardSaid : Prop := Claim7.holds Tryd.pinned (.plain (OpenSpec.upto tagsOverSpec)) tagsOverUptoCard
end Rows
end Go.Proofs.YtbfgkogmojnilaaDoor
