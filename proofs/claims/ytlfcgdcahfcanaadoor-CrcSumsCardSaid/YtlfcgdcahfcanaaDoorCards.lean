/-
  DERIVED. GIVEN WITH THE SEED: THE CARDS: each row of YtlfcgdcahfcanaaDoorRows.lean that lists a variable, with what it lists TIED to the program's text (the seventh form; the later family's looks); each row that meets fmt, with fmt's text TOLD by the authors' own Lean function (tested against real Go, not proved from fmt's source: count such statements apart). THE CARD IS WHAT COUNTS. Prove the row's statement (the work); the ties are given (YtlfcgdcahfcanaaDoorTie.lean); close each card by the builder's one call (the guide's Derived/Test/ToyasCard.lean, 'card_holds'). Laid BY PROGRAM, IN A SANDBOX (cutbox-door.mjs). By AI agents, Wed Nov 11 2026. No macro, syntax, notation, axiom, sorry.
-/
import Derived.Test.YtlfcgdcahfcanaaDoorRows
import GoSem.ClaimSeven
namespace Go.Proofs.YtlfcgdcahfcanaaDoor
namespace Rows

/-- THE TIED CARD OF 'chartularylaw02.CrcSums'. -/
def crcSumsCard : Claim7 := { stood := { row := crcSumsRow, standIns := [], harness := (true, "7350ad7b1650ce9c966176ea5e4e6026816c600b0b3d21462042f71e506a7b0e"), looks := false }, kinds := [], alts := [], laidByText := true, laidKinds := [.data], laidTests := true, laidLooks := .later }
def CrcSumsCardSaid : Prop := Claim7.holds Tryd.pinned (.plain (OpenSpec.ofChange crcSumsSpec)) crcSumsCard

/-- THE TIED CARD OF 'chartularylaw02.CrcMores'. -/
def crcMoresCard : Claim7 := { stood := { row := crcMoresRow, standIns := [], harness := (true, "7350ad7b1650ce9c966176ea5e4e6026816c600b0b3d21462042f71e506a7b0e"), looks := false }, kinds := [], alts := [], laidByText := true, laidKinds := [.data], laidTests := true, laidLooks := .later }
def CrcMoresCardSaid : Prop := Claim7.holds Tryd.pinned (.plain (OpenSpec.ofChange crcMoresSpec)) crcMoresCard

/-- THE TIED CARD OF 'chartularylaw02.CrcZeros'. -/
def crcZerosCard : Claim7 := { stood := { row := crcZerosRow, standIns := [], harness := (true, "7350ad7b1650ce9c966176ea5e4e6026816c600b0b3d21462042f71e506a7b0e"), looks := false }, kinds := [], alts := [], laidByText := true, laidKinds := [.data], laidTests := true, laidLooks := .later }
def CrcZerosCardSaid : Prop := Claim7.holds Tryd.pinned (.plain (OpenSpec.ofChange crcZerosSpec)) crcZerosCard

/-- THE TIED CARD OF 'chartularylaw02.CrcJoins'. -/
def crcJoinsCard : Claim7 := { stood := { row := crcJoinsRow, standIns := [], harness := (true, "7350ad7b1650ce9c966176ea5e4e6026816c600b0b3d21462042f71e506a7b0e"), looks := false }, kinds := [], alts := [], laidByText := true, laidKinds := [.data], laidTests := true, laidLooks := .later }
def CrcJoinsCardSaid : Prop := Claim7.holds Tryd.pinned (.plain (OpenSpec.ofChange crcJoinsSpec)) crcJoinsCard

/-- THE TIED CARD OF 'chartularylaw02.CrcGreat'. -/
def crcGreatCard : Claim7 := { stood := { row := crcGreatRow, standIns := [], harness := (true, "7350ad7b1650ce9c966176ea5e4e6026816c600b0b3d21462042f71e506a7b0e"), looks := false }, kinds := [], alts := [], laidByText := true, laidKinds := [.data], laidTests := true, laidLooks := .later }
def CrcGreatCardSaid : Prop := Claim7.holds Tryd.pinned (.plain (OpenSpec.ofChange crcGreatSpec)) crcGreatCard

/-- THE TIED CARD OF 'chartularylaw02.CrcFinds'. -/
def crcFindsCard : Claim7 := { stood := { row := crcFindsRow, standIns := [], harness := (true, "7350ad7b1650ce9c966176ea5e4e6026816c600b0b3d21462042f71e506a7b0e"), looks := false }, kinds := [], alts := [], laidByText := true, laidKinds := [.data], laidTests := true, laidLooks := .later }
def CrcFindsCardSaid : Prop := Claim7.holds Tryd.pinned (.plain (OpenSpec.ofChange crcFindsSpec)) crcFindsCard

/-- THE SECOND FORM's CARD OF 'chartularylaw02.CrcSums'. -/
def crcSumsUptoCard : Claim7 := { stood := { row := crcSumsUptoRow, standIns := [], harness := (true, "7350ad7b1650ce9c966176ea5e4e6026816c600b0b3d21462042f71e506a7b0e"), looks := false }, kinds := [], alts := [], laidByText := true, laidKinds := [.data], laidTests := true, laidLooks := .later }
def CrcSumsUptoCardSaid : Prop := Claim7.holds Tryd.pinned (.plain (OpenSpec.upto crcSumsSpec)) crcSumsUptoCard

/-- THE SECOND FORM's CARD OF 'chartularylaw02.CrcMores'. -/
def crcMoresUptoCard : Claim7 := { stood := { row := crcMoresUptoRow, standIns := [], harness := (true, "7350ad7b1650ce9c966176ea5e4e6026816c600b0b3d21462042f71e506a7b0e"), looks := false }, kinds := [], alts := [], laidByText := true, laidKinds := [.data], laidTests := true, laidLooks := .later }
def CrcMoresUptoCardSaid : Prop := Claim7.holds Tryd.pinned (.plain (OpenSpec.upto crcMoresSpec)) crcMoresUptoCard

/-- THE SECOND FORM's CARD OF 'chartularylaw02.CrcZeros'. -/
def crcZerosUptoCard : Claim7 := { stood := { row := crcZerosUptoRow, standIns := [], harness := (true, "7350ad7b1650ce9c966176ea5e4e6026816c600b0b3d21462042f71e506a7b0e"), looks := false }, kinds := [], alts := [], laidByText := true, laidKinds := [.data], laidTests := true, laidLooks := .later }
def CrcZerosUptoCardSaid : Prop := Claim7.holds Tryd.pinned (.plain (OpenSpec.upto crcZerosSpec)) crcZerosUptoCard

/-- THE SECOND FORM's CARD OF 'chartularylaw02.CrcJoins'. -/
def crcJoinsUptoCard : Claim7 := { stood := { row := crcJoinsUptoRow, standIns := [], harness := (true, "7350ad7b1650ce9c966176ea5e4e6026816c600b0b3d21462042f71e506a7b0e"), looks := false }, kinds := [], alts := [], laidByText := true, laidKinds := [.data], laidTests := true, laidLooks := .later }
def CrcJoinsUptoCardSaid : Prop := Claim7.holds Tryd.pinned (.plain (OpenSpec.upto crcJoinsSpec)) crcJoinsUptoCard

/-- THE SECOND FORM's CARD OF 'chartularylaw02.CrcGreat'. -/
def crcGreatUptoCard : Claim7 := { stood := { row := crcGreatUptoRow, standIns := [], harness := (true, "7350ad7b1650ce9c966176ea5e4e6026816c600b0b3d21462042f71e506a7b0e"), looks := false }, kinds := [], alts := [], laidByText := true, laidKinds := [.data], laidTests := true, laidLooks := .later }
def CrcGreatUptoCardSaid : Prop := Claim7.holds Tryd.pinned (.plain (OpenSpec.upto crcGreatSpec)) crcGreatUptoCard

/-- THE SECOND FORM's CARD OF 'chartularylaw02.CrcFinds'. -/
def crcFindsUptoCard : Claim7 := { stood := { row := crcFindsUptoRow, standIns := [], harness := (true, "7350ad7b1650ce9c966176ea5e4e6026816c600b0b3d21462042f71e506a7b0e"), looks := false }, kinds := [], alts := [], laidByText := true, laidKinds := [.data], laidTests := true, laidLooks := .later }
def CrcFindsUptoCardSaid : Prop := Claim7.holds Tryd.pinned (.plain (OpenSpec.upto crcFindsSpec)) crcFindsUptoCard
end Rows
end Go.Proofs.YtlfcgdcahfcanaaDoor
