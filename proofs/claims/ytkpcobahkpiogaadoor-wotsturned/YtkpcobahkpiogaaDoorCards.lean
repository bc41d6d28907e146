/-
  DERIVED. GIVEN WITH THE SEED: THE CARDS: each row of YtkpcobahkpiogaaDoorRows.lean that lists a variable, with what it lists TIED to the program's text (the seventh form; the later family's looks); each row that meets fmt, with fmt's text TOLD by the authors' own Lean function (tested against real Go, not proved from fmt's source: count such statements apart). THE CARD IS WHAT COUNTS. Prove the row's statement (the work); the ties are given (YtkpcobahkpiogaaDoorTie.lean); close each card by the builder's one call (the guide's Derived/Test/ToyasCard.lean, 'card_holds'). Laid BY PROGRAM, IN A SANDBOX (cutbox-door.mjs). By AI agents, Wed Nov 11 2026. No macro, syntax, notation, axiom, sorry.
-/
import Derived.Test.YtkpcobahkpiogaaDoorRows
import GoSem.ClaimSeven
namespace Go.Proofs.YtkpcobahkpiogaaDoor
namespace Rows

/-- THE TIED CARD OF 'palaverlaw02.ShaSums'. -/
def shaSumsCard : Claim7 := { stood := { row := shaSumsRow, standIns := [], harness := (true, "dd87a34f0fffdc30d3fa929a00eb16626b69615c4049b4dae809e14a45fd2922"), looks := false }, kinds := [], alts := [], laidByText := true, laidKinds := [.data, .data], laidTests := true, laidLooks := .later }
def ShaSumsCardSaid : Prop := Claim7.holds Tryd.pinned (.plain (OpenSpec.ofChange shaSumsSpec)) shaSumsCard

/-- THE TIED CARD OF 'palaverlaw02.ShaTags'. -/
def shaTagsCard : Claim7 := { stood := { row := shaTagsRow, standIns := [], harness := (true, "dd87a34f0fffdc30d3fa929a00eb16626b69615c4049b4dae809e14a45fd2922"), looks := false }, kinds := [], alts := [], laidByText := true, laidKinds := [.data, .data], laidTests := true, laidLooks := .later }
def ShaTagsCardSaid : Prop := Claim7.holds Tryd.pinned (.plain (OpenSpec.ofChange shaTagsSpec)) shaTagsCard

/-- THE TIED CARD OF 'palaverlaw02.ShaClashes'. -/
def shaClashesCard : Claim7 := { stood := { row := shaClashesRow, standIns := [], harness := (true, "dd87a34f0fffdc30d3fa929a00eb16626b69615c4049b4dae809e14a45fd2922"), looks := false }, kinds := [], alts := [], laidByText := true, laidKinds := [.data, .data], laidTests := true, laidLooks := .later }
def ShaClashesCardSaid : Prop := Claim7.holds Tryd.pinned (.plain (OpenSpec.ofChange shaClashesSpec)) shaClashesCard

/-- THE TIED CARD OF 'palaverlaw02.ShaRoots'. -/
def shaRootsCard : Claim7 := { stood := { row := shaRootsRow, standIns := [], harness := (true, "dd87a34f0fffdc30d3fa929a00eb16626b69615c4049b4dae809e14a45fd2922"), looks := false }, kinds := [], alts := [], laidByText := true, laidKinds := [.data, .data], laidTests := true, laidLooks := .later }
def ShaRootsCardSaid : Prop := Claim7.holds Tryd.pinned (.plain (OpenSpec.ofChange shaRootsSpec)) shaRootsCard

/-- THE TIED CARD OF 'palaverlaw03.WotsDigits'. -/
def wotsDigitsCard : Claim7 := { stood := { row := wotsDigitsRow, standIns := [], harness := (true, "dd87a34f0fffdc30d3fa929a00eb16626b69615c4049b4dae809e14a45fd2922"), looks := false }, kinds := [], alts := [], laidByText := true, laidKinds := [.data, .data], laidTests := true, laidLooks := .later }
def WotsDigitsCardSaid : Prop := Claim7.holds Tryd.pinned (.plain (OpenSpec.ofChange wotsDigitsSpec)) wotsDigitsCard

/-- THE TIED CARD OF 'palaverlaw03.WotsChains'. -/
def wotsChainsCard : Claim7 := { stood := { row := wotsChainsRow, standIns := [], harness := (true, "dd87a34f0fffdc30d3fa929a00eb16626b69615c4049b4dae809e14a45fd2922"), looks := false }, kinds := [], alts := [], laidByText := true, laidKinds := [.data, .data], laidTests := true, laidLooks := .later }
def WotsChainsCardSaid : Prop := Claim7.holds Tryd.pinned (.plain (OpenSpec.ofChange wotsChainsSpec)) wotsChainsCard

/-- THE TIED CARD OF 'palaverlaw03.WotsSigns'. -/
def wotsSignsCard : Claim7 := { stood := { row := wotsSignsRow, standIns := [], harness := (true, "dd87a34f0fffdc30d3fa929a00eb16626b69615c4049b4dae809e14a45fd2922"), looks := false }, kinds := [], alts := [], laidByText := true, laidKinds := [.data, .data], laidTests := true, laidLooks := .later }
def WotsSignsCardSaid : Prop := Claim7.holds Tryd.pinned (.plain (OpenSpec.ofChange wotsSignsSpec)) wotsSignsCard

/-- THE TIED CARD OF 'palaverlaw03.WotsPublics'. -/
def wotsPublicsCard : Claim7 := { stood := { row := wotsPublicsRow, standIns := [], harness := (true, "dd87a34f0fffdc30d3fa929a00eb16626b69615c4049b4dae809e14a45fd2922"), looks := false }, kinds := [], alts := [], laidByText := true, laidKinds := [.data, .data], laidTests := true, laidLooks := .later }
def WotsPublicsCardSaid : Prop := Claim7.holds Tryd.pinned (.plain (OpenSpec.ofChange wotsPublicsSpec)) wotsPublicsCard

/-- THE TIED CARD OF 'palaverlaw03.WotsRecovers'. -/
def wotsRecoversCard : Claim7 := { stood := { row := wotsRecoversRow, standIns := [], harness := (true, "dd87a34f0fffdc30d3fa929a00eb16626b69615c4049b4dae809e14a45fd2922"), looks := false }, kinds := [], alts := [], laidByText := true, laidKinds := [.data, .data], laidTests := true, laidLooks := .later }
def WotsRecoversCardSaid : Prop := Claim7.holds Tryd.pinned (.plain (OpenSpec.ofChange wotsRecoversSpec)) wotsRecoversCard

/-- THE TIED CARD OF 'palaverlaw03.WotsBack'. -/
def wotsBackCard : Claim7 := { stood := { row := wotsBackRow, standIns := [], harness := (true, "dd87a34f0fffdc30d3fa929a00eb16626b69615c4049b4dae809e14a45fd2922"), looks := false }, kinds := [], alts := [], laidByText := true, laidKinds := [.data, .data], laidTests := true, laidLooks := .later }
def WotsBackCardSaid : Prop := Claim7.holds Tryd.pinned (.plain (OpenSpec.ofChange wotsBackSpec)) wotsBackCard

/-- THE TIED CARD OF 'palaverlaw03.WotsLower'. -/
def wotsLowerCard : Claim7 := { stood := { row := wotsLowerRow, standIns := [], harness := (true, "dd87a34f0fffdc30d3fa929a00eb16626b69615c4049b4dae809e14a45fd2922"), looks := false }, kinds := [], alts := [], laidByText := true, laidKinds := [.data, .data], laidTests := true, laidLooks := .later }
def WotsLowerCardSaid : Prop := Claim7.holds Tryd.pinned (.plain (OpenSpec.ofChange wotsLowerSpec)) wotsLowerCard

/-- THE TIED CARD OF 'palaverlaw03.WotsTurned'. -/
def wotsTurnedCard : Claim7 := { stood := { row := wotsTurnedRow, standIns := [], harness := (true, "dd87a34f0fffdc30d3fa929a00eb16626b69615c4049b4dae809e14a45fd2922"), looks := false }, kinds := [], alts := [], laidByText := true, laidKinds := [.data, .data], laidTests := true, laidLooks := .later }
def WotsTurnedCardSaid : Prop := Claim7.holds Tryd.pinned (.plain (OpenSpec.ofChange wotsTurnedSpec)) wotsTurnedCard

/-- THE TIED CARD OF 'palaverlaw04.MerkleRoots'. -/
def merkleRootsCard : Claim7 := { stood := { row := merkleRootsRow, standIns := [], harness := (true, "dd87a34f0fffdc30d3fa929a00eb16626b69615c4049b4dae809e14a45fd2922"), looks := false }, kinds := [], alts := [], laidByText := true, laidKinds := [.data, .data], laidTests := true, laidLooks := .later }
def MerkleRootsCardSaid : Prop := Claim7.holds Tryd.pinned (.plain (OpenSpec.ofChange merkleRootsSpec)) merkleRootsCard

/-- THE TIED CARD OF 'palaverlaw04.MerklePaths'. -/
def merklePathsCard : Claim7 := { stood := { row := merklePathsRow, standIns := [], harness := (true, "dd87a34f0fffdc30d3fa929a00eb16626b69615c4049b4dae809e14a45fd2922"), looks := false }, kinds := [], alts := [], laidByText := true, laidKinds := [.data, .data], laidTests := true, laidLooks := .later }
def MerklePathsCardSaid : Prop := Claim7.holds Tryd.pinned (.plain (OpenSpec.ofChange merklePathsSpec)) merklePathsCard

/-- THE TIED CARD OF 'palaverlaw04.MerkleFolds'. -/
def merkleFoldsCard : Claim7 := { stood := { row := merkleFoldsRow, standIns := [], harness := (true, "dd87a34f0fffdc30d3fa929a00eb16626b69615c4049b4dae809e14a45fd2922"), looks := false }, kinds := [], alts := [], laidByText := true, laidKinds := [.data, .data], laidTests := true, laidLooks := .later }
def MerkleFoldsCardSaid : Prop := Claim7.holds Tryd.pinned (.plain (OpenSpec.ofChange merkleFoldsSpec)) merkleFoldsCard

/-- THE TIED CARD OF 'palaverlaw04.MerkleBack'. -/
def merkleBackCard : Claim7 := { stood := { row := merkleBackRow, standIns := [], harness := (true, "dd87a34f0fffdc30d3fa929a00eb16626b69615c4049b4dae809e14a45fd2922"), looks := false }, kinds := [], alts := [], laidByText := true, laidKinds := [.data, .data], laidTests := true, laidLooks := .later }
def MerkleBackCardSaid : Prop := Claim7.holds Tryd.pinned (.plain (OpenSpec.ofChange merkleBackSpec)) merkleBackCard

/-- THE TIED CARD OF 'palaverlaw04.MerkleBinds'. -/
def merkleBindsCard : Claim7 := { stood := { row := merkleBindsRow, standIns := [], harness := (true, "dd87a34f0fffdc30d3fa929a00eb16626b69615c4049b4dae809e14a45fd2922"), looks := false }, kinds := [], alts := [], laidByText := true, laidKinds := [.data, .data], laidTests := true, laidLooks := .later }
def MerkleBindsCardSaid : Prop := Claim7.holds Tryd.pinned (.plain (OpenSpec.ofChange merkleBindsSpec)) merkleBindsCard

/-- THE TIED CARD OF 'palaverlaw04.MerkleApart'. -/
def merkleApartCard : Claim7 := { stood := { row := merkleApartRow, standIns := [], harness := (true, "dd87a34f0fffdc30d3fa929a00eb16626b69615c4049b4dae809e14a45fd2922"), looks := false }, kinds := [], alts := [], laidByText := true, laidKinds := [.data, .data], laidTests := true, laidLooks := .later }
def MerkleApartCardSaid : Prop := Claim7.holds Tryd.pinned (.plain (OpenSpec.ofChange merkleApartSpec)) merkleApartCard

/-- THE SECOND FORM's CARD OF 'palaverlaw02.ShaSums'. -/
def shaSumsUptoCard : Claim7 := { stood := { row := shaSumsUptoRow, standIns := [], harness := (true, "dd87a34f0fffdc30d3fa929a00eb16626b69615c4049b4dae809e14a45fd2922"), looks := false }, kinds := [], alts := [], laidByText := true, laidKinds := [.data, .data], laidTests := true, laidLooks := .later }
def ShaSumsUptoCardSaid : Prop := Claim7.holds Tryd.pinned (.plain (OpenSpec.upto shaSumsSpec)) shaSumsUptoCard

/-- THE SECOND FORM's CARD OF 'palaverlaw02.ShaTags'. -/
def shaTagsUptoCard : Claim7 := { stood := { row := shaTagsUptoRow, standIns := [], harness := (true, "dd87a34f0fffdc30d3fa929a00eb16626b69615c4049b4dae809e14a45fd2922"), looks := false }, kinds := [], alts := [], laidByText := true, laidKinds := [.data, .data], laidTests := true, laidLooks := .later }
def ShaTagsUptoCardSaid : Prop := Claim7.holds Tryd.pinned (.plain (OpenSpec.upto shaTagsSpec)) shaTagsUptoCard

/-- THE SECOND FORM's CARD OF 'palaverlaw02.ShaClashes'. -/
def shaClashesUptoCard : Claim7 := { stood := { row := shaClashesUptoRow, standIns := [], harness := (true, "dd87a34f0fffdc30d3fa929a00eb16626b69615c4049b4dae809e14a45fd2922"), looks := false }, kinds := [], alts := [], laidByText := true, laidKinds := [.data, .data], laidTests := true, laidLooks := .later }
def ShaClashesUptoCardSaid : Prop := Claim7.holds Tryd.pinned (.plain (OpenSpec.upto shaClashesSpec)) shaClashesUptoCard

/-- THE SECOND FORM's CARD OF 'palaverlaw02.ShaRoots'. -/
def shaRootsUptoCard : Claim7 := { stood := { row := shaRootsUptoRow, standIns := [], harness := (true, "dd87a34f0fffdc30d3fa929a00eb16626b69615c4049b4dae809e14a45fd2922"), looks := false }, kinds := [], alts := [], laidByText := true, laidKinds := [.data, .data], laidTests := true, laidLooks := .later }
def ShaRootsUptoCardSaid : Prop := Claim7.holds Tryd.pinned (.plain (OpenSpec.upto shaRootsSpec)) shaRootsUptoCard

/-- THE SECOND FORM's CARD OF 'palaverlaw03.WotsDigits'. -/
def wotsDigitsUptoCard : Claim7 := { stood := { row := wotsDigitsUptoRow, standIns := [], harness := (true, "dd87a34f0fffdc30d3fa929a00eb16626b69615c4049b4dae809e14a45fd2922"), looks := false }, kinds := [], alts := [], laidByText := true, laidKinds := [.data, .data], laidTests := true, laidLooks := .later }
def WotsDigitsUptoCardSaid : Prop := Claim7.holds Tryd.pinned (.plain (OpenSpec.upto wotsDigitsSpec)) wotsDigitsUptoCard

/-- THE SECOND FORM's CARD OF 'palaverlaw03.WotsChains'. -/
def wotsChainsUptoCard : Claim7 := { stood := { row := wotsChainsUptoRow, standIns := [], harness := (true, "dd87a34f0fffdc30d3fa929a00eb16626b69615c4049b4dae809e14a45fd2922"), looks := false }, kinds := [], alts := [], laidByText := true, laidKinds := [.data, .data], laidTests := true, laidLooks := .later }
def WotsChainsUptoCardSaid : Prop := Claim7.holds Tryd.pinned (.plain (OpenSpec.upto wotsChainsSpec)) wotsChainsUptoCard

/-- THE SECOND FORM's CARD OF 'palaverlaw03.WotsSigns'. -/
def wotsSignsUptoCard : Claim7 := { stood := { row := wotsSignsUptoRow, standIns := [], harness := (true, "dd87a34f0fffdc30d3fa929a00eb16626b69615c4049b4dae809e14a45fd2922"), looks := false }, kinds := [], alts := [], laidByText := true, laidKinds := [.data, .data], laidTests := true, laidLooks := .later }
def WotsSignsUptoCardSaid : Prop := Claim7.holds Tryd.pinned (.plain (OpenSpec.upto wotsSignsSpec)) wotsSignsUptoCard

/-- THE SECOND FORM's CARD OF 'palaverlaw03.WotsPublics'. -/
def wotsPublicsUptoCard : Claim7 := { stood := { row := wotsPublicsUptoRow, standIns := [], harness := (true, "dd87a34f0fffdc30d3fa929a00eb16626b69615c4049b4dae809e14a45fd2922"), looks := false }, kinds := [], alts := [], laidByText := true, laidKinds := [.data, .data], laidTests := true, laidLooks := .later }
def WotsPublicsUptoCardSaid : Prop := Claim7.holds Tryd.pinned (.plain (OpenSpec.upto wotsPublicsSpec)) wotsPublicsUptoCard

/-- THE SECOND FORM's CARD OF 'palaverlaw03.WotsRecovers'. -/
def wotsRecoversUptoCard : Claim7 := { stood := { row := wotsRecoversUptoRow, standIns := [], harness := (true, "dd87a34f0fffdc30d3fa929a00eb16626b69615c4049b4dae809e14a45fd2922"), looks := false }, kinds := [], alts := [], laidByText := true, laidKinds := [.data, .data], laidTests := true, laidLooks := .later }
def WotsRecoversUptoCardSaid : Prop := Claim7.holds Tryd.pinned (.plain (OpenSpec.upto wotsRecoversSpec)) wotsRecoversUptoCard

/-- THE SECOND FORM's CARD OF 'palaverlaw03.WotsBack'. -/
def wotsBackUptoCard : Claim7 := { stood := { row := wotsBackUptoRow, standIns := [], harness := (true, "dd87a34f0fffdc30d3fa929a00eb16626b69615c4049b4dae809e14a45fd2922"), looks := false }, kinds := [], alts := [], laidByText := true, laidKinds := [.data, .data], laidTests := true, laidLooks := .later }
def WotsBackUptoCardSaid : Prop := Claim7.holds Tryd.pinned (.plain (OpenSpec.upto wotsBackSpec)) wotsBackUptoCard

/-- THE SECOND FORM's CARD OF 'palaverlaw03.WotsLower'. -/
def wotsLowerUptoCard : Claim7 := { stood := { row := wotsLowerUptoRow, standIns := [], harness := (true, "dd87a34f0fffdc30d3fa929a00eb16626b69615c4049b4dae809e14a45fd2922"), looks := false }, kinds := [], alts := [], laidByText := true, laidKinds := [.data, .data], laidTests := true, laidLooks := .later }
def WotsLowerUptoCardSaid : Prop := Claim7.holds Tryd.pinned (.plain (OpenSpec.upto wotsLowerSpec)) wotsLowerUptoCard

/-- THE SECOND FORM's CARD OF 'palaverlaw03.WotsTurned'. -/
def wotsTurnedUptoCard : Claim7 := { stood := { row := wotsTurnedUptoRow, standIns := [], harness := (true, "dd87a34f0fffdc30d3fa929a00eb16626b69615c4049b4dae809e14a45fd2922"), looks := false }, kinds := [], alts := [], laidByText := true, laidKinds := [.data, .data], laidTests := true, laidLooks := .later }
def WotsTurnedUptoCardSaid : Prop := Claim7.holds Tryd.pinned (.plain (OpenSpec.upto wotsTurnedSpec)) wotsTurnedUptoCard

/-- THE SECOND FORM's CARD OF 'palaverlaw04.MerkleRoots'. -/
def merkleRootsUptoCard : Claim7 := { stood := { row := merkleRootsUptoRow, standIns := [], harness := (true, "dd87a34f0fffdc30d3fa929a00eb16626b69615c4049b4dae809e14a45fd2922"), looks := false }, kinds := [], alts := [], laidByText := true, laidKinds := [.data, .data], laidTests := true, laidLooks := .later }
def MerkleRootsUptoCardSaid : Prop := Claim7.holds Tryd.pinned (.plain (OpenSpec.upto merkleRootsSpec)) merkleRootsUptoCard

/-- THE SECOND FORM's CARD OF 'palaverlaw04.MerklePaths'. -/
def merklePathsUptoCard : Claim7 := { stood := { row := merklePathsUptoRow, standIns := [], harness := (true, "dd87a34f0fffdc30d3fa929a00eb16626b69615c4049b4dae809e14a45fd2922"), looks := false }, kinds := [], alts := [], laidByText := true, laidKinds := [.data, .data], laidTests := true, laidLooks := .later }
def MerklePathsUptoCardSaid : Prop := Claim7.holds Tryd.pinned (.plain (OpenSpec.upto merklePathsSpec)) merklePathsUptoCard

/-- THE SECOND FORM's CARD OF 'palaverlaw04.MerkleFolds'. -/
def merkleFoldsUptoCard : Claim7 := { stood := { row := merkleFoldsUptoRow, standIns := [], harness := (true, "dd87a34f0fffdc30d3fa929a00eb16626b69615c4049b4dae809e14a45fd2922"), looks := false }, kinds := [], alts := [], laidByText := true, laidKinds := [.data, .data], laidTests := true, laidLooks := .later }
def MerkleFoldsUptoCardSaid : Prop := Claim7.holds Tryd.pinned (.plain (OpenSpec.upto merkleFoldsSpec)) merkleFoldsUptoCard

/-- THE SECOND FORM's CARD OF 'palaverlaw04.MerkleBack'. -/
def merkleBackUptoCard : Claim7 := { stood := { row := merkleBackUptoRow, standIns := [], harness := (true, "dd87a34f0fffdc30d3fa929a00eb16626b69615c4049b4dae809e14a45fd2922"), looks := false }, kinds := [], alts := [], laidByText := true, laidKinds := [.data, .data], laidTests := true, laidLooks := .later }
def MerkleBackUptoCardSaid : Prop := Claim7.holds Tryd.pinned (.plain (OpenSpec.upto merkleBackSpec)) merkleBackUptoCard

/-- THE SECOND FORM's CARD OF 'palaverlaw04.MerkleBinds'. -/
def merkleBindsUptoCard : Claim7 := { stood := { row := merkleBindsUptoRow, standIns := [], harness := (true, "dd87a34f0fffdc30d3fa929a00eb16626b69615c4049b4dae809e14a45fd2922"), looks := false }, kinds := [], alts := [], laidByText := true, laidKinds := [.data, .data], laidTests := true, laidLooks := .later }
def MerkleBindsUptoCardSaid : Prop := Claim7.holds Tryd.pinned (.plain (OpenSpec.upto merkleBindsSpec)) merkleBindsUptoCard

/-- THE SECOND FORM's CARD OF 'palaverlaw04.MerkleApart'. -/
def merkleApartUptoCard : Claim7 := { stood := { row := merkleApartUptoRow, standIns := [], harness := (true, "dd87a34f0fffdc30d3fa929a00eb16626b69615c4049b4dae809e14a45fd2922"), looks := false }, kinds := [], alts := [], laidByText := true, laidKinds := [.data, .data], laidTests := true, laidLooks := .later }
def MerkleApartUptoCardSaid : Prop := Claim7.holds Tryd.pinned (.plain (OpenSpec.upto merkleApartSpec)) merkleApartUptoCard
end Rows
end Go.Proofs.YtkpcobahkpiogaaDoor
