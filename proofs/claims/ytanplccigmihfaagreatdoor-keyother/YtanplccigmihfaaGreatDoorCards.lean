/-
  DERIVED. GIVEN WITH THE SEED: THE CARDS: each row of YtanplccigmihfaaGreatDoorRows.lean that lists a variable, with what it lists TIED to the program's text (the seventh form; the later family's looks); each row that meets fmt, with fmt's text TOLD by the authors' own Lean function (tested against real Go, not proved from fmt's source: count such statements apart). THE CARD IS WHAT COUNTS. Prove the row's statement (the work); the ties are given (YtanplccigmihfaaGreatDoorTie.lean); close each card by the builder's one call (the guide's Derived/Test/ToyasCard.lean, 'card_holds'). Laid BY PROGRAM, IN A SANDBOX (cutbox-door.mjs). By AI agents, Wed Nov 11 2026. No macro, syntax, notation, axiom, sorry.
-/
import Derived.Test.YtanplccigmihfaaGreatDoorRows
import GoSem.ClaimSeven
namespace Go.Proofs.YtanplccigmihfaaGreatDoor
namespace Rows

/-- THE TIED CARD OF 'palaverlaw05.KeyMakes'. -/
def keyMakesCard : Claim7 := { stood := { row := keyMakesRow, standIns := [], harness := (true, "899136c09b41907b091acdf81f1b702c5d8ac13af579550c10a768f6526670b0"), looks := false }, kinds := [], alts := [], laidByText := true, laidKinds := [.data, .data], laidTests := true, laidLooks := .later }
def KeyMakesCardSaid : Prop := Claim7.holds Tryz.pinned (.plain (OpenSpec.ofChange keyMakesSpec)) keyMakesCard

/-- THE TIED CARD OF 'palaverlaw05.KeySigns'. -/
def keySignsCard : Claim7 := { stood := { row := keySignsRow, standIns := [], harness := (true, "899136c09b41907b091acdf81f1b702c5d8ac13af579550c10a768f6526670b0"), looks := false }, kinds := [], alts := [], laidByText := true, laidKinds := [.data, .data], laidTests := true, laidLooks := .later }
def KeySignsCardSaid : Prop := Claim7.holds Tryz.pinned (.plain (OpenSpec.ofChange keySignsSpec)) keySignsCard

/-- THE TIED CARD OF 'palaverlaw05.KeyVerifies'. -/
def keyVerifiesCard : Claim7 := { stood := { row := keyVerifiesRow, standIns := [], harness := (true, "899136c09b41907b091acdf81f1b702c5d8ac13af579550c10a768f6526670b0"), looks := false }, kinds := [], alts := [], laidByText := true, laidKinds := [.data, .data], laidTests := true, laidLooks := .later }
def KeyVerifiesCardSaid : Prop := Claim7.holds Tryz.pinned (.plain (OpenSpec.ofChange keyVerifiesSpec)) keyVerifiesCard

/-- THE TIED CARD OF 'palaverlaw05.KeySpends'. -/
def keySpendsCard : Claim7 := { stood := { row := keySpendsRow, standIns := [], harness := (true, "899136c09b41907b091acdf81f1b702c5d8ac13af579550c10a768f6526670b0"), looks := false }, kinds := [], alts := [], laidByText := true, laidKinds := [.data, .data], laidTests := true, laidLooks := .later }
def KeySpendsCardSaid : Prop := Claim7.holds Tryz.pinned (.plain (OpenSpec.ofChange keySpendsSpec)) keySpendsCard

/-- THE TIED CARD OF 'palaverlaw05.KeyTurned'. -/
def keyTurnedCard : Claim7 := { stood := { row := keyTurnedRow, standIns := [], harness := (true, "899136c09b41907b091acdf81f1b702c5d8ac13af579550c10a768f6526670b0"), looks := false }, kinds := [], alts := [], laidByText := true, laidKinds := [.data, .data], laidTests := true, laidLooks := .later }
def KeyTurnedCardSaid : Prop := Claim7.holds Tryz.pinned (.plain (OpenSpec.ofChange keyTurnedSpec)) keyTurnedCard

/-- THE TIED CARD OF 'palaverlaw05.KeyOther'. -/
def keyOtherCard : Claim7 := { stood := { row := keyOtherRow, standIns := [], harness := (true, "899136c09b41907b091acdf81f1b702c5d8ac13af579550c10a768f6526670b0"), looks := false }, kinds := [], alts := [], laidByText := true, laidKinds := [.data, .data], laidTests := true, laidLooks := .later }
def KeyOtherCardSaid : Prop := Claim7.holds Tryz.pinned (.plain (OpenSpec.ofChange keyOtherSpec)) keyOtherCard

/-- THE TIED CARD OF 'palaverlaw05.KeyNone'. -/
def keyNoneCard : Claim7 := { stood := { row := keyNoneRow, standIns := [], harness := (true, "899136c09b41907b091acdf81f1b702c5d8ac13af579550c10a768f6526670b0"), looks := false }, kinds := [], alts := [], laidByText := true, laidKinds := [.data, .data], laidTests := true, laidLooks := .later }
def KeyNoneCardSaid : Prop := Claim7.holds Tryz.pinned (.plain (OpenSpec.ofChange keyNoneSpec)) keyNoneCard

/-- THE SECOND FORM's CARD OF 'palaverlaw05.KeyMakes'. -/
def keyMakesUptoCard : Claim7 := { stood := { row := keyMakesUptoRow, standIns := [], harness := (true, "899136c09b41907b091acdf81f1b702c5d8ac13af579550c10a768f6526670b0"), looks := false }, kinds := [], alts := [], laidByText := true, laidKinds := [.data, .data], laidTests := true, laidLooks := .later }
def KeyMakesUptoCardSaid : Prop := Claim7.holds Tryz.pinned (.plain (OpenSpec.upto keyMakesSpec)) keyMakesUptoCard

/-- THE SECOND FORM's CARD OF 'palaverlaw05.KeySigns'. -/
def keySignsUptoCard : Claim7 := { stood := { row := keySignsUptoRow, standIns := [], harness := (true, "899136c09b41907b091acdf81f1b702c5d8ac13af579550c10a768f6526670b0"), looks := false }, kinds := [], alts := [], laidByText := true, laidKinds := [.data, .data], laidTests := true, laidLooks := .later }
def KeySignsUptoCardSaid : Prop := Claim7.holds Tryz.pinned (.plain (OpenSpec.upto keySignsSpec)) keySignsUptoCard

/-- THE SECOND FORM's CARD OF 'palaverlaw05.KeyVerifies'. -/
def keyVerifiesUptoCard : Claim7 := { stood := { row := keyVerifiesUptoRow, standIns := [], harness := (true, "899136c09b41907b091acdf81f1b702c5d8ac13af579550c10a768f6526670b0"), looks := false }, kinds := [], alts := [], laidByText := true, laidKinds := [.data, .data], laidTests := true, laidLooks := .later }
def KeyVerifiesUptoCardSaid : Prop := Claim7.holds Tryz.pinned (.plain (OpenSpec.upto keyVerifiesSpec)) keyVerifiesUptoCard

/-- THE SECOND FORM's CARD OF 'palaverlaw05.KeySpends'. -/
def keySpendsUptoCard : Claim7 := { stood := { row := keySpendsUptoRow, standIns := [], harness := (true, "899136c09b41907b091acdf81f1b702c5d8ac13af579550c10a768f6526670b0"), looks := false }, kinds := [], alts := [], laidByText := true, laidKinds := [.data, .data], laidTests := true, laidLooks := .later }
def KeySpendsUptoCardSaid : Prop := Claim7.holds Tryz.pinned (.plain (OpenSpec.upto keySpendsSpec)) keySpendsUptoCard

/-- THE SECOND FORM's CARD OF 'palaverlaw05.KeyTurned'. -/
def keyTurnedUptoCard : Claim7 := { stood := { row := keyTurnedUptoRow, standIns := [], harness := (true, "899136c09b41907b091acdf81f1b702c5d8ac13af579550c10a768f6526670b0"), looks := false }, kinds := [], alts := [], laidByText := true, laidKinds := [.data, .data], laidTests := true, laidLooks := .later }
def KeyTurnedUptoCardSaid : Prop := Claim7.holds Tryz.pinned (.plain (OpenSpec.upto keyTurnedSpec)) keyTurnedUptoCard

/-- THE SECOND FORM's CARD OF 'palaverlaw05.KeyOther'. -/
def keyOtherUptoCard : Claim7 := { stood := { row := keyOtherUptoRow, standIns := [], harness := (true, "899136c09b41907b091acdf81f1b702c5d8ac13af579550c10a768f6526670b0"), looks := false }, kinds := [], alts := [], laidByText := true, laidKinds := [.data, .data], laidTests := true, laidLooks := .later }
def KeyOtherUptoCardSaid : Prop := Claim7.holds Tryz.pinned (.plain (OpenSpec.upto keyOtherSpec)) keyOtherUptoCard

/-- THE SECOND FORM's CARD OF 'palaverlaw05.KeyNone'. -/
def keyNoneUptoCard : Claim7 := { stood := { row := keyNoneUptoRow, standIns := [], harness := (true, "899136c09b41907b091acdf81f1b702c5d8ac13af579550c10a768f6526670b0"), looks := false }, kinds := [], alts := [], laidByText := true, laidKinds := [.data, .data], laidTests := true, laidLooks := .later }
def KeyNoneUptoCardSaid : Prop := Claim7.holds Tryz.pinned (.plain (OpenSpec.upto keyNoneSpec)) keyNoneUptoCard
end Rows
end Go.Proofs.YtanplccigmihfaaGreatDoor
