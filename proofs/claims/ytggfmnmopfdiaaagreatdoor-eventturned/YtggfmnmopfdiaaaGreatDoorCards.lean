/-
  DERIVED. GIVEN WITH THE SEED: THE CARDS: each row of YtggfmnmopfdiaaaGreatDoorRows.lean that lists a variable, with what it lists TIED to the program's text (the seventh form; the later family's looks); each row that meets fmt, with fmt's text TOLD by the authors' own Lean function (tested against real Go, not proved from fmt's source: count such statements apart). THE CARD IS WHAT COUNTS. Prove the row's statement (the work); the ties are given (YtggfmnmopfdiaaaGreatDoorTie.lean); close each card by the builder's one call (the guide's Derived/Test/ToyasCard.lean, 'card_holds'). Laid BY PROGRAM, IN A SANDBOX (cutbox-door.mjs). By AI agents, Wed Nov 11 2026. No macro, syntax, notation, axiom, sorry.
-/
import Derived.Test.YtggfmnmopfdiaaaGreatDoorRows
import GoSem.ClaimSeven
namespace Go.Proofs.YtggfmnmopfdiaaaGreatDoor
namespace Rows

/-- THE TIED CARD OF 'palaverlaw06.EventSigns'. -/
def eventSignsCard : Claim7 := { stood := { row := eventSignsRow, standIns := [], harness := (true, "6adc4cca95a714878b2ef1d00d2274ca256dcdd0284f6ab8cd3571533fd4eb30"), looks := false }, kinds := [], alts := [], laidByText := true, laidKinds := [.data, .data], laidTests := true, laidLooks := .later }
def EventSignsCardSaid : Prop := Claim7.holds Tryz.pinned (.plain (OpenSpec.ofChange eventSignsSpec)) eventSignsCard

/-- THE TIED CARD OF 'palaverlaw06.EventTurned'. -/
def eventTurnedCard : Claim7 := { stood := { row := eventTurnedRow, standIns := [], harness := (true, "6adc4cca95a714878b2ef1d00d2274ca256dcdd0284f6ab8cd3571533fd4eb30"), looks := false }, kinds := [], alts := [], laidByText := true, laidKinds := [.data, .data], laidTests := true, laidLooks := .later }
def EventTurnedCardSaid : Prop := Claim7.holds Tryz.pinned (.plain (OpenSpec.ofChange eventTurnedSpec)) eventTurnedCard

/-- THE SECOND FORM's CARD OF 'palaverlaw06.EventSigns'. -/
def eventSignsUptoCard : Claim7 := { stood := { row := eventSignsUptoRow, standIns := [], harness := (true, "6adc4cca95a714878b2ef1d00d2274ca256dcdd0284f6ab8cd3571533fd4eb30"), looks := false }, kinds := [], alts := [], laidByText := true, laidKinds := [.data, .data], laidTests := true, laidLooks := .later }
def EventSignsUptoCardSaid : Prop := Claim7.holds Tryz.pinned (.plain (OpenSpec.upto eventSignsSpec)) eventSignsUptoCard

/-- THE SECOND FORM's CARD OF 'palaverlaw06.EventTurned'. -/
def eventTurnedUptoCard : Claim7 := { stood := { row := eventTurnedUptoRow, standIns := [], harness := (true, "6adc4cca95a714878b2ef1d00d2274ca256dcdd0284f6ab8cd3571533fd4eb30"), looks := false }, kinds := [], alts := [], laidByText := true, laidKinds := [.data, .data], laidTests := true, laidLooks := .later }
def EventTurnedUptoCardSaid : Prop := Claim7.holds Tryz.pinned (.plain (OpenSpec.upto eventTurnedSpec)) eventTurnedUptoCard
end Rows
end Go.Proofs.YtggfmnmopfdiaaaGreatDoor
