/-
  DERIVED. GIVEN WITH THE SEED: THE CARDS: each row of YtanplccigmihfaaDoorRows.lean that lists a variable, with what it lists TIED to the program's text (the seventh form; the later family's looks); each row that meets fmt, with fmt's text TOLD by the authors' own Lean function (tested against real Go, not proved from fmt's source: count such statements apart). THE CARD IS WHAT COUNTS. Prove the row's statement (the work); the ties are given (YtanplccigmihfaaDoorTie.lean); close each card by the builder's one call (the guide's Derived/Test/ToyasCard.lean, 'card_holds'). Laid BY PROGRAM, IN A SANDBOX (cutbox-door.mjs). By AI agents, Wed Nov 11 2026. No macro, syntax, notation, axiom, sorry.
-/
import Derived.Test.YtanplccigmihfaaDoorRows
import GoSem.ClaimSeven
namespace Go.Proofs.YtanplccigmihfaaDoor
namespace Rows

/-- THE TIED CARD OF 'palaverlaw02.ShaClashes'. -/
def shaClashesCard : Claim7 := { stood := { row := shaClashesRow, standIns := [], harness := (true, "74e5bb551d748d71afd640fe9659e62d7c3db00953912036312c9c02abf50cf5"), looks := false }, kinds := [], alts := [], laidByText := true, laidKinds := [.data, .data], laidTests := true, laidLooks := .later }
def ShaClashesCardSaid : Prop := Claim7.holds Tryd.pinned (.plain (OpenSpec.ofChange shaClashesSpec)) shaClashesCard

/-- THE TIED CARD OF 'palaverlaw02.ShaRoots'. -/
def shaRootsCard : Claim7 := { stood := { row := shaRootsRow, standIns := [], harness := (true, "74e5bb551d748d71afd640fe9659e62d7c3db00953912036312c9c02abf50cf5"), looks := false }, kinds := [], alts := [], laidByText := true, laidKinds := [.data, .data], laidTests := true, laidLooks := .later }
def ShaRootsCardSaid : Prop := Claim7.holds Tryd.pinned (.plain (OpenSpec.ofChange shaRootsSpec)) shaRootsCard

/-- THE SECOND FORM's CARD OF 'palaverlaw02.ShaClashes'. -/
def shaClashesUptoCard : Claim7 := { stood := { row := shaClashesUptoRow, standIns := [], harness := (true, "74e5bb551d748d71afd640fe9659e62d7c3db00953912036312c9c02abf50cf5"), looks := false }, kinds := [], alts := [], laidByText := true, laidKinds := [.data, .data], laidTests := true, laidLooks := .later }
def ShaClashesUptoCardSaid : Prop := Claim7.holds Tryd.pinned (.plain (OpenSpec.upto shaClashesSpec)) shaClashesUptoCard

/-- THE SECOND FORM's CARD OF 'palaverlaw02.ShaRoots'. -/
def shaRootsUptoCard : Claim7 := { stood := { row := shaRootsUptoRow, standIns := [], harness := (true, "74e5bb551d748d71afd640fe9659e62d7c3db00953912036312c9c02abf50cf5"), looks := false }, kinds := [], alts := [], laidByText := true, laidKinds := [.data, .data], laidTests := true, laidLooks := .later }
def ShaRootsUptoCardSaid : Prop := Claim7.holds Tryd.pinned (.plain (OpenSpec.upto shaRootsSpec)) shaRootsUptoCard
end Rows
end Go.Proofs.YtanplccigmihfaaDoor
