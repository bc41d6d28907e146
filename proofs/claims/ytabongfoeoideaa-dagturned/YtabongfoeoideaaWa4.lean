/-
  Contracts of package wait: maps.Copy at sets.
-/
import Derived.Test.YtabongfoeoideaaWa3
namespace Go.Proofs.Ytabongfoeoideaa
open Go.RowKit Go.Pal
set_option linter.unusedVariables false

end Go.Proofs.Ytabongfoeoideaa
