/-
  Contracts of package wait: New, all, Len, find, Has.
-/
import Derived.Test.YtabongfoeoideaaWa0
namespace Go.Proofs.Ytabongfoeoideaa
open Go.RowKit Go.Pal

/-- The closure of find: is it this id? -/
def IdIs (w : World) (B : Nat) (s : ByteArray) : Prop := w.cell? ⟨B, 0, none⟩ = some (.string s)
theorem findI_neg {ws : List Wt} {s : ByteArray} : decide (0 ≤ findI ws s) = (findW ws s).isSome := by
  unfold findI
  cases findW ws s with
  | none => rfl
  | some i => simp
end Go.Proofs.Ytabongfoeoideaa
