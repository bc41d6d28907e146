/-
  A row of texts that came in, opened: with its bounds and its room.
-/
import Derived.Test.YtbipmeogcmmhhaaWOp
namespace Go.Proofs.Ytbipmeogcmmhhaa
open Go.ChangeShapes Go.WideShapes Go.ChangeAt Go.RowKit Go.Pal
set_option linter.unusedVariables false
theorem strs_of2 {H : Type} {enc : TypeId × Value → H} {W : World} {fuel : Nat} {v : Value} {x : DataW H × List MemPlace} (h : DataW.trod enc Try.prog W 0 (fun _ => true) true fuel 30 [v] = some x) (hlo : Lo 30 x.1) :
    ∃ (a : Option Addr) (l : List ByteArray) (cap : Nat), v = .slice a l.length cap ∧ StrsAt W a l ∧ l.length ≤ cap := by
  obtain ⟨a, l, cap, e, h0, hr⟩ := strs_of h hlo
  refine ⟨a, l, cap, e, hr, ?_⟩
  rcases open_strings Try.underlying30 Try.underlying9 (by kernel_rfl) h with ⟨hcs, _⟩ | ⟨x, n, c, ss, hcs, _, hl, _⟩
  · simp only [List.cons.injEq, and_true] at hcs
    rw [e] at hcs
    simp only [Value.slice.injEq] at hcs
    omega
  · simp only [List.cons.injEq, and_true] at hcs
    rw [e] at hcs
    simp only [Value.slice.injEq] at hcs
    omega
end Go.Proofs.Ytbipmeogcmmhhaa
