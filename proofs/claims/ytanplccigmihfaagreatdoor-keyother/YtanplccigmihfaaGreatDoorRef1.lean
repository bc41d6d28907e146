/-
  Contracts of the document's first words: Starts.
-/
import Derived.Test.YtanplccigmihfaaGreatDoorSh5
namespace Go.Proofs.YtanplccigmihfaaGreatDoor
open Go.RowKit Go.Pal

theorem starts_any (w : World) :
    Calls Tryz.prog 91 #[] w fun e w' => e = .returned (.agg (Ht.map wordV).toArray) ∧ Below w.heap.size w w' := by
  have hi : (Tryz.prog.info? 130).map (·.size) = some ((Ht.map wordV).toArray.size) := by kernel_rfl
  have HI := Lib.hid hi
  clear hi
  go_enter Tryz.func91, Tryz.ntmps91
  go_wp2
  exact bodyPost_ret (v := .agg (Ht.map wordV).toArray) (results_cell_row (P := Tryz.prog) Tryz.results91 _ _ w.heap.size 130 (Ht.map wordV).toArray (0, 0) _ rfl (Blk.new' w _ (Ht.map wordV) rfl) Tryz.underlying130 rfl HI.out) rfl ⟨rfl, (Below.refl _ _).alloc (Nat.le_refl _) _⟩

end Go.Proofs.YtanplccigmihfaaGreatDoor
