/-
  Contracts of the document's first words: Starts.
-/
import Derived.Test.YtggfmnmopfdiaaaGreatDoorSh5
namespace Go.Proofs.YtggfmnmopfdiaaaGreatDoor
open Go.RowKit Go.Pal

theorem starts_any (w : World) :
    Calls Tryz.prog 96 #[] w fun e w' => e = .returned (.agg (Ht.map wordV).toArray) ∧ Below w.heap.size w w' := by
  have hi : (Tryz.prog.info? 134).map (·.size) = some ((Ht.map wordV).toArray.size) := by kernel_rfl
  have HI := Lib.hid hi
  clear hi
  go_enter Tryz.func96, Tryz.ntmps96
  go_wp2
  exact bodyPost_ret (v := .agg (Ht.map wordV).toArray) (results_cell_row (P := Tryz.prog) Tryz.results96 _ _ w.heap.size 134 (Ht.map wordV).toArray (0, 0) _ rfl (Blk.new' w _ (Ht.map wordV) rfl) Tryz.underlying134 rfl HI.out) rfl ⟨rfl, (Below.refl _ _).alloc (Nat.le_refl _) _⟩

end Go.Proofs.YtggfmnmopfdiaaaGreatDoor
