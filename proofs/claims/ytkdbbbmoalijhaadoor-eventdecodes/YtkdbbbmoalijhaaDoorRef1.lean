/-
  Contracts of the document's first words: Starts.
-/
import Derived.Test.YtkdbbbmoalijhaaDoorSh5
namespace Go.Proofs.YtkdbbbmoalijhaaDoor
open Go.RowKit Go.Pal

theorem starts_any (w : World) :
    Calls Tryd.prog 46 #[] w fun e w' => e = .returned (.agg (Ht.map wordV).toArray) ∧ Below w.heap.size w w' := by
  have hi : (Tryd.prog.info? 58).map (·.size) = some ((Ht.map wordV).toArray.size) := by kernel_rfl
  have HI := Lib.hid hi
  clear hi
  go_enter Tryd.func46, Tryd.ntmps46
  go_wp2
  exact bodyPost_ret (v := .agg (Ht.map wordV).toArray) (results_cell_row (P := Tryd.prog) Tryd.results46 _ _ w.heap.size 58 (Ht.map wordV).toArray (0, 0) _ rfl (Blk.new' w _ (Ht.map wordV) rfl) Tryd.underlying58 rfl HI.out) rfl ⟨rfl, (Below.refl _ _).alloc (Nat.le_refl _) _⟩

end Go.Proofs.YtkdbbbmoalijhaaDoor
