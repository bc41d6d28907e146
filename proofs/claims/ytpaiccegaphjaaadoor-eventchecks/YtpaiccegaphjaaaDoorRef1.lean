/-
  Contracts of the document's first words: Starts.
-/
import Derived.Test.YtpaiccegaphjaaaDoorSh5
namespace Go.Proofs.YtpaiccegaphjaaaDoor
open Go.RowKit Go.Pal

theorem starts_any (w : World) :
    Calls Tryd.prog 64 #[] w fun e w' => e = .returned (.agg (Ht.map wordV).toArray) ∧ Below w.heap.size w w' := by
  have hi : (Tryd.prog.info? 82).map (·.size) = some ((Ht.map wordV).toArray.size) := by kernel_rfl
  have HI := Lib.hid hi
  clear hi
  go_enter Tryd.func64, Tryd.ntmps64
  go_wp2
  exact bodyPost_ret (v := .agg (Ht.map wordV).toArray) (results_cell_row (P := Tryd.prog) Tryd.results64 _ _ w.heap.size 82 (Ht.map wordV).toArray (0, 0) _ rfl (Blk.new' w _ (Ht.map wordV) rfl) Tryd.underlying82 rfl HI.out) rfl ⟨rfl, (Below.refl _ _).alloc (Nat.le_refl _) _⟩

end Go.Proofs.YtpaiccegaphjaaaDoor
