/-
  Contract of the document's 64 words: table.
-/
import Derived.Test.YtggfmnmopfdiaaaGreatDoorRef1
namespace Go.Proofs.YtggfmnmopfdiaaaGreatDoor
open Go.RowKit Go.Pal

/-- A literal of many parts, whose cells are known. -/
theorem wpList_build_to {P : Program} {ops : Array Oper} {rest : List Oper} {o : Oper} {a : Act} {w : World} {Q : Exit → Act → World → Prop} (hg : o.guard = none) (t : TypeId) (parts : Array (Nat × Operand)) (ho : o.op = .build t parts)
    (cells : Array Value) (hc : P.built t (parts.map fun (i, x) => (i, a.eval x)).toList = some cells)
    (h : wpList P ops Q rest (a.put o.dst (.agg cells)) w) : wpList P ops Q (o :: rest) a w :=
  wpList_build hg t parts ho (by rw [hc]; rfl) (by rw [hc]; exact h)

set_option maxHeartbeats 1000000 in
set_option maxRecDepth 100000 in
theorem table_any (w : World) :
    Calls Tryz.prog 97 #[] w fun e w' => e = .returned (.agg (Kt.map wordV).toArray) ∧ Below w.heap.size w w' := by
  have hi : (Tryz.prog.info? 136).map (·.size) = some ((Kt.map wordV).toArray.size) := by kernel_rfl
  have ho : (Kt.map wordV).toArray.all (·.oneCell') = true := by kernel_rfl
  have hl : 64 = (Kt.map wordV).toArray.size := by kernel_rfl
  have HI := Lib.hid hi
  have HO := Lib.hid ho
  have HL := Lib.hid hl
  clear hi ho hl
  go_enter Tryz.func97, Tryz.ntmps97
  go_wp2_with (first
    | (refine wpList_build_to rfl 136 _ rfl (Kt.map wordV).toArray (by as_aux_lemma => kernel_rfl) ?_)
    | (refine wpList_store_made rfl 136 _ _ rfl _ (Kt.map wordV).toArray 136 rfl rfl HI.out HL.out HO.out ?_))
  exact bodyPost_ret (v := .agg (Kt.map wordV).toArray) (results_cell_row (P := Tryz.prog) Tryz.results97 _ _ w.heap.size 136 (Kt.map wordV).toArray (0, 0) _ rfl (Blk.new' w _ (Kt.map wordV) rfl) Tryz.underlying136 rfl HI.out) rfl ⟨rfl, (Below.refl _ _).alloc (Nat.le_refl _) _⟩

end Go.Proofs.YtggfmnmopfdiaaaGreatDoor
