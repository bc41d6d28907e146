/-
  Contracts of package wait: Put.
-/
import Derived.Test.YtabongfoeoideaaWa1
import Derived.Deep.QuietTactic
import Derived.BigQuiet
import Derived.Deep.RegionLaw
namespace Go.Proofs.Ytabongfoeoideaa
open Go.RowKit Go.Pal
set_option linter.unusedVariables false

theorem sRow_some {w : World} {a : Option Addr} {l : List ByteArray} (h : StrRow w a l) (h0 : 0 < l.length) : ∃ b off, a = some ⟨b, off, none⟩ ∧ b < w.heap.size ∧ ∀ i (hi : i < l.length), w.cell? ⟨b, off + i, none⟩ = some (.string l[i]) := by
  rcases h with h | ⟨b, off, rfl, hbl, hc⟩
  · rw [h] at h0; simp at h0
  · refine ⟨b, off, rfl, hbl, fun i hi => ?_⟩
    rw [hc i hi, List.getD_eq_getElem?_getD, List.getElem?_eq_getElem hi]; rfl
theorem MapF.add {P : Program} {k : TypeId} {w : World} {b : Nat} {l : List ByteArray} {s : ByteArray} (h : MapF P k w b (if (setL l s).isSome then l.length else l.length + 1) (putF (setL l) s unitV)) : MapF P k w b (addL l s).length (setL (addL l s)) := by
  rw [addL_length]
  exact h.same (fun x => putF_setL l s x)
/-- As w with one block more, but for draws. -/
structure Like (w : World) (o : Obj) (wx : World) : Prop where
  heap : wx.heap = (w.alloc o).heap
  os : wx.os = w.os
  tape : wx.tape = w.tape
  output : wx.output = w.output
theorem Like.old {w wx : World} {o : Obj} (h : Like w o wx) {g : Nat} (hg : g < w.heap.size) : wx.heap[g]? = w.heap[g]? := by rw [h.heap]; exact heap_alloc_old w o hg
theorem Like.new {w wx : World} {o : Obj} (h : Like w o wx) : wx.heap[w.heap.size]? = some o := by rw [h.heap]; exact heap_alloc_new w o
theorem Like.size {w wx : World} {o : Obj} (h : Like w o wx) : wx.heap.size = w.heap.size + 1 := by rw [h.heap]; simp
theorem Like.grown {w wx w8 : World} {o : Obj} (h : Like w o wx) {row : Option Nat} (hg : wx.grownBy w8 row) : w.grownBy w8 row :=
  ⟨hg.os.trans h.os, hg.tape.trans h.tape, hg.output.trans h.output, by have := hg.size; have := h.size; omega, fun g hlt hne => (hg.block g (by have := h.size; omega) hne).trans (h.old hlt)⟩
theorem below_drewN {n : Nat} {w w' : World} (h : Below n w w') (k : Nat) : Below n w (w'.drewN k) := ⟨h.os, h.tape, h.output, h.size, h.block⟩

end Go.Proofs.Ytabongfoeoideaa
