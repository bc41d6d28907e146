/-
  Contracts of Text, the program's and the document's; of a reader's beginning.
-/
import Derived.Test.YtbipmeogcmmhhaaOct4
namespace Go.Proofs.Ytbipmeogcmmhhaa
open Go.RowKit Go.Pal

/-- May a text be laid? -/
def textOk (s : ByteArray) : Bool := decide (s.size < 65536)
def textB (s : ByteArray) : ByteArray := if textOk s = true then be 2 s.size ++ s else ByteArray.empty

theorem textOk_yes {s : ByteArray} (h : s.size < 65536) : textOk s = true := by simp [textOk, h]
theorem textOk_no {s : ByteArray} (h : ¬ s.size < 65536) : textOk s = false := by simp [textOk]; omega
theorem textB_yes {s : ByteArray} (h : s.size < 65536) : textB s = be 2 s.size ++ s := by simp [textB, textOk_yes h]
theorem textB_no {s : ByteArray} (h : ¬ s.size < 65536) : textB s = ByteArray.empty := by simp [textB, textOk_no h]







end Go.Proofs.Ytbipmeogcmmhhaa
