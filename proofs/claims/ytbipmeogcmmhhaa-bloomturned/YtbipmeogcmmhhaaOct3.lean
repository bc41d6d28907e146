/-
  Contracts of octets.Byte, Short, Long, Text and of the document's Number and Text.
-/
import Derived.Test.YtbipmeogcmmhhaaOct2
namespace Go.Proofs.Ytbipmeogcmmhhaa
open Go.RowKit Go.Pal

/-- May a number be laid in so many bytes? -/
def numOk (k : Nat) (n : Int) : Bool := decide (0 ≤ n ∧ n < 256 ^ k)
def numB (k : Nat) (n : Int) : ByteArray := if numOk k n = true then be k n.toNat else ByteArray.empty

theorem numOk_yes {k : Nat} {n : Int} (h0 : 0 ≤ n) (h1 : n < 256 ^ k) : numOk k n = true := by simp [numOk, h0, h1]
theorem numOk_no {k : Nat} {n : Int} (h : n < 0 ∨ 256 ^ k ≤ n) : numOk k n = false := by simp [numOk]; omega
theorem numB_yes {k : Nat} {n : Int} (h : numOk k n = true) : numB k n = be k n.toNat := by simp [numB, h]
theorem numB_no {k : Nat} {n : Int} (h : numOk k n = false) : numB k n = ByteArray.empty := by simp [numB, h]

end Go.Proofs.Ytbipmeogcmmhhaa
