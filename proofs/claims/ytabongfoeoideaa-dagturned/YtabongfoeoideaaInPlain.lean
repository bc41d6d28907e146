/-
  Plain mathematics for layer 2: the input of a tag and texts. No program in sight.
-/
import Derived.Test.YtabongfoeoideaaPlain
import Derived.Test.YtabongfoeoideaaShPlain
import Derived.Lib.AppendStr
namespace Go.Pal
open Go.RowKit

/-- A text with its length as a long. -/
def partL4 (p : ByteArray) : List UInt8 := beL 4 p.size ++ p.data.toList
/-- The input of a tag and texts. -/
def inputL (tag : Int) (ps : List ByteArray) : List UInt8 := UInt8.ofNat (tag % 256).toNat :: ps.flatMap partL4
def totL (ps : List ByteArray) : Nat := (ps.map fun p => 4 + p.size).sum

theorem partL4_length (p : ByteArray) : (partL4 p).length = 4 + p.size := by simp [partL4, beL_length]
theorem inputL_length (tag : Int) (ps : List ByteArray) : (inputL tag ps).length = 1 + totL ps := by
  simp only [inputL, List.length_cons, List.length_flatMap, totL]
  have e : (ps.map fun p => (partL4 p).length) = ps.map fun p => 4 + p.size := List.map_congr_left fun p _ => partL4_length p
  rw [e]; omega
theorem totL_take (ps : List ByteArray) (k : Nat) (h : k < ps.length) : totL (ps.take (k + 1)) = totL (ps.take k) + (4 + (ps.getD k ByteArray.empty).size) := by
  have e : ps.getD k ByteArray.empty = ps[k] := by simp [h]
  rw [e, List.take_succ_eq_append_getElem h, totL, List.map_append, List.sum_append]
  simp [totL]
theorem totL_take_le (ps : List ByteArray) (k : Nat) : totL (ps.take k) ≤ totL ps := by
  have h : totL ps = totL (ps.take k) + totL (ps.drop k) := by
    have e : totL (ps.take k ++ ps.drop k) = totL (ps.take k) + totL (ps.drop k) := by
      unfold totL; rw [List.map_append, List.sum_append]
    rwa [List.take_append_drop] at e
  omega
theorem size_le_tot (ps : List ByteArray) (k : Nat) (h : k < ps.length) : (ps.getD k ByteArray.empty).size + 4 ≤ totL ps := by
  have h1 := totL_take ps k h
  have h2 := totL_take_le ps (k + 1)
  omega
theorem inputL_take (tag : Int) (ps : List ByteArray) (k : Nat) (h : k < ps.length) : inputL tag (ps.take (k + 1)) = inputL tag (ps.take k) ++ beL 4 (ps.getD k ByteArray.empty).size ++ (ps.getD k ByteArray.empty).data.toList := by
  have e : ps.getD k ByteArray.empty = ps[k] := by simp [h]
  rw [e, List.take_succ_eq_append_getElem h]
  unfold inputL
  rw [List.flatMap_append, List.flatMap_cons, List.flatMap_nil, List.append_nil, partL4]
  simp only [List.cons_append, List.append_assoc]

/-- 'tag & 255' on an int. -/
theorem and255 (x : Int) : bits BinOp.and IntKind.i64 x 255 = x % 256 := by
  have h : (BitVec.ofInt 64 x &&& BitVec.ofInt 64 255).toNat = (x % 256).toNat := by
    rw [BitVec.toNat_and]
    have e1 : (BitVec.ofInt 64 255).toNat = 2 ^ 8 - 1 := by decide
    rw [e1, Nat.and_two_pow_sub_one_eq_mod, BitVec.toNat_ofInt]
    omega
  show IntKind.i64.wrap ((BitVec.ofInt 64 x &&& BitVec.ofInt 64 255).toNat : Int) = x % 256
  rw [h, IntKind.wrap_i64]
  omega

/-- A list of texts that came in. -/
def StrRow (w : World) (a : Option Addr) (ss : List ByteArray) : Prop :=
  ss = [] ∨ ∃ b off, a = some ⟨b, off, none⟩ ∧ b < w.heap.size ∧ ∀ i, i < ss.length → w.cell? ⟨b, off + i, none⟩ = some (.string (ss.getD i ByteArray.empty))

theorem StrRow.below {w w' : World} {a : Option Addr} {ss : List ByteArray} (h : StrRow w a ss) (hb : Below w.heap.size w w') : StrRow w' a ss := by
  rcases h with h | ⟨b, off, ha, hl, hc⟩
  · exact .inl h
  · exact .inr ⟨b, off, ha, Nat.lt_of_lt_of_le hl hb.size, fun i hi => (hb.cell (p := ⟨b, off + i, none⟩) hl).trans (hc i hi)⟩

end Go.Pal
