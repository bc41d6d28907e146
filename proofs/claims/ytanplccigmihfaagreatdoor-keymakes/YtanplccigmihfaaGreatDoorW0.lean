/-
  Plain mathematics for layer 3: the digits of a digest. No program in sight.
-/
import Derived.Test.YtanplccigmihfaaGreatDoorShPlain
namespace Go.Pal
open Go.RowKit

def intV (n : Nat) : Value := .int .i64 n
/-- The upper and the lower four bits of each byte. -/
def nibs (l : List UInt8) : List Nat := l.flatMap fun b => [b.toNat / 16, b.toNat % 16]
/-- What each lacks to 15, added up. -/
def lackL (l : List UInt8) : Nat := (l.map fun b => (15 - b.toNat / 16) + (15 - b.toNat % 16)).sum
def digL (l : List UInt8) : List Nat := nibs l ++ [lackL l / 256, lackL l / 16 % 16, lackL l % 16]

theorem nibs_length (l : List UInt8) : (nibs l).length = 2 * l.length := by
  induction l with
  | nil => rfl
  | cons b l ih => simp only [nibs, List.flatMap_cons, List.length_append, List.length_cons, List.length_nil] at ih ⊢; omega
theorem digL_length (l : List UInt8) : (digL l).length = 2 * l.length + 3 := by simp [digL, nibs_length]
theorem nibs_snoc (l : List UInt8) (b : UInt8) : nibs (l ++ [b]) = nibs l ++ [b.toNat / 16, b.toNat % 16] := by simp [nibs]
theorem lackL_snoc (l : List UInt8) (b : UInt8) : lackL (l ++ [b]) = lackL l + ((15 - b.toNat / 16) + (15 - b.toNat % 16)) := by simp [lackL]
theorem lackL_le (l : List UInt8) : lackL l ≤ 30 * l.length := by
  induction l with
  | nil => simp [lackL]
  | cons b l ih =>
    have e : lackL (b :: l) = (15 - b.toNat / 16) + (15 - b.toNat % 16) + lackL l := by simp [lackL]
    rw [e, List.length_cons]; omega
def lackN (l : List Nat) : Nat := (l.map fun n => 15 - n).sum
theorem lackN_nibs (l : List UInt8) : lackN (nibs l) = lackL l := by
  induction l with
  | nil => rfl
  | cons b l ih =>
    have e : lackL (b :: l) = (15 - b.toNat / 16) + (15 - b.toNat % 16) + lackL l := by simp [lackL]
    have e2 : nibs (b :: l) = b.toNat / 16 :: b.toNat % 16 :: nibs l := by simp [nibs]
    rw [e, e2, ← ih]
    simp [lackN]; omega
theorem lackN_take (l : List Nat) (k : Nat) (h : k < l.length) : lackN (l.take (k + 1)) = lackN (l.take k) + (15 - l.getD k 0) := by
  have e : l.getD k 0 = l[k] := by simp [h]
  rw [e, List.take_succ_eq_append_getElem h]
  simp only [lackN, List.map_append, List.sum_append, List.map_cons, List.map_nil, List.sum_cons, List.sum_nil, Nat.add_zero]
theorem lackN_le (l : List Nat) : lackN l ≤ 15 * l.length := by
  induction l with
  | nil => simp [lackN]
  | cons b l ih =>
    have e : lackN (b :: l) = (15 - b) + lackN l := by simp [lackN]
    rw [e, List.length_cons]; omega
theorem nibs_lt (l : List UInt8) : ∀ n ∈ nibs l, n < 16 := by
  intro n hn
  simp only [nibs, List.mem_flatMap, List.mem_cons, List.not_mem_nil, or_false] at hn
  obtain ⟨b, _, h | h⟩ := hn
  · have := b.toNat_lt; omega
  · omega
theorem getD_lt (l : List Nat) (m : Nat) (hm : 0 < m) (h : ∀ n ∈ l, n < m) (k : Nat) : l.getD k 0 < m := by
  rw [List.getD_eq_getElem?_getD]
  cases hk : l[k]? with
  | none => simpa using hm
  | some n => exact h n (List.mem_of_getElem? hk)
theorem digL_lt (l : List UInt8) (h : l.length ≤ 128) : ∀ n ∈ digL l, n < 16 := by
  intro n hn
  have hle := lackL_le l
  simp only [digL, List.mem_append, List.mem_cons, List.not_mem_nil, or_false] at hn
  rcases hn with h1 | h1 | h1 | h1
  · exact nibs_lt l n h1
  · omega
  · omega
  · omega
theorem ints_get? (l : List Nat) (k : Nat) (h : k < l.length) : (l.map intV)[k]? = some (.int .i64 (l.getD k 0 : Nat)) := by
  simp [h, intV]
theorem and15 (b : UInt8) : bits BinOp.and IntKind.u8 (b.toNat : Int) 15 = ((b.toNat % 16 : Nat) : Int) := by
  have h : ∀ b : UInt8, bits BinOp.and IntKind.u8 (b.toNat : Int) 15 = ((b.toNat % 16 : Nat) : Int) := by
    intro b
    show IntKind.u8.wrap ((BitVec.ofInt 8 (b.toNat : Int) &&& BitVec.ofInt 8 15).toNat : Int) = _
    rw [BitVec.toNat_and]
    have e1 : (BitVec.ofInt 8 15).toNat = 2 ^ 4 - 1 := by decide
    have hb := b.toNat_lt
    rw [e1, Nat.and_two_pow_sub_one_eq_mod, BitVec.toNat_ofInt, IntKind.wrap_u8]
    omega
  exact h b
theorem and15i (n : Nat) : bits BinOp.and IntKind.i64 (n : Int) 15 = ((n % 16 : Nat) : Int) := by
  show IntKind.i64.wrap ((BitVec.ofInt 64 (n : Int) &&& BitVec.ofInt 64 15).toNat : Int) = _
  rw [BitVec.toNat_and]
  have e1 : (BitVec.ofInt 64 15).toNat = 2 ^ 4 - 1 := by decide
  rw [e1, Nat.and_two_pow_sub_one_eq_mod, BitVec.toNat_ofInt, IntKind.wrap_i64]
  omega
theorem data_take (s : ByteArray) (k : Nat) (h : k < s.size) : s.data.toList.take (k + 1) = s.data.toList.take k ++ [s[k]] := by
  rw [List.take_succ_eq_append_getElem (by simpa using h)]; rfl
end Go.Pal
