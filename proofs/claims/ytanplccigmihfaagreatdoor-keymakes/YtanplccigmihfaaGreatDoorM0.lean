/-
  Plain mathematics for layer 4: trees of digests. No program in sight.
-/
import Derived.Test.YtanplccigmihfaaGreatDoorW2
namespace Go.Pal
open Go.RowKit

/-- Two roots of as many leaves. -/
def pairB (x y : ByteArray) : ByteArray := shaB ⟨(inputL 4 [x, y]).toArray⟩
theorem pairB_size (x y : ByteArray) : (pairB x y).size = 32 := shaB_size' _
/-- Where a path leads, step by step. -/
def foldAt (leaf : ByteArray) (i : Nat) (path : List ByteArray) : Nat → ByteArray
  | 0 => leaf
  | k + 1 => if i / 2 ^ k % 2 = 1 then pairB (path.getD k ByteArray.empty) (foldAt leaf i path k) else pairB (foldAt leaf i path k) (path.getD k ByteArray.empty)
theorem foldAt_size (leaf : ByteArray) (i : Nat) (path : List ByteArray) (h : leaf.size ≤ 1000000) : ∀ k, (foldAt leaf i path k).size ≤ 1000000
  | 0 => h
  | k + 1 => by
    unfold foldAt
    split
    · rw [pairB_size]; omega
    · rw [pairB_size]; omega
theorem half_step (i k : Nat) : i / 2 ^ (k + 1) = i / 2 ^ k / 2 := by rw [Nat.pow_succ, Nat.div_div_eq_div_mul]
/-- The row above a row. -/
def rowUp (l : List ByteArray) : List ByteArray := (List.range (l.length / 2)).map fun i => pairB (l.getD (2 * i) ByteArray.empty) (l.getD (2 * i + 1) ByteArray.empty)
theorem rowUp_length (l : List ByteArray) : (rowUp l).length = l.length / 2 := by simp [rowUp]
theorem rowUp_get (l : List ByteArray) (i : Nat) (h : i < l.length / 2) : (rowUp l).getD i ByteArray.empty = pairB (l.getD (2 * i) ByteArray.empty) (l.getD (2 * i + 1) ByteArray.empty) := by
  rw [List.getD_eq_getElem?_getD]
  simp [rowUp, List.getElem?_range h]
def rowN : Nat → List ByteArray → List ByteArray
  | 0, l => l
  | k + 1, l => rowUp (rowN k l)
theorem rowN_length (l : List ByteArray) : ∀ k, (rowN k l).length = l.length / 2 ^ k
  | 0 => by simp [rowN]
  | k + 1 => by rw [rowN, rowUp_length, rowN_length l k, half_step]
def SmallL (l : List ByteArray) : Prop := ∀ i, (l.getD i ByteArray.empty).size ≤ 1000000
theorem smallL_up (l : List ByteArray) : SmallL (rowUp l) := by
  intro i
  by_cases h : i < l.length / 2
  · rw [rowUp_get l i h, pairB_size]; omega
  · rw [List.getD_eq_getElem?_getD, List.getElem?_eq_none (by rw [rowUp_length]; omega)]
    show ByteArray.empty.size ≤ _; decide
theorem smallL_n (l : List ByteArray) (h : SmallL l) : ∀ k, SmallL (rowN k l)
  | 0 => h
  | _ + 1 => smallL_up _
theorem strs2t (w : World) (t : TypeId) (x y : ByteArray) : StrRow (w.alloc (.cells #[.string x, .string y] t)) (some ⟨w.heap.size, 0, none⟩) [x, y] := by
  refine .inr ⟨w.heap.size, 0, rfl, by simp, fun i hi => ?_⟩
  rw [World.cell?_alloc_mark]
  match i, hi with
  | 0, _ => rfl
  | 1, _ => rfl
/-- Texts as cells. -/
def strV (s : ByteArray) : Value := .string s
theorem strRow_blk {w : World} {B : Nat} {t : TypeId} {l : List ByteArray} (h : Blk w B t (l.map strV)) : StrRow w (some ⟨B, 0, none⟩) l := by
  refine .inr ⟨B, 0, rfl, h.lt, fun i hi => ?_⟩
  rw [Nat.zero_add, h.cell i]
  simp [hi, strV]
theorem strs_get? (l : List ByteArray) (k : Nat) (h : k < l.length) : (l.map strV)[k]? = some (.string (l.getD k ByteArray.empty)) := by
  simp [h, strV]
theorem madeS (n : Nat) : madeCells #[Value.string ⟨#[]⟩] n = (List.replicate n (Value.string ⟨#[]⟩)).toArray := by
  apply Array.ext'
  unfold madeCells
  simp
  rw [List.eq_replicate_iff]
  refine ⟨by simp, fun v hv => ?_⟩
  obtain ⟨i, _, rfl⟩ := List.mem_map.1 hv
  simp [Nat.mod_one]
theorem rowN_pow (l : List ByteArray) (H k : Nat) (hl : l.length = 2 ^ H) (hk : k ≤ H) : (rowN k l).length = 2 ^ (H - k) := by
  rw [rowN_length, hl, Nat.pow_div hk (by omega)]
theorem pow_le16 (n : Nat) (h : n ≤ 4) : 2 ^ n ≤ 16 := Nat.pow_le_pow_right (by omega) h
theorem pow_ge2 (n : Nat) (h : 0 < n) : 2 ≤ 2 ^ n := by
  obtain ⟨m, rfl⟩ : ∃ m, n = m + 1 := ⟨n - 1, by omega⟩
  have := Nat.two_pow_pos m
  rw [Nat.pow_succ]; omega
/-- May there be so many leaves? -/
def mayB (n : Nat) : Bool := n == 1 || n == 2 || n == 4 || n == 8 || n == 16
theorem may_pow (n : Nat) (h : mayB n = true) : ∃ H, H ≤ 4 ∧ n = 2 ^ H := by
  simp only [mayB, Bool.or_eq_true, beq_iff_eq] at h
  rcases h with (((h | h) | h) | h) | h
  · exact ⟨0, by omega, h⟩
  · exact ⟨1, by omega, h⟩
  · exact ⟨2, by omega, h⟩
  · exact ⟨3, by omega, h⟩
  · exact ⟨4, by omega, h⟩
theorem pow_may (H : Nat) (h : H ≤ 4) : mayB (2 ^ H) = true := by
  have : H = 0 ∨ H = 1 ∨ H = 2 ∨ H = 3 ∨ H = 4 := by omega
  rcases this with rfl | rfl | rfl | rfl | rfl <;> rfl
theorem and_may : ∀ n : Nat, n < 17 → (bits BinOp.and IntKind.i64 (n : Int) ((n : Int) - 1) == 0) = (mayB n || n == 0) := by decide +kernel
/-- What stands beside. -/
def beside (i : Nat) : Nat := if i % 2 = 0 then i + 1 else i - 1
theorem xor_beside : ∀ i : Nat, i < 16 → bits BinOp.xor IntKind.i64 (i : Int) 1 = (beside i : Int) := by decide +kernel
theorem beside_lt (i n : Nat) (h : i < 2 * n) : beside i < 2 * n := by unfold beside; split <;> omega
def pathTo (l : List ByteArray) (i k : Nat) : List ByteArray := (List.range k).map fun j => (rowN j l).getD (beside (i / 2 ^ j)) ByteArray.empty
theorem pathTo_succ (l : List ByteArray) (i k : Nat) : pathTo l i (k + 1) = pathTo l i k ++ [(rowN k l).getD (beside (i / 2 ^ k)) ByteArray.empty] := by simp [pathTo, List.range_succ]
theorem pathTo_length (l : List ByteArray) (i k : Nat) : (pathTo l i k).length = k := by simp [pathTo]
theorem pathTo_get (l : List ByteArray) (i H k : Nat) (h : k < H) : (pathTo l i H).getD k ByteArray.empty = (rowN k l).getD (beside (i / 2 ^ k)) ByteArray.empty := by
  rw [List.getD_eq_getElem?_getD, pathTo, List.getElem?_map, List.getElem?_range h]
  rfl
theorem div_lt_pow (i H k : Nat) (h : i < 2 ^ H) (hk : k ≤ H) : i / 2 ^ k < 2 ^ (H - k) := by
  rw [Nat.div_lt_iff_lt_mul (Nat.two_pow_pos k), ← Nat.pow_add, Nat.sub_add_cancel hk]
  exact h
/-- A leaf's path leads from it along its rows. -/
theorem fold_path (l : List ByteArray) (i H : Nat) (hl : l.length = 2 ^ H) (hi : i < 2 ^ H) : ∀ k, k ≤ H → foldAt (l.getD i ByteArray.empty) i (pathTo l i H) k = (rowN k l).getD (i / 2 ^ k) ByteArray.empty
  | 0, _ => by simp [foldAt, rowN]
  | k + 1, hk => by
    have hlt := div_lt_pow i H k hi (by omega)
    have hlen := rowN_pow l H k hl (by omega)
    have hp : 2 ^ (H - k) = 2 * 2 ^ (H - (k + 1)) := by rw [show H - k = (H - (k + 1)) + 1 by omega, Nat.pow_succ]; omega
    rw [foldAt, fold_path l i H hl hi k (by omega), pathTo_get l i H k (by omega), rowN, half_step, rowUp_get _ _ (by rw [hlen]; omega)]
    generalize i / 2 ^ k = q at *
    by_cases h : q % 2 = 1
    · rw [if_pos h, beside, if_neg (by omega), show 2 * (q / 2) = q - 1 by omega, show q - 1 + 1 = q by omega]
    · rw [if_neg h, beside, if_pos (by omega), show 2 * (q / 2) = q by omega]
end Go.Pal
