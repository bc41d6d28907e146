/-
  Contracts of octets.Byte, Short, Long, Text and of the document's Number and Text.
-/
import Derived.Test.YtggfmnmopfdiaaaGreatDoorOct2
namespace Go.Proofs.YtggfmnmopfdiaaaGreatDoor
open Go.RowKit Go.Pal

/-- May a number be laid in so many bytes? -/
def numOk (k : Nat) (n : Int) : Bool := decide (0 ≤ n ∧ n < 256 ^ k)
def numB (k : Nat) (n : Int) : ByteArray := if numOk k n = true then be k n.toNat else ByteArray.empty

theorem numOk_yes {k : Nat} {n : Int} (h0 : 0 ≤ n) (h1 : n < 256 ^ k) : numOk k n = true := by simp [numOk, h0, h1]
theorem numOk_no {k : Nat} {n : Int} (h : n < 0 ∨ 256 ^ k ≤ n) : numOk k n = false := by simp [numOk]; omega
theorem numB_yes {k : Nat} {n : Int} (h : numOk k n = true) : numB k n = be k n.toNat := by simp [numB, h]
theorem numB_no {k : Nat} {n : Int} (h : numOk k n = false) : numB k n = ByteArray.empty := by simp [numB, h]

theorem lay1_any (n : Int) (hm : n ≤ 9223372036854775807) (w : World) :
    Calls Tryz.prog 86 #[.int .i64 n, .int .i64 1] w fun e w' => e = .returned (.tuple #[.string (numB 1 n), .bool (numOk 1 n)]) ∧ Below w.heap.size w w' := by
  by_cases h0 : n < 0
  · have hk := numOk_no (k := 1) (Or.inl h0)
    rw [numB_no hk, hk]
    exact (lay_neg n 1 h0 w).mono fun e w' ⟨he, hw⟩ => ⟨he, hw ▸ Below.refl _ _⟩
  · by_cases h1 : 256 ≤ n
    · have hk := numOk_no (k := 1) (n := n) (Or.inr (by simpa using h1))
      rw [numB_no hk, hk]
      exact (lay1_no n h1 hm w).mono fun e w' ⟨he, hw⟩ => ⟨he, hw ▸ Below.refl _ _⟩
    · have hk := numOk_yes (k := 1) (n := n) (by omega) (by simp; omega)
      rw [numB_yes hk, hk]
      obtain ⟨m, rfl⟩ := Int.eq_ofNat_of_zero_le (a := n) (by omega)
      exact lay1 m (by omega) w

set_option maxHeartbeats 400000 in
theorem byte_any (n : Int) (hm : n ≤ 9223372036854775807) (w : World) :
    Calls Tryz.prog 76 #[.int .i64 n] w fun e w' => e = .returned (.tuple #[.string (numB 1 n), .bool (numOk 1 n)]) ∧ Below w.heap.size w w' := by
  go_enter Tryz.func76, Tryz.ntmps76
  go_wp2_with (go_at_call 86; refine (lay1_any n hm _).mono ?_; rintro e w' ⟨rfl, hb⟩)
  go_ret2
  exact ⟨rfl, hb⟩

theorem lay2_any (n : Int) (hm : n ≤ 9223372036854775807) (w : World) :
    Calls Tryz.prog 86 #[.int .i64 n, .int .i64 2] w fun e w' => e = .returned (.tuple #[.string (numB 2 n), .bool (numOk 2 n)]) ∧ Below w.heap.size w w' := by
  by_cases h0 : n < 0
  · have hk := numOk_no (k := 2) (Or.inl h0)
    rw [numB_no hk, hk]
    exact (lay_neg n 2 h0 w).mono fun e w' ⟨he, hw⟩ => ⟨he, hw ▸ Below.refl _ _⟩
  · by_cases h1 : 65536 ≤ n
    · have hk := numOk_no (k := 2) (n := n) (Or.inr (by simpa using h1))
      rw [numB_no hk, hk]
      exact (lay2_no n h1 hm w).mono fun e w' ⟨he, hw⟩ => ⟨he, hw ▸ Below.refl _ _⟩
    · have hk := numOk_yes (k := 2) (n := n) (by omega) (by simp; omega)
      rw [numB_yes hk, hk]
      obtain ⟨m, rfl⟩ := Int.eq_ofNat_of_zero_le (a := n) (by omega)
      exact lay2 m (by omega) w

set_option maxHeartbeats 400000 in
theorem short_any (n : Int) (hm : n ≤ 9223372036854775807) (w : World) :
    Calls Tryz.prog 54 #[.int .i64 n] w fun e w' => e = .returned (.tuple #[.string (numB 2 n), .bool (numOk 2 n)]) ∧ Below w.heap.size w w' := by
  go_enter Tryz.func54, Tryz.ntmps54
  go_wp2_with (go_at_call 86; refine (lay2_any n hm _).mono ?_; rintro e w' ⟨rfl, hb⟩)
  go_ret2
  exact ⟨rfl, hb⟩

theorem lay4_any (n : Int) (hm : n ≤ 9223372036854775807) (w : World) :
    Calls Tryz.prog 86 #[.int .i64 n, .int .i64 4] w fun e w' => e = .returned (.tuple #[.string (numB 4 n), .bool (numOk 4 n)]) ∧ Below w.heap.size w w' := by
  by_cases h0 : n < 0
  · have hk := numOk_no (k := 4) (Or.inl h0)
    rw [numB_no hk, hk]
    exact (lay_neg n 4 h0 w).mono fun e w' ⟨he, hw⟩ => ⟨he, hw ▸ Below.refl _ _⟩
  · by_cases h1 : 4294967296 ≤ n
    · have hk := numOk_no (k := 4) (n := n) (Or.inr (by simpa using h1))
      rw [numB_no hk, hk]
      exact (lay4_no n h1 hm w).mono fun e w' ⟨he, hw⟩ => ⟨he, hw ▸ Below.refl _ _⟩
    · have hk := numOk_yes (k := 4) (n := n) (by omega) (by simp; omega)
      rw [numB_yes hk, hk]
      obtain ⟨m, rfl⟩ := Int.eq_ofNat_of_zero_le (a := n) (by omega)
      exact lay4 m (by omega) w

set_option maxHeartbeats 400000 in
theorem long_any (n : Int) (hm : n ≤ 9223372036854775807) (w : World) :
    Calls Tryz.prog 108 #[.int .i64 n] w fun e w' => e = .returned (.tuple #[.string (numB 4 n), .bool (numOk 4 n)]) ∧ Below w.heap.size w w' := by
  go_enter Tryz.func108, Tryz.ntmps108
  go_wp2_with (go_at_call 86; refine (lay4_any n hm _).mono ?_; rintro e w' ⟨rfl, hb⟩)
  go_ret2
  exact ⟨rfl, hb⟩

end Go.Proofs.YtggfmnmopfdiaaaGreatDoor
