/-
  Contracts of the document's own Number (in one, two or four bytes) and of Text, the program's and the document's.
-/
import Derived.Test.YtggfmnmopfdiaaaGreatDoorOct3
namespace Go.Proofs.YtggfmnmopfdiaaaGreatDoor
open Go.RowKit Go.Pal

theorem conv_one (w : World) (b : Nat) (x : Int) (hb : b = w.heap.size) :
    (convert 79 9 (.slice (some ⟨b, 0, none⟩) 1 1)).run Tryz.prog (w.alloc (.cells #[.int .u8 x] 5)) = .ok (.string ⟨#[UInt8.ofNat x.toNat]⟩) (w.alloc (.cells #[.int .u8 x] 5)) := by
  subst hb; exact conv_new w [x] 1

theorem cat1 (n : Nat) : (⟨#[UInt8.ofNat (n % 256)]⟩ ++ ⟨#[]⟩ : ByteArray) = be 1 n := by
  rw [be1, ofNat_mod, ByteArray.ext_iff]; simp [ByteArray.data_append]
theorem cat2 (n : Nat) : (⟨#[UInt8.ofNat (n / 256 % 256)]⟩ ++ (⟨#[UInt8.ofNat (n % 256)]⟩ ++ ⟨#[]⟩) : ByteArray) = be 2 n := by
  rw [be2, ofNat_mod, ofNat_mod, ByteArray.ext_iff]; simp [ByteArray.data_append]
theorem cat4 (n : Nat) : (⟨#[UInt8.ofNat (n / 256 / 256 / 256 % 256)]⟩ ++ (⟨#[UInt8.ofNat (n / 256 / 256 % 256)]⟩ ++ (⟨#[UInt8.ofNat (n / 256 % 256)]⟩ ++ (⟨#[UInt8.ofNat (n % 256)]⟩ ++ ⟨#[]⟩))) : ByteArray) = be 4 n := by
  rw [be4, ofNat_mod, ofNat_mod, ofNat_mod, ofNat_mod, ByteArray.ext_iff]; simp [ByteArray.data_append]

set_option maxHeartbeats 400000 in
theorem number1 (n : Nat) (hn : n < 256) (w : World) :
    Calls Tryz.prog 33 #[.int .i64 n, .int .i64 1] w fun e w' => e = .returned (.tuple #[.string (be 1 n), .bool true]) ∧ Below w.heap.size w w' := by
  have hcv := conv_one
  have h1 : decide ((n : Int) < 0) = false := by simp
  have h2 : decide (256 ≤ (n : Int)) = false := by simp; omega
  go_enter Tryz.func33, Tryz.ntmps33
  go_wp2
  refine wp_loop_rounds 2 ?_; rw [rounds_succ]
  go_wp2
  rw [rounds_succ]
  go_wp2
  refine wp_loop_rounds 2 ?_; rw [rounds_succ]
  go_wp2
  rw [rounds_succ]
  go_wp2
  go_ret2
  refine ⟨ret_sb ?_, ?_⟩
  · go_light
    exact cat1 n
  · go_light
    exact ((Below.refl _ _).alloc (by simp <;> omega) _)

set_option maxHeartbeats 400000 in
theorem number1_neg (n : Int) (h : n < 0) (w : World) :
    Calls Tryz.prog 33 #[.int .i64 n, .int .i64 1] w fun e w' => e = .returned (.tuple #[.string ByteArray.empty, .bool false]) ∧ w' = w := by
  have h1 : decide (n < 0) = true := by simp; omega
  go_enter Tryz.func33, Tryz.ntmps33
  go_wp2
  refine wp_loop_rounds 2 ?_; rw [rounds_succ]
  go_wp2
  rw [rounds_succ]
  go_wp2
  go_ret2
  exact ⟨rfl, rfl⟩

set_option maxHeartbeats 400000 in
theorem number1_no (n : Int) (h : 256 ≤ n) (w : World) :
    Calls Tryz.prog 33 #[.int .i64 n, .int .i64 1] w fun e w' => e = .returned (.tuple #[.string ByteArray.empty, .bool false]) ∧ w' = w := by
  have h1 : decide (n < 0) = false := by simp; omega
  have h2 : decide (256 ≤ n) = true := by simp; omega
  go_enter Tryz.func33, Tryz.ntmps33
  go_wp2
  refine wp_loop_rounds 2 ?_; rw [rounds_succ]
  go_wp2
  rw [rounds_succ]
  go_wp2
  go_ret2
  exact ⟨rfl, rfl⟩

theorem number1_any (n : Int) (w : World) :
    Calls Tryz.prog 33 #[.int .i64 n, .int .i64 1] w fun e w' => e = .returned (.tuple #[.string (numB 1 n), .bool (numOk 1 n)]) ∧ Below w.heap.size w w' := by
  by_cases h0 : n < 0
  · have hk := numOk_no (k := 1) (Or.inl h0)
    rw [numB_no hk, hk]
    exact (number1_neg n h0 w).mono fun e w' ⟨he, hw⟩ => ⟨he, hw ▸ Below.refl _ _⟩
  · by_cases h1 : 256 ≤ n
    · have hk := numOk_no (k := 1) (n := n) (Or.inr (by simpa using h1))
      rw [numB_no hk, hk]
      exact (number1_no n h1 w).mono fun e w' ⟨he, hw⟩ => ⟨he, hw ▸ Below.refl _ _⟩
    · have hk := numOk_yes (k := 1) (n := n) (by omega) (by simp; omega)
      rw [numB_yes hk, hk]
      obtain ⟨m, rfl⟩ := Int.eq_ofNat_of_zero_le (a := n) (by omega)
      exact number1 m (by omega) w

set_option maxHeartbeats 400000 in
theorem number2 (n : Nat) (hn : n < 65536) (w : World) :
    Calls Tryz.prog 33 #[.int .i64 n, .int .i64 2] w fun e w' => e = .returned (.tuple #[.string (be 2 n), .bool true]) ∧ Below w.heap.size w w' := by
  have hcv := conv_one
  have h1 : decide ((n : Int) < 0) = false := by simp
  have h2 : decide (65536 ≤ (n : Int)) = false := by simp; omega
  go_enter Tryz.func33, Tryz.ntmps33
  go_wp2
  refine wp_loop_rounds 3 ?_; rw [rounds_succ]
  go_wp2
  rw [rounds_succ]
  go_wp2
  rw [rounds_succ]
  go_wp2
  refine wp_loop_rounds 3 ?_; rw [rounds_succ]
  go_wp2
  rw [rounds_succ]
  go_wp2
  rw [rounds_succ]
  go_wp2
  go_ret2
  refine ⟨ret_sb ?_, ?_⟩
  · go_light
    exact cat2 n
  · go_light
    exact (((Below.refl _ _).alloc (by simp <;> omega) _).alloc (by simp <;> omega) _)

set_option maxHeartbeats 400000 in
theorem number2_neg (n : Int) (h : n < 0) (w : World) :
    Calls Tryz.prog 33 #[.int .i64 n, .int .i64 2] w fun e w' => e = .returned (.tuple #[.string ByteArray.empty, .bool false]) ∧ w' = w := by
  have h1 : decide (n < 0) = true := by simp; omega
  go_enter Tryz.func33, Tryz.ntmps33
  go_wp2
  refine wp_loop_rounds 3 ?_; rw [rounds_succ]
  go_wp2
  rw [rounds_succ]
  go_wp2
  rw [rounds_succ]
  go_wp2
  go_ret2
  exact ⟨rfl, rfl⟩

set_option maxHeartbeats 400000 in
theorem number2_no (n : Int) (h : 65536 ≤ n) (w : World) :
    Calls Tryz.prog 33 #[.int .i64 n, .int .i64 2] w fun e w' => e = .returned (.tuple #[.string ByteArray.empty, .bool false]) ∧ w' = w := by
  have h1 : decide (n < 0) = false := by simp; omega
  have h2 : decide (65536 ≤ n) = true := by simp; omega
  go_enter Tryz.func33, Tryz.ntmps33
  go_wp2
  refine wp_loop_rounds 3 ?_; rw [rounds_succ]
  go_wp2
  rw [rounds_succ]
  go_wp2
  rw [rounds_succ]
  go_wp2
  go_ret2
  exact ⟨rfl, rfl⟩

theorem number2_any (n : Int) (w : World) :
    Calls Tryz.prog 33 #[.int .i64 n, .int .i64 2] w fun e w' => e = .returned (.tuple #[.string (numB 2 n), .bool (numOk 2 n)]) ∧ Below w.heap.size w w' := by
  by_cases h0 : n < 0
  · have hk := numOk_no (k := 2) (Or.inl h0)
    rw [numB_no hk, hk]
    exact (number2_neg n h0 w).mono fun e w' ⟨he, hw⟩ => ⟨he, hw ▸ Below.refl _ _⟩
  · by_cases h1 : 65536 ≤ n
    · have hk := numOk_no (k := 2) (n := n) (Or.inr (by simpa using h1))
      rw [numB_no hk, hk]
      exact (number2_no n h1 w).mono fun e w' ⟨he, hw⟩ => ⟨he, hw ▸ Below.refl _ _⟩
    · have hk := numOk_yes (k := 2) (n := n) (by omega) (by simp; omega)
      rw [numB_yes hk, hk]
      obtain ⟨m, rfl⟩ := Int.eq_ofNat_of_zero_le (a := n) (by omega)
      exact number2 m (by omega) w

set_option maxHeartbeats 400000 in
theorem number4 (n : Nat) (hn : n < 4294967296) (w : World) :
    Calls Tryz.prog 33 #[.int .i64 n, .int .i64 4] w fun e w' => e = .returned (.tuple #[.string (be 4 n), .bool true]) ∧ Below w.heap.size w w' := by
  have hcv := conv_one
  have h1 : decide ((n : Int) < 0) = false := by simp
  have h2 : decide (4294967296 ≤ (n : Int)) = false := by simp; omega
  go_enter Tryz.func33, Tryz.ntmps33
  go_wp2
  refine wp_loop_rounds 5 ?_; rw [rounds_succ]
  go_wp2
  rw [rounds_succ]
  go_wp2
  rw [rounds_succ]
  go_wp2
  rw [rounds_succ]
  go_wp2
  rw [rounds_succ]
  go_wp2
  refine wp_loop_rounds 5 ?_; rw [rounds_succ]
  go_wp2
  rw [rounds_succ]
  go_wp2
  rw [rounds_succ]
  go_wp2
  rw [rounds_succ]
  go_wp2
  rw [rounds_succ]
  go_wp2
  go_ret2
  refine ⟨ret_sb ?_, ?_⟩
  · go_light
    exact cat4 n
  · go_light
    exact (((((Below.refl _ _).alloc (by simp <;> omega) _).alloc (by simp <;> omega) _).alloc (by simp <;> omega) _).alloc (by simp <;> omega) _)

set_option maxHeartbeats 400000 in
theorem number4_neg (n : Int) (h : n < 0) (w : World) :
    Calls Tryz.prog 33 #[.int .i64 n, .int .i64 4] w fun e w' => e = .returned (.tuple #[.string ByteArray.empty, .bool false]) ∧ w' = w := by
  have h1 : decide (n < 0) = true := by simp; omega
  go_enter Tryz.func33, Tryz.ntmps33
  go_wp2
  refine wp_loop_rounds 5 ?_; rw [rounds_succ]
  go_wp2
  rw [rounds_succ]
  go_wp2
  rw [rounds_succ]
  go_wp2
  rw [rounds_succ]
  go_wp2
  rw [rounds_succ]
  go_wp2
  go_ret2
  exact ⟨rfl, rfl⟩

set_option maxHeartbeats 400000 in
theorem number4_no (n : Int) (h : 4294967296 ≤ n) (w : World) :
    Calls Tryz.prog 33 #[.int .i64 n, .int .i64 4] w fun e w' => e = .returned (.tuple #[.string ByteArray.empty, .bool false]) ∧ w' = w := by
  have h1 : decide (n < 0) = false := by simp; omega
  have h2 : decide (4294967296 ≤ n) = true := by simp; omega
  go_enter Tryz.func33, Tryz.ntmps33
  go_wp2
  refine wp_loop_rounds 5 ?_; rw [rounds_succ]
  go_wp2
  rw [rounds_succ]
  go_wp2
  rw [rounds_succ]
  go_wp2
  rw [rounds_succ]
  go_wp2
  rw [rounds_succ]
  go_wp2
  go_ret2
  exact ⟨rfl, rfl⟩

theorem number4_any (n : Int) (w : World) :
    Calls Tryz.prog 33 #[.int .i64 n, .int .i64 4] w fun e w' => e = .returned (.tuple #[.string (numB 4 n), .bool (numOk 4 n)]) ∧ Below w.heap.size w w' := by
  by_cases h0 : n < 0
  · have hk := numOk_no (k := 4) (Or.inl h0)
    rw [numB_no hk, hk]
    exact (number4_neg n h0 w).mono fun e w' ⟨he, hw⟩ => ⟨he, hw ▸ Below.refl _ _⟩
  · by_cases h1 : 4294967296 ≤ n
    · have hk := numOk_no (k := 4) (n := n) (Or.inr (by simpa using h1))
      rw [numB_no hk, hk]
      exact (number4_no n h1 w).mono fun e w' ⟨he, hw⟩ => ⟨he, hw ▸ Below.refl _ _⟩
    · have hk := numOk_yes (k := 4) (n := n) (by omega) (by simp; omega)
      rw [numB_yes hk, hk]
      obtain ⟨m, rfl⟩ := Int.eq_ofNat_of_zero_le (a := n) (by omega)
      exact number4 m (by omega) w

end Go.Proofs.YtggfmnmopfdiaaaGreatDoor
