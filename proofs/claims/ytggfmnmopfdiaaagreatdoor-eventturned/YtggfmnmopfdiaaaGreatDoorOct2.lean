/-
  Contracts of package octets and of the document's own numbers: a number in one, two or four bytes.
-/
import Derived.Test.YtggfmnmopfdiaaaGreatDoorRows
import Derived.Test.YtggfmnmopfdiaaaGreatDoorPlain
import Derived.WalkKit
import Derived.WalkSpells
import Derived.WalkLawsBesides
import Derived.Deep.Light
namespace Go.Proofs.YtggfmnmopfdiaaaGreatDoor
open Go.RowKit Go.Pal

/-- string(b) of a new row of bytes. -/
theorem conv_new (w : World) (xs : List Int) (c : Nat) :
    (convert 79 9 (.slice (some ⟨w.heap.size, 0, none⟩) xs.length c)).run Tryz.prog (w.alloc (.cells (xs.map (Value.int .u8)).toArray 5)) = .ok (.string (strOfNums xs)) (w.alloc (.cells (xs.map (Value.int .u8)).toArray 5)) := by
  refine run_convert_bytes_arg (P := Tryz.prog) _ 79 5 Tryz.underlying79 Tryz.underlying5 w.heap.size 0 xs.length c xs rfl (fun i hi => ?_) 9 Tryz.underlying9
  rw [World.cell?_alloc_mark]
  simp [hi]

theorem ret_sb {a b : ByteArray} {x : Bool} (h : a = b) : Ending.returned (.tuple #[.string a, .bool x]) = .returned (.tuple #[.string b, .bool x]) := by rw [h]
theorem ret_s {a b : ByteArray} (h : a = b) : Ending.returned (.string a) = .returned (.string b) := by rw [h]
theorem ret_i {a b : Int} (h : a = b) : Ending.returned (.int .i64 a) = .returned (.int .i64 b) := by rw [h]
theorem ret_b {a b : Bool} (h : a = b) : Ending.returned (.bool a) = .returned (.bool b) := by rw [h]

theorem nums1 (n : Nat) : strOfNums [(n : Int)] = be 1 n := by
  rw [be1]; simp [strOfNums]
theorem nums2 (n : Nat) : strOfNums [(n : Int) / 256, (n : Int) % 256] = be 2 n := by
  rw [be2]
  have h1 : ((n : Int) / 256).toNat = n / 256 := by omega
  have h2 : ((n : Int) % 256).toNat = n % 256 := by omega
  simp [strOfNums, h1, h2, ofNat_mod]

theorem nums4 (n : Nat) : strOfNums [(n : Int) / 16777216, (n : Int) / 65536 % 256, (n : Int) / 256 % 256, (n : Int) % 256] = be 4 n := by
  rw [be4]
  have h0 : ((n : Int) / 16777216).toNat = n / 256 / 256 / 256 := by omega
  have h1 : ((n : Int) / 65536 % 256).toNat = n / 256 / 256 % 256 := by omega
  have h2 : ((n : Int) / 256 % 256).toNat = n / 256 % 256 := by omega
  have h3 : ((n : Int) % 256).toNat = n % 256 := by omega
  simp only [strOfNums, List.map_cons, List.map_nil, h0, h1, h2, h3, ofNat_mod]

set_option maxHeartbeats 400000 in
theorem lay1 (n : Nat) (hn : n < 256) (w : World) :
    Calls Tryz.prog 86 #[.int .i64 n, .int .i64 1] w fun e w' => e = .returned (.tuple #[.string (be 1 n), .bool true]) ∧ Below w.heap.size w w' := by
  have hmk : ∀ w : World, (Instr.makeSlice 79 (.int .i64 1) (.int .i64 1)).run Tryz.prog w = .ok (.slice (some ⟨w.heap.size, 0, none⟩) 1 1) (w.alloc (.cells #[.int .u8 0] 5)) := fun _ => by kernel_rfl
  have hcv := fun x => conv_new w [x] 1
  simp only [List.length_cons, List.length_nil, List.map_cons, List.map_nil] at hcv
  have h1 : decide ((n : Int) < 0) = false := by simp
  have h2 : ((n : Int) / 256 != 0) = false := by simp; omega
  go_enter Tryz.func86, Tryz.ntmps86
  go_wp2
  refine wp_loop_rounds 2 ?_; rw [rounds_succ]
  go_wp2
  rw [rounds_succ]
  go_wp2
  go_ret2
  exact ⟨ret_sb (nums1 n), (Below.refl _ _).alloc (Nat.le_refl _) _⟩

set_option maxHeartbeats 400000 in
theorem lay2 (n : Nat) (hn : n < 65536) (w : World) :
    Calls Tryz.prog 86 #[.int .i64 n, .int .i64 2] w fun e w' => e = .returned (.tuple #[.string (be 2 n), .bool true]) ∧ Below w.heap.size w w' := by
  have hmk : ∀ w : World, (Instr.makeSlice 79 (.int .i64 2) (.int .i64 2)).run Tryz.prog w = .ok (.slice (some ⟨w.heap.size, 0, none⟩) 2 2) (w.alloc (.cells #[.int .u8 0, .int .u8 0] 5)) := fun _ => by kernel_rfl
  have hcv := fun x y => conv_new w [x, y] 2
  simp only [List.length_cons, List.length_nil, List.map_cons, List.map_nil] at hcv
  have h1 : decide ((n : Int) < 0) = false := by simp
  have h2 : ((n : Int) / 65536 != 0) = false := by simp; omega
  go_enter Tryz.func86, Tryz.ntmps86
  go_wp2
  refine wp_loop_rounds 3 ?_; rw [rounds_succ]
  go_wp2
  rw [rounds_succ]
  go_wp2
  rw [rounds_succ]
  go_wp2
  go_ret2
  exact ⟨ret_sb (nums2 n), (Below.refl _ _).alloc (Nat.le_refl _) _⟩

set_option maxHeartbeats 400000 in
theorem lay4 (n : Nat) (hn : n < 4294967296) (w : World) :
    Calls Tryz.prog 86 #[.int .i64 n, .int .i64 4] w fun e w' => e = .returned (.tuple #[.string (be 4 n), .bool true]) ∧ Below w.heap.size w w' := by
  have hmk : ∀ w : World, (Instr.makeSlice 79 (.int .i64 4) (.int .i64 4)).run Tryz.prog w = .ok (.slice (some ⟨w.heap.size, 0, none⟩) 4 4) (w.alloc (.cells #[.int .u8 0, .int .u8 0, .int .u8 0, .int .u8 0] 5)) := fun _ => by kernel_rfl
  have hcv := fun x y z u => conv_new w [x, y, z, u] 4
  simp only [List.length_cons, List.length_nil, List.map_cons, List.map_nil] at hcv
  have h1 : decide ((n : Int) < 0) = false := by simp
  have h2 : ((n : Int) / 4294967296 != 0) = false := by simp; omega
  go_enter Tryz.func86, Tryz.ntmps86
  go_wp2
  refine wp_loop_rounds 5 ?_; rw [rounds_succ]
  go_wp2
  rw [rounds_succ]
  go_wp2
  rw [rounds_succ]
  go_wp2
  rw [rounds_succ]
  go_wp2
  rw [rounds_succ]
  go_wp2
  go_ret2
  exact ⟨ret_sb (nums4 n), (Below.refl _ _).alloc (Nat.le_refl _) _⟩

set_option maxHeartbeats 400000 in
theorem lay_neg (n k : Int) (hn : n < 0) (w : World) :
    Calls Tryz.prog 86 #[.int .i64 n, .int .i64 k] w fun e w' => e = .returned (.tuple #[.string ByteArray.empty, .bool false]) ∧ w' = w := by
  have h1 : decide (n < 0) = true := by simpa using hn
  go_enter Tryz.func86, Tryz.ntmps86
  go_wp2
  go_ret2
  exact ⟨rfl, rfl⟩

set_option maxHeartbeats 400000 in
theorem lay1_no (n : Int) (h : 256 ≤ n) (hm : n ≤ 9223372036854775807) (w : World) :
    Calls Tryz.prog 86 #[.int .i64 n, .int .i64 1] w fun e w' => e = .returned (.tuple #[.string ByteArray.empty, .bool false]) ∧ w' = w := by
  have h1 : decide (n < 0) = false := by simp; omega
  have h2 : (n / 256 != 0) = true := by simp; omega
  go_enter Tryz.func86, Tryz.ntmps86
  go_wp2
  go_ret2
  exact ⟨rfl, rfl⟩

set_option maxHeartbeats 400000 in
theorem lay2_no (n : Int) (h : 65536 ≤ n) (hm : n ≤ 9223372036854775807) (w : World) :
    Calls Tryz.prog 86 #[.int .i64 n, .int .i64 2] w fun e w' => e = .returned (.tuple #[.string ByteArray.empty, .bool false]) ∧ w' = w := by
  have h1 : decide (n < 0) = false := by simp; omega
  have h2 : (n / 65536 != 0) = true := by simp; omega
  go_enter Tryz.func86, Tryz.ntmps86
  go_wp2
  go_ret2
  exact ⟨rfl, rfl⟩

set_option maxHeartbeats 400000 in
theorem lay4_no (n : Int) (h : 4294967296 ≤ n) (hm : n ≤ 9223372036854775807) (w : World) :
    Calls Tryz.prog 86 #[.int .i64 n, .int .i64 4] w fun e w' => e = .returned (.tuple #[.string ByteArray.empty, .bool false]) ∧ w' = w := by
  have h1 : decide (n < 0) = false := by simp; omega
  have h2 : (n / 4294967296 != 0) = true := by simp; omega
  go_enter Tryz.func86, Tryz.ntmps86
  go_wp2
  go_ret2
  exact ⟨rfl, rfl⟩

end Go.Proofs.YtggfmnmopfdiaaaGreatDoor
