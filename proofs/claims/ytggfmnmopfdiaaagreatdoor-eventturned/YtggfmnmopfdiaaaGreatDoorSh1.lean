/-
  Contracts of what turns words: bits.RotateLeft32, turn, lowSum, highSum.
-/
import Derived.Test.YtggfmnmopfdiaaaGreatDoorRows
import Derived.Test.YtggfmnmopfdiaaaGreatDoorShSt
import Derived.WalkKit
import Derived.WalkSpells
import Derived.WalkLawsBesides
import Derived.Deep.Light
namespace Go.Proofs.YtggfmnmopfdiaaaGreatDoor
open Go.RowKit Go.Pal

theorem ret_u {a b : Int} (h : a = b) : Ending.returned (.int .u32 a) = .returned (.int .u32 b) := by rw [h]

set_option maxHeartbeats 400000 in
theorem turn2 (x : UInt32) (w : World) :
    Calls Tryz.prog 99 #[.int .u32 (u x), .int .u32 2] w fun e w' => e = .returned (.int .u32 (u (rotr 2 x))) ∧ w = w' := by
  have h0 := u_nonneg x
  have h1 := u_le x
  go_enter Tryz.func99, Tryz.ntmps99
  go_wp2
  go_ret
  exact ⟨ret_u (rotr2_right x), rfl⟩

set_option maxHeartbeats 400000 in
theorem rot2 (x : UInt32) (w : World) :
    Calls Tryz.prog 129 #[.int .u32 (u x), .int .i64 (-2)] w fun e w' => e = .returned (.int .u32 (u (rotr 2 x))) ∧ w = w' := by
  have h0 := u_nonneg x
  have h1 := u_le x
  have hs : bits BinOp.and IntKind.u64 (IntKind.u64.wrap (-2)) 31 = 30 := by decide
  go_enter Tryz.func129, Tryz.ntmps129
  go_wp2
  go_ret
  exact ⟨ret_u (rotr2_left x), rfl⟩

set_option maxHeartbeats 400000 in
theorem turn13 (x : UInt32) (w : World) :
    Calls Tryz.prog 99 #[.int .u32 (u x), .int .u32 13] w fun e w' => e = .returned (.int .u32 (u (rotr 13 x))) ∧ w = w' := by
  have h0 := u_nonneg x
  have h1 := u_le x
  go_enter Tryz.func99, Tryz.ntmps99
  go_wp2
  go_ret
  exact ⟨ret_u (rotr13_right x), rfl⟩

set_option maxHeartbeats 400000 in
theorem rot13 (x : UInt32) (w : World) :
    Calls Tryz.prog 129 #[.int .u32 (u x), .int .i64 (-13)] w fun e w' => e = .returned (.int .u32 (u (rotr 13 x))) ∧ w = w' := by
  have h0 := u_nonneg x
  have h1 := u_le x
  have hs : bits BinOp.and IntKind.u64 (IntKind.u64.wrap (-13)) 31 = 19 := by decide
  go_enter Tryz.func129, Tryz.ntmps129
  go_wp2
  go_ret
  exact ⟨ret_u (rotr13_left x), rfl⟩

set_option maxHeartbeats 400000 in
theorem turn22 (x : UInt32) (w : World) :
    Calls Tryz.prog 99 #[.int .u32 (u x), .int .u32 22] w fun e w' => e = .returned (.int .u32 (u (rotr 22 x))) ∧ w = w' := by
  have h0 := u_nonneg x
  have h1 := u_le x
  go_enter Tryz.func99, Tryz.ntmps99
  go_wp2
  go_ret
  exact ⟨ret_u (rotr22_right x), rfl⟩

set_option maxHeartbeats 400000 in
theorem rot22 (x : UInt32) (w : World) :
    Calls Tryz.prog 129 #[.int .u32 (u x), .int .i64 (-22)] w fun e w' => e = .returned (.int .u32 (u (rotr 22 x))) ∧ w = w' := by
  have h0 := u_nonneg x
  have h1 := u_le x
  have hs : bits BinOp.and IntKind.u64 (IntKind.u64.wrap (-22)) 31 = 10 := by decide
  go_enter Tryz.func129, Tryz.ntmps129
  go_wp2
  go_ret
  exact ⟨ret_u (rotr22_left x), rfl⟩

set_option maxHeartbeats 400000 in
theorem turn6 (x : UInt32) (w : World) :
    Calls Tryz.prog 99 #[.int .u32 (u x), .int .u32 6] w fun e w' => e = .returned (.int .u32 (u (rotr 6 x))) ∧ w = w' := by
  have h0 := u_nonneg x
  have h1 := u_le x
  go_enter Tryz.func99, Tryz.ntmps99
  go_wp2
  go_ret
  exact ⟨ret_u (rotr6_right x), rfl⟩

set_option maxHeartbeats 400000 in
theorem rot6 (x : UInt32) (w : World) :
    Calls Tryz.prog 129 #[.int .u32 (u x), .int .i64 (-6)] w fun e w' => e = .returned (.int .u32 (u (rotr 6 x))) ∧ w = w' := by
  have h0 := u_nonneg x
  have h1 := u_le x
  have hs : bits BinOp.and IntKind.u64 (IntKind.u64.wrap (-6)) 31 = 26 := by decide
  go_enter Tryz.func129, Tryz.ntmps129
  go_wp2
  go_ret
  exact ⟨ret_u (rotr6_left x), rfl⟩

set_option maxHeartbeats 400000 in
theorem turn11 (x : UInt32) (w : World) :
    Calls Tryz.prog 99 #[.int .u32 (u x), .int .u32 11] w fun e w' => e = .returned (.int .u32 (u (rotr 11 x))) ∧ w = w' := by
  have h0 := u_nonneg x
  have h1 := u_le x
  go_enter Tryz.func99, Tryz.ntmps99
  go_wp2
  go_ret
  exact ⟨ret_u (rotr11_right x), rfl⟩

set_option maxHeartbeats 400000 in
theorem rot11 (x : UInt32) (w : World) :
    Calls Tryz.prog 129 #[.int .u32 (u x), .int .i64 (-11)] w fun e w' => e = .returned (.int .u32 (u (rotr 11 x))) ∧ w = w' := by
  have h0 := u_nonneg x
  have h1 := u_le x
  have hs : bits BinOp.and IntKind.u64 (IntKind.u64.wrap (-11)) 31 = 21 := by decide
  go_enter Tryz.func129, Tryz.ntmps129
  go_wp2
  go_ret
  exact ⟨ret_u (rotr11_left x), rfl⟩

set_option maxHeartbeats 400000 in
theorem turn25 (x : UInt32) (w : World) :
    Calls Tryz.prog 99 #[.int .u32 (u x), .int .u32 25] w fun e w' => e = .returned (.int .u32 (u (rotr 25 x))) ∧ w = w' := by
  have h0 := u_nonneg x
  have h1 := u_le x
  go_enter Tryz.func99, Tryz.ntmps99
  go_wp2
  go_ret
  exact ⟨ret_u (rotr25_right x), rfl⟩

set_option maxHeartbeats 400000 in
theorem rot25 (x : UInt32) (w : World) :
    Calls Tryz.prog 129 #[.int .u32 (u x), .int .i64 (-25)] w fun e w' => e = .returned (.int .u32 (u (rotr 25 x))) ∧ w = w' := by
  have h0 := u_nonneg x
  have h1 := u_le x
  have hs : bits BinOp.and IntKind.u64 (IntKind.u64.wrap (-25)) 31 = 7 := by decide
  go_enter Tryz.func129, Tryz.ntmps129
  go_wp2
  go_ret
  exact ⟨ret_u (rotr25_left x), rfl⟩

set_option maxHeartbeats 400000 in
theorem turn7 (x : UInt32) (w : World) :
    Calls Tryz.prog 99 #[.int .u32 (u x), .int .u32 7] w fun e w' => e = .returned (.int .u32 (u (rotr 7 x))) ∧ w = w' := by
  have h0 := u_nonneg x
  have h1 := u_le x
  go_enter Tryz.func99, Tryz.ntmps99
  go_wp2
  go_ret
  exact ⟨ret_u (rotr7_right x), rfl⟩

set_option maxHeartbeats 400000 in
theorem rot7 (x : UInt32) (w : World) :
    Calls Tryz.prog 129 #[.int .u32 (u x), .int .i64 (-7)] w fun e w' => e = .returned (.int .u32 (u (rotr 7 x))) ∧ w = w' := by
  have h0 := u_nonneg x
  have h1 := u_le x
  have hs : bits BinOp.and IntKind.u64 (IntKind.u64.wrap (-7)) 31 = 25 := by decide
  go_enter Tryz.func129, Tryz.ntmps129
  go_wp2
  go_ret
  exact ⟨ret_u (rotr7_left x), rfl⟩

set_option maxHeartbeats 400000 in
theorem turn18 (x : UInt32) (w : World) :
    Calls Tryz.prog 99 #[.int .u32 (u x), .int .u32 18] w fun e w' => e = .returned (.int .u32 (u (rotr 18 x))) ∧ w = w' := by
  have h0 := u_nonneg x
  have h1 := u_le x
  go_enter Tryz.func99, Tryz.ntmps99
  go_wp2
  go_ret
  exact ⟨ret_u (rotr18_right x), rfl⟩

set_option maxHeartbeats 400000 in
theorem rot18 (x : UInt32) (w : World) :
    Calls Tryz.prog 129 #[.int .u32 (u x), .int .i64 (-18)] w fun e w' => e = .returned (.int .u32 (u (rotr 18 x))) ∧ w = w' := by
  have h0 := u_nonneg x
  have h1 := u_le x
  have hs : bits BinOp.and IntKind.u64 (IntKind.u64.wrap (-18)) 31 = 14 := by decide
  go_enter Tryz.func129, Tryz.ntmps129
  go_wp2
  go_ret
  exact ⟨ret_u (rotr18_left x), rfl⟩

set_option maxHeartbeats 400000 in
theorem turn17 (x : UInt32) (w : World) :
    Calls Tryz.prog 99 #[.int .u32 (u x), .int .u32 17] w fun e w' => e = .returned (.int .u32 (u (rotr 17 x))) ∧ w = w' := by
  have h0 := u_nonneg x
  have h1 := u_le x
  go_enter Tryz.func99, Tryz.ntmps99
  go_wp2
  go_ret
  exact ⟨ret_u (rotr17_right x), rfl⟩

set_option maxHeartbeats 400000 in
theorem rot17 (x : UInt32) (w : World) :
    Calls Tryz.prog 129 #[.int .u32 (u x), .int .i64 (-17)] w fun e w' => e = .returned (.int .u32 (u (rotr 17 x))) ∧ w = w' := by
  have h0 := u_nonneg x
  have h1 := u_le x
  have hs : bits BinOp.and IntKind.u64 (IntKind.u64.wrap (-17)) 31 = 15 := by decide
  go_enter Tryz.func129, Tryz.ntmps129
  go_wp2
  go_ret
  exact ⟨ret_u (rotr17_left x), rfl⟩

set_option maxHeartbeats 400000 in
theorem turn19 (x : UInt32) (w : World) :
    Calls Tryz.prog 99 #[.int .u32 (u x), .int .u32 19] w fun e w' => e = .returned (.int .u32 (u (rotr 19 x))) ∧ w = w' := by
  have h0 := u_nonneg x
  have h1 := u_le x
  go_enter Tryz.func99, Tryz.ntmps99
  go_wp2
  go_ret
  exact ⟨ret_u (rotr19_right x), rfl⟩

set_option maxHeartbeats 400000 in
theorem rot19 (x : UInt32) (w : World) :
    Calls Tryz.prog 129 #[.int .u32 (u x), .int .i64 (-19)] w fun e w' => e = .returned (.int .u32 (u (rotr 19 x))) ∧ w = w' := by
  have h0 := u_nonneg x
  have h1 := u_le x
  have hs : bits BinOp.and IntKind.u64 (IntKind.u64.wrap (-19)) 31 = 13 := by decide
  go_enter Tryz.func129, Tryz.ntmps129
  go_wp2
  go_ret
  exact ⟨ret_u (rotr19_left x), rfl⟩


set_option maxHeartbeats 400000 in
theorem low_any (x : UInt32) (w : World) :
    Calls Tryz.prog 122 #[.int .u32 (u x)] w fun e w' => e = .returned (.int .u32 (u (lowS x))) ∧ w = w' := by
  go_enter Tryz.func122, Tryz.ntmps122
  go_wp2_with fail
  refine (rot2 x _).mono ?_
  rintro e w1 ⟨rfl, rfl⟩
  go_wp2_with fail
  refine (rot13 x _).mono ?_
  rintro e w1 ⟨rfl, rfl⟩
  go_wp2_with fail
  refine (rot22 x _).mono ?_
  rintro e w1 ⟨rfl, rfl⟩
  go_wp2
  go_ret
  refine ⟨ret_u ?_, rfl⟩
  go_light
  rw [u_xor, u_xor]; rfl

set_option maxHeartbeats 400000 in
theorem high_any (x : UInt32) (w : World) :
    Calls Tryz.prog 121 #[.int .u32 (u x)] w fun e w' => e = .returned (.int .u32 (u (highS x))) ∧ w = w' := by
  go_enter Tryz.func121, Tryz.ntmps121
  go_wp2_with fail
  refine (rot6 x _).mono ?_
  rintro e w1 ⟨rfl, rfl⟩
  go_wp2_with fail
  refine (rot11 x _).mono ?_
  rintro e w1 ⟨rfl, rfl⟩
  go_wp2_with fail
  refine (rot25 x _).mono ?_
  rintro e w1 ⟨rfl, rfl⟩
  go_wp2
  go_ret
  refine ⟨ret_u ?_, rfl⟩
  go_light
  rw [u_xor, u_xor]; rfl

end Go.Proofs.YtggfmnmopfdiaaaGreatDoor
