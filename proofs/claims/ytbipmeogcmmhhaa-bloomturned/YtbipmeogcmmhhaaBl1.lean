/-
  Contracts of bloom.Size and of the document's own.
-/
import Derived.Test.YtbipmeogcmmhhaaBl0
import Derived.Test.YtbipmeogcmmhhaaChecked
import Derived.WalkKit
namespace Go.Proofs.Ytbipmeogcmmhhaa
open Go.RowKit Go.Pal
set_option linter.unusedVariables false

set_option maxHeartbeats 1000000 in
theorem size_0 (n : Int) (h2 : n ≤ 6) (w : World) :
    Calls Try.prog 40 #[.int .i64 n] w fun e w' => e = .returned (.int .i64 64) ∧ w = w' := by
  have d0 : decide (6 < n) = false := by simp; omega
  clear  h2
  go_enter Try.func40, Try.ntmps40
  go_wp2
  refine wp_loop_rounds 8 ?_
  rw [rounds_succ]
  go_wp2
  go_ret
  exact ⟨rfl, rfl⟩

set_option maxHeartbeats 1000000 in
theorem size_1 (n : Int) (h1 : 6 < n) (h2 : n ≤ 12) (w : World) :
    Calls Try.prog 40 #[.int .i64 n] w fun e w' => e = .returned (.int .i64 128) ∧ w = w' := by
  have d0 : decide (6 < n) = true := by simp; omega
  have d1 : decide (12 < n) = false := by simp; omega
  clear h1 h2
  go_enter Try.func40, Try.ntmps40
  go_wp2
  refine wp_loop_rounds 8 ?_
  rw [rounds_succ]
  go_wp2
  rw [rounds_succ]
  go_wp2
  go_ret
  exact ⟨rfl, rfl⟩

set_option maxHeartbeats 1000000 in
theorem size_2 (n : Int) (h1 : 12 < n) (h2 : n ≤ 25) (w : World) :
    Calls Try.prog 40 #[.int .i64 n] w fun e w' => e = .returned (.int .i64 256) ∧ w = w' := by
  have d0 : decide (6 < n) = true := by simp; omega
  have d1 : decide (12 < n) = true := by simp; omega
  have d2 : decide (25 < n) = false := by simp; omega
  clear h1 h2
  go_enter Try.func40, Try.ntmps40
  go_wp2
  refine wp_loop_rounds 8 ?_
  rw [rounds_succ]
  go_wp2
  rw [rounds_succ]
  go_wp2
  rw [rounds_succ]
  go_wp2
  go_ret
  exact ⟨rfl, rfl⟩

set_option maxHeartbeats 1000000 in
theorem size_3 (n : Int) (h1 : 25 < n) (h2 : n ≤ 51) (w : World) :
    Calls Try.prog 40 #[.int .i64 n] w fun e w' => e = .returned (.int .i64 512) ∧ w = w' := by
  have d0 : decide (6 < n) = true := by simp; omega
  have d1 : decide (12 < n) = true := by simp; omega
  have d2 : decide (25 < n) = true := by simp; omega
  have d3 : decide (51 < n) = false := by simp; omega
  clear h1 h2
  go_enter Try.func40, Try.ntmps40
  go_wp2
  refine wp_loop_rounds 8 ?_
  rw [rounds_succ]
  go_wp2
  rw [rounds_succ]
  go_wp2
  rw [rounds_succ]
  go_wp2
  rw [rounds_succ]
  go_wp2
  go_ret
  exact ⟨rfl, rfl⟩

set_option maxHeartbeats 1000000 in
theorem size_4 (n : Int) (h1 : 51 < n) (h2 : n ≤ 102) (w : World) :
    Calls Try.prog 40 #[.int .i64 n] w fun e w' => e = .returned (.int .i64 1024) ∧ w = w' := by
  have d0 : decide (6 < n) = true := by simp; omega
  have d1 : decide (12 < n) = true := by simp; omega
  have d2 : decide (25 < n) = true := by simp; omega
  have d3 : decide (51 < n) = true := by simp; omega
  have d4 : decide (102 < n) = false := by simp; omega
  clear h1 h2
  go_enter Try.func40, Try.ntmps40
  go_wp2
  refine wp_loop_rounds 8 ?_
  rw [rounds_succ]
  go_wp2
  rw [rounds_succ]
  go_wp2
  rw [rounds_succ]
  go_wp2
  rw [rounds_succ]
  go_wp2
  rw [rounds_succ]
  go_wp2
  go_ret
  exact ⟨rfl, rfl⟩

set_option maxHeartbeats 1000000 in
theorem size_5 (n : Int) (h1 : 102 < n) (h2 : n ≤ 204) (w : World) :
    Calls Try.prog 40 #[.int .i64 n] w fun e w' => e = .returned (.int .i64 2048) ∧ w = w' := by
  have d0 : decide (6 < n) = true := by simp; omega
  have d1 : decide (12 < n) = true := by simp; omega
  have d2 : decide (25 < n) = true := by simp; omega
  have d3 : decide (51 < n) = true := by simp; omega
  have d4 : decide (102 < n) = true := by simp; omega
  have d5 : decide (204 < n) = false := by simp; omega
  clear h1 h2
  go_enter Try.func40, Try.ntmps40
  go_wp2
  refine wp_loop_rounds 8 ?_
  rw [rounds_succ]
  go_wp2
  rw [rounds_succ]
  go_wp2
  rw [rounds_succ]
  go_wp2
  rw [rounds_succ]
  go_wp2
  rw [rounds_succ]
  go_wp2
  rw [rounds_succ]
  go_wp2
  go_ret
  exact ⟨rfl, rfl⟩

set_option maxHeartbeats 1000000 in
theorem size_6 (n : Int) (h1 : 204 < n) (w : World) :
    Calls Try.prog 40 #[.int .i64 n] w fun e w' => e = .returned (.int .i64 4096) ∧ w = w' := by
  have d0 : decide (6 < n) = true := by simp; omega
  have d1 : decide (12 < n) = true := by simp; omega
  have d2 : decide (25 < n) = true := by simp; omega
  have d3 : decide (51 < n) = true := by simp; omega
  have d4 : decide (102 < n) = true := by simp; omega
  have d5 : decide (204 < n) = true := by simp; omega
  clear h1 
  go_enter Try.func40, Try.ntmps40
  go_wp2
  refine wp_loop_rounds 8 ?_
  rw [rounds_succ]
  go_wp2
  rw [rounds_succ]
  go_wp2
  rw [rounds_succ]
  go_wp2
  rw [rounds_succ]
  go_wp2
  rw [rounds_succ]
  go_wp2
  rw [rounds_succ]
  go_wp2
  rw [rounds_succ]
  go_wp2
  go_ret
  exact ⟨rfl, rfl⟩

theorem size_any (n : Int) (w : World) :
    Calls Try.prog 40 #[.int .i64 n] w fun e w' => e = .returned (.int .i64 (sizeB n)) ∧ w = w' := by
  unfold sizeB
  by_cases h0 : n ≤ 6
  · rw [if_pos h0]; exact size_0 n h0 w
  rw [if_neg h0]
  by_cases h1 : n ≤ 12
  · rw [if_pos h1]; exact size_1 n (by omega) h1 w
  rw [if_neg h1]
  by_cases h2 : n ≤ 25
  · rw [if_pos h2]; exact size_2 n (by omega) h2 w
  rw [if_neg h2]
  by_cases h3 : n ≤ 51
  · rw [if_pos h3]; exact size_3 n (by omega) h3 w
  rw [if_neg h3]
  by_cases h4 : n ≤ 102
  · rw [if_pos h4]; exact size_4 n (by omega) h4 w
  rw [if_neg h4]
  by_cases h5 : n ≤ 204
  · rw [if_pos h5]; exact size_5 n (by omega) h5 w
  rw [if_neg h5]
  exact size_6 n (by omega) w

set_option maxHeartbeats 1000000 in
theorem refsize_0 (n : Int) (h2 : n ≤ 6) (w : World) :
    Calls Try.prog 41 #[.int .i64 n] w fun e w' => e = .returned (.int .i64 64) ∧ w = w' := by
  have d0 : decide (n ≤ 6) = true := by simp; omega
  clear  h2
  go_enter Try.func41, Try.ntmps41
  go_wp2
  refine wp_loop_rounds 8 ?_
  rw [rounds_succ]
  go_wp2
  go_ret
  exact ⟨rfl, rfl⟩

set_option maxHeartbeats 1000000 in
theorem refsize_1 (n : Int) (h1 : 6 < n) (h2 : n ≤ 12) (w : World) :
    Calls Try.prog 41 #[.int .i64 n] w fun e w' => e = .returned (.int .i64 128) ∧ w = w' := by
  have d0 : decide (n ≤ 6) = false := by simp; omega
  have d1 : decide (n ≤ 12) = true := by simp; omega
  clear h1 h2
  go_enter Try.func41, Try.ntmps41
  go_wp2
  refine wp_loop_rounds 8 ?_
  rw [rounds_succ]
  go_wp2
  rw [rounds_succ]
  go_wp2
  go_ret
  exact ⟨rfl, rfl⟩

set_option maxHeartbeats 1000000 in
theorem refsize_2 (n : Int) (h1 : 12 < n) (h2 : n ≤ 25) (w : World) :
    Calls Try.prog 41 #[.int .i64 n] w fun e w' => e = .returned (.int .i64 256) ∧ w = w' := by
  have d0 : decide (n ≤ 6) = false := by simp; omega
  have d1 : decide (n ≤ 12) = false := by simp; omega
  have d2 : decide (n ≤ 25) = true := by simp; omega
  clear h1 h2
  go_enter Try.func41, Try.ntmps41
  go_wp2
  refine wp_loop_rounds 8 ?_
  rw [rounds_succ]
  go_wp2
  rw [rounds_succ]
  go_wp2
  rw [rounds_succ]
  go_wp2
  go_ret
  exact ⟨rfl, rfl⟩

set_option maxHeartbeats 1000000 in
theorem refsize_3 (n : Int) (h1 : 25 < n) (h2 : n ≤ 51) (w : World) :
    Calls Try.prog 41 #[.int .i64 n] w fun e w' => e = .returned (.int .i64 512) ∧ w = w' := by
  have d0 : decide (n ≤ 6) = false := by simp; omega
  have d1 : decide (n ≤ 12) = false := by simp; omega
  have d2 : decide (n ≤ 25) = false := by simp; omega
  have d3 : decide (n ≤ 51) = true := by simp; omega
  clear h1 h2
  go_enter Try.func41, Try.ntmps41
  go_wp2
  refine wp_loop_rounds 8 ?_
  rw [rounds_succ]
  go_wp2
  rw [rounds_succ]
  go_wp2
  rw [rounds_succ]
  go_wp2
  rw [rounds_succ]
  go_wp2
  go_ret
  exact ⟨rfl, rfl⟩

set_option maxHeartbeats 1000000 in
theorem refsize_4 (n : Int) (h1 : 51 < n) (h2 : n ≤ 102) (w : World) :
    Calls Try.prog 41 #[.int .i64 n] w fun e w' => e = .returned (.int .i64 1024) ∧ w = w' := by
  have d0 : decide (n ≤ 6) = false := by simp; omega
  have d1 : decide (n ≤ 12) = false := by simp; omega
  have d2 : decide (n ≤ 25) = false := by simp; omega
  have d3 : decide (n ≤ 51) = false := by simp; omega
  have d4 : decide (n ≤ 102) = true := by simp; omega
  clear h1 h2
  go_enter Try.func41, Try.ntmps41
  go_wp2
  refine wp_loop_rounds 8 ?_
  rw [rounds_succ]
  go_wp2
  rw [rounds_succ]
  go_wp2
  rw [rounds_succ]
  go_wp2
  rw [rounds_succ]
  go_wp2
  rw [rounds_succ]
  go_wp2
  go_ret
  exact ⟨rfl, rfl⟩

set_option maxHeartbeats 1000000 in
theorem refsize_5 (n : Int) (h1 : 102 < n) (h2 : n ≤ 204) (w : World) :
    Calls Try.prog 41 #[.int .i64 n] w fun e w' => e = .returned (.int .i64 2048) ∧ w = w' := by
  have d0 : decide (n ≤ 6) = false := by simp; omega
  have d1 : decide (n ≤ 12) = false := by simp; omega
  have d2 : decide (n ≤ 25) = false := by simp; omega
  have d3 : decide (n ≤ 51) = false := by simp; omega
  have d4 : decide (n ≤ 102) = false := by simp; omega
  have d5 : decide (n ≤ 204) = true := by simp; omega
  clear h1 h2
  go_enter Try.func41, Try.ntmps41
  go_wp2
  refine wp_loop_rounds 8 ?_
  rw [rounds_succ]
  go_wp2
  rw [rounds_succ]
  go_wp2
  rw [rounds_succ]
  go_wp2
  rw [rounds_succ]
  go_wp2
  rw [rounds_succ]
  go_wp2
  rw [rounds_succ]
  go_wp2
  go_ret
  exact ⟨rfl, rfl⟩

set_option maxHeartbeats 1000000 in
theorem refsize_6 (n : Int) (h1 : 204 < n) (w : World) :
    Calls Try.prog 41 #[.int .i64 n] w fun e w' => e = .returned (.int .i64 4096) ∧ w = w' := by
  have d0 : decide (n ≤ 6) = false := by simp; omega
  have d1 : decide (n ≤ 12) = false := by simp; omega
  have d2 : decide (n ≤ 25) = false := by simp; omega
  have d3 : decide (n ≤ 51) = false := by simp; omega
  have d4 : decide (n ≤ 102) = false := by simp; omega
  have d5 : decide (n ≤ 204) = false := by simp; omega
  clear h1 
  go_enter Try.func41, Try.ntmps41
  go_wp2
  refine wp_loop_rounds 8 ?_
  rw [rounds_succ]
  go_wp2
  rw [rounds_succ]
  go_wp2
  rw [rounds_succ]
  go_wp2
  rw [rounds_succ]
  go_wp2
  rw [rounds_succ]
  go_wp2
  rw [rounds_succ]
  go_wp2
  rw [rounds_succ]
  go_wp2
  go_ret
  exact ⟨rfl, rfl⟩

theorem refsize_any (n : Int) (w : World) :
    Calls Try.prog 41 #[.int .i64 n] w fun e w' => e = .returned (.int .i64 (sizeB n)) ∧ w = w' := by
  unfold sizeB
  by_cases h0 : n ≤ 6
  · rw [if_pos h0]; exact refsize_0 n h0 w
  rw [if_neg h0]
  by_cases h1 : n ≤ 12
  · rw [if_pos h1]; exact refsize_1 n (by omega) h1 w
  rw [if_neg h1]
  by_cases h2 : n ≤ 25
  · rw [if_pos h2]; exact refsize_2 n (by omega) h2 w
  rw [if_neg h2]
  by_cases h3 : n ≤ 51
  · rw [if_pos h3]; exact refsize_3 n (by omega) h3 w
  rw [if_neg h3]
  by_cases h4 : n ≤ 102
  · rw [if_pos h4]; exact refsize_4 n (by omega) h4 w
  rw [if_neg h4]
  by_cases h5 : n ≤ 204
  · rw [if_pos h5]; exact refsize_5 n (by omega) h5 w
  rw [if_neg h5]
  exact refsize_6 n (by omega) w

end Go.Proofs.Ytbipmeogcmmhhaa
