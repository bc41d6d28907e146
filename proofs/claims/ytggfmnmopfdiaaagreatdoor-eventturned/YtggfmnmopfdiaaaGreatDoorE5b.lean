/-
  The document's own Great, with what it says of the parents.
-/
import Derived.Test.YtggfmnmopfdiaaaGreatDoorE1
import Derived.Test.YtggfmnmopfdiaaaGreatDoorE2
import Derived.Test.YtggfmnmopfdiaaaGreatDoorRefIn
import Derived.Test.YtggfmnmopfdiaaaGreatDoorIn2
namespace Go.Proofs.YtggfmnmopfdiaaaGreatDoor
open Go.RowKit Go.Pal Go.Pal.Fr Go.Pal.Ev

/-- Some bool; where it is false, there are few parents. -/
def GreatR (r : Ending) (l : List ByteArray) : Prop := ∃ b : Bool, r = .returned (.bool b) ∧ (b = false → l.length ≤ 20)
set_option maxHeartbeats 4000000 in
theorem great_len (w : World) (e : E) (a : Option Addr) (c : Nat) (h : StrRow w a e.parents) (hl : e.parents.length ≤ maxLen) (hs : ∀ i, (at' e.parents i).size ≤ maxLen) :
    Calls Tryz.prog 5 #[evV e a c] w fun r w' => GreatR r e.parents ∧ Below w.heap.size w w' := by
  obtain ⟨kd, au, l, bo, sg⟩ := e
  unfold evV
  simp only at h hl hs ⊢
  unfold maxLen at hl hs
  have H := Lib.hid h
  have HS := Lib.hid hs
  clear h hs
  have h0 : 300 < au.size ∨ (au.size ≤ 300 ∧ 500 < bo.size) ∨ (au.size ≤ 300 ∧ bo.size ≤ 500 ∧ 3000 < sg.size ∧ sg.size ≤ 65535) ∨ (au.size ≤ 300 ∧ bo.size ≤ 500 ∧ 3000 < sg.size ∧ 65535 < sg.size ∧ 20 < l.length) ∨ (au.size ≤ 300 ∧ bo.size ≤ 500 ∧ sg.size ≤ 3000 ∧ 20 < l.length) ∨ (au.size ≤ 300 ∧ bo.size ≤ 500 ∧ 3000 < sg.size ∧ 65535 < sg.size ∧ l.length ≤ 20) ∨ (au.size ≤ 300 ∧ bo.size ≤ 500 ∧ sg.size ≤ 3000 ∧ l.length ≤ 20) := by omega
  rcases h0 with h1 | ⟨h1, h2⟩ | ⟨h1, h2, h3, h4⟩ | ⟨h1, h2, h3, h4, h5⟩ | ⟨h1, h2, h3, h5⟩ | ⟨h1, h2, h3, h4, h5⟩ | ⟨h1, h2, h3, h5⟩
  all_goals
    try have d1 : decide (300 < (au.size : Int)) = true := decide_eq_true (by omega)
    try have d1 : decide (300 < (au.size : Int)) = false := decide_eq_false (by omega)
    try have d2 : decide (500 < (bo.size : Int)) = true := decide_eq_true (by omega)
    try have d2 : decide (500 < (bo.size : Int)) = false := decide_eq_false (by omega)
    try have d3 : decide (3000 < (sg.size : Int)) = true := decide_eq_true (by omega)
    try have d3 : decide (3000 < (sg.size : Int)) = false := decide_eq_false (by omega)
    try have d4 : decide ((sg.size : Int) ≤ 65535) = true := decide_eq_true (by omega)
    try have d4 : decide ((sg.size : Int) ≤ 65535) = false := decide_eq_false (by omega)
    try have d5 : decide (20 < (l.length : Int)) = true := decide_eq_true (by omega)
    try have d5 : decide (20 < (l.length : Int)) = false := decide_eq_false (by omega)
    go_enter Tryz.func5, Tryz.ntmps5
    go_wp2
  iterate 5
    go_ret
    exact ⟨⟨true, rfl, fun h => by cases h⟩, alloc_below w _⟩
  all_goals
    clear d1 d2 d3 d5
    try clear d4
    go_loopw [3] (fun i wr => ∃ k : Nat, k ≤ l.length ∧ i = .int .i64 k ∧ Same (w.alloc (.cells #[.int .i64 kd, .string au, .slice a l.length c, .string bo, .string sg] 24)) wr) (fun i _ => l.length - (intOf i).toNat)
    case atStart => exact ⟨0, by omega, rfl, Same.refl _⟩
    case round =>
      obtain ⟨k, hk, rfl, hsm⟩ := hrel
      obtain ⟨c0, c1, c2, c3, c4⟩ := box_cells (sameB hsm)
      by_cases hlt : k < l.length
      · obtain ⟨b1, o1, rfl, _⟩ := row_some H.out (by omega)
        have r1 := (hsm.cell _).trans (row_cell (H.out.below (alloc_below w _)) k hlt)
        have hz := HS.out k
        have HSM := Lib.hid hsm
        clear hsm c0 c1 c3 c4
        generalize at' l k = x at *
        by_cases h300 : 300 < x.size
        · have d6 : decide (300 < (x.size : Int)) = true := decide_eq_true (by omega)
          go_wp2
          go_ret
          exact ⟨⟨true, rfl, fun h => by cases h⟩, (alloc_below w _).trans ((sameB HSM.out).mono (alloc_below w _).size)⟩
        · have d6 : decide (300 < (x.size : Int)) = false := decide_eq_false (by omega)
          go_wp2
          go_roundw
          case rel => exact ⟨k + 1, by omega, by go_num, HSM.out⟩
          case measure => simp [intOf]; omega
      · have HSM := Lib.hid hsm
        clear hsm
        obtain rfl : k = l.length := by omega
        go_wp2
        go_ret
        exact ⟨⟨false, rfl, fun _ => by omega⟩, (alloc_below w _).trans ((sameB HSM.out).mono (alloc_below w _).size)⟩
end Go.Proofs.YtggfmnmopfdiaaaGreatDoor
