/-
  Contracts of a reader's Text, Left, End and of Read; of a nil reader; of the document's examples of layer 1.
-/
import Derived.Test.YtbipmeogcmmhhaaRd2
import Derived.Test.YtbipmeogcmmhhaaOct5
namespace Go.Proofs.Ytbipmeogcmmhhaa
open Go.RowKit Go.Pal

theorem rdRest_le (n : Int) (r : ByteArray) (bad : Bool) : (rdRest n r bad).size ≤ r.size := by
  unfold rdRest
  split
  · rw [ByteArray.size_extract]; omega
  · split
    · exact Nat.le_refl _
    · simp

/-- A text's length, as it stands next. -/
def rdLen (r : ByteArray) (bad : Bool) : Int := (valL (rdOut 2 r bad).data.toList : Nat)



set_option maxHeartbeats 400000 in
theorem read_any (s : ByteArray) (w : World) :
    Calls Try.prog 60 #[.string s] w fun e w' => e = .returned (.pointer (some ⟨w.heap.size, 0, none⟩)) ∧ w' = w.alloc (.cells #[.string s, .bool false] 91) := by
  go_enter Try.func60, Try.ntmps60
  go_wp2
  go_ret
  exact ⟨rfl, rfl⟩

theorem rd_new (s : ByteArray) (w : World) : Rd (w.alloc (.cells #[.string s, .bool false] 91)) w.heap.size s false := by
  refine ⟨?_, ?_, ?_, ?_⟩
  · rw [World.cell?_alloc_mark]; rfl
  · rw [World.cell?_alloc_mark]; rfl
  · rw [frozen?_alloc_cells]; simp [World.frozen?]
  · rw [frozen?_alloc_cells]; simp [World.frozen?]

theorem num258 : numB 2 258 = ⟨#[1, 2]⟩ := by rw [numB_yes (by decide)]; rfl
theorem ok258 : numOk 2 258 = true := by decide
theorem textAB : textB ⟨#[97, 98]⟩ = ⟨#[0, 2, 97, 98]⟩ := by
  rw [textB_yes (by decide), ByteArray.ext_iff]; rfl
theorem okAB : textOk ⟨#[97, 98]⟩ = true := by decide


end Go.Proofs.Ytbipmeogcmmhhaa
