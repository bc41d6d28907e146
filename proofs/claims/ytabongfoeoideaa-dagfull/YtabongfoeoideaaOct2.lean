/-
  Contracts of package octets and of the document's own numbers: a number in one, two or four bytes.
-/
import Derived.Test.YtabongfoeoideaaRows
import Derived.Test.YtabongfoeoideaaPlain
import Derived.WalkKit
import Derived.WalkSpells
import Derived.WalkLawsBesides
import Derived.Deep.Light
namespace Go.Proofs.Ytabongfoeoideaa
open Go.RowKit Go.Pal

/-- string(b) of a new row of bytes. -/
theorem conv_new (w : World) (xs : List Int) (c : Nat) :
    (convert 75 9 (.slice (some ⟨w.heap.size, 0, none⟩) xs.length c)).run Try.prog (w.alloc (.cells (xs.map (Value.int .u8)).toArray 5)) = .ok (.string (strOfNums xs)) (w.alloc (.cells (xs.map (Value.int .u8)).toArray 5)) := by
  refine run_convert_bytes_arg (P := Try.prog) _ 75 5 Try.underlying75 Try.underlying5 w.heap.size 0 xs.length c xs rfl (fun i hi => ?_) 9 Try.underlying9
  rw [World.cell?_alloc_mark]
  simp [hi]

theorem ret_sb {a b : ByteArray} {x : Bool} (h : a = b) : Ending.returned (.tuple #[.string a, .bool x]) = .returned (.tuple #[.string b, .bool x]) := by rw [h]
theorem ret_s {a b : ByteArray} (h : a = b) : Ending.returned (.string a) = .returned (.string b) := by rw [h]
theorem ret_i {a b : Int} (h : a = b) : Ending.returned (.int .i64 a) = .returned (.int .i64 b) := by rw [h]
theorem ret_b {a b : Bool} (h : a = b) : Ending.returned (.bool a) = .returned (.bool b) := by rw [h]

theorem nums1 (n : Nat) : strOfNums [(n : Int)] = be 1 n := by
  rw [be1]; simp [strOfNums]
theorem nums2 (n : Nat) : strOfNums [(n : Int) / 256, (n : Int) % 256] = be 2 n := by
  rw [be2]
  have h1 : ((n : Int) / 256).toNat = n / 256 := by omega
  have h2 : ((n : Int) % 256).toNat = n % 256 := by omega
  simp [strOfNums, h1, h2, ofNat_mod]

theorem nums4 (n : Nat) : strOfNums [(n : Int) / 16777216, (n : Int) / 65536 % 256, (n : Int) / 256 % 256, (n : Int) % 256] = be 4 n := by
  rw [be4]
  have h0 : ((n : Int) / 16777216).toNat = n / 256 / 256 / 256 := by omega
  have h1 : ((n : Int) / 65536 % 256).toNat = n / 256 / 256 % 256 := by omega
  have h2 : ((n : Int) / 256 % 256).toNat = n / 256 % 256 := by omega
  have h3 : ((n : Int) % 256).toNat = n % 256 := by omega
  simp only [strOfNums, List.map_cons, List.map_nil, h0, h1, h2, h3, ofNat_mod]

end Go.Proofs.Ytabongfoeoideaa
