/-
  slices.BinarySearch, slices.Insert and slices.Compact of texts: the library's contracts, laid at this translation.
-/
import Derived.Shelf.Spec.SearchS
import Derived.Shelf.Spec.SlicesInsertGrow
import Derived.Shelf.Slices.CompactS
import Derived.Test.YtabongfoeoideaaRows
namespace Go.Proofs.Ytabongfoeoideaa
open Go.Shelf
def dgFind_ren : Go.Shelf.Ren := ⟨fun | 26 => 42 | 33 => 51 | 34 => 52 | 38 => 66 | n => n, fun | 0 => 0 | 3 => 3 | 4 => 4 | 9 => 9 | 24 => 30 | 40 => 47 | n => n, fun | n => n⟩
theorem dgFind : Go.Proofs.Lays2.n26 Try.prog dgFind_ren := {
  mixed := by kernel_rfl
  f26 := Try.func42.trans (congrArg some (by kernel_rfl))
  f33 := Try.func51.trans (congrArg some (by kernel_rfl))
  f34 := Try.func52.trans (congrArg some (by kernel_rfl))
  f38 := Try.func66.trans (congrArg some (by kernel_rfl))
  t0 := Try.underlying0
  a0 := Try.isAgg0
  z0 := Try.sizeOf0
  v0 := Try.zeroValue0
  t3 := Try.underlying3
  a3 := Try.isAgg3
  z3 := Try.sizeOf3
  v3 := Try.zeroValue3
  t4 := Try.underlying4
  a4 := Try.isAgg4
  z4 := Try.sizeOf4
  v4 := Try.zeroValue4
  t9 := Try.underlying9
  a9 := Try.isAgg9
  z9 := Try.sizeOf9
  v9 := Try.zeroValue9
  t24 := Try.underlying30
  a24 := Try.isAgg30
  z24 := Try.sizeOf30
  v24 := Try.zeroValue30
  t40 := Try.underlying47
  a40 := Try.isAgg47
  z40 := Try.sizeOf47
  v40 := Try.zeroValue47
 }
def dgIns_ren : Go.Shelf.Ren := ⟨fun | 17 => 73 | 22 => 43 | 29 => 53 | 30 => 54 | 36 => 67 | n => n, fun | 0 => 0 | 3 => 3 | 4 => 4 | 9 => 9 | 24 => 30 | n => n, fun | n => n⟩
theorem dgIns : Go.Proofs.Lays2.n22 Try.prog dgIns_ren := {
  mixed := by kernel_rfl
  f17 := Try.func73.trans (congrArg some (by kernel_rfl))
  f22 := Try.func43.trans (congrArg some (by kernel_rfl))
  f29 := Try.func53.trans (congrArg some (by kernel_rfl))
  f30 := Try.func54.trans (congrArg some (by kernel_rfl))
  f36 := Try.func67.trans (congrArg some (by kernel_rfl))
  t0 := Try.underlying0
  a0 := Try.isAgg0
  z0 := Try.sizeOf0
  v0 := Try.zeroValue0
  t3 := Try.underlying3
  a3 := Try.isAgg3
  z3 := Try.sizeOf3
  v3 := Try.zeroValue3
  t4 := Try.underlying4
  a4 := Try.isAgg4
  z4 := Try.sizeOf4
  v4 := Try.zeroValue4
  t9 := Try.underlying9
  a9 := Try.isAgg9
  z9 := Try.sizeOf9
  v9 := Try.zeroValue9
  t24 := Try.underlying30
  a24 := Try.isAgg30
  z24 := Try.sizeOf30
  v24 := Try.zeroValue30
  i9 := by kernel_rfl }
def dgComp_ren : Go.Shelf.Ren := ⟨fun | 194 => 33 | n => n, fun | 0 => 0 | 3 => 3 | 4 => 4 | 9 => 9 | 31 => 30 | n => n, fun | n => n⟩
theorem dgComp : Go.Proofs.Lays.n194 Try.prog dgComp_ren := {
  mixed := by kernel_rfl
  f194 := Try.func33.trans (congrArg some (by kernel_rfl))
  t0 := Try.underlying0
  a0 := Try.isAgg0
  z0 := Try.sizeOf0
  v0 := Try.zeroValue0
  t3 := Try.underlying3
  a3 := Try.isAgg3
  z3 := Try.sizeOf3
  v3 := Try.zeroValue3
  t4 := Try.underlying4
  a4 := Try.isAgg4
  z4 := Try.sizeOf4
  v4 := Try.zeroValue4
  t9 := Try.underlying9
  a9 := Try.isAgg9
  z9 := Try.sizeOf9
  v9 := Try.zeroValue9
  t31 := Try.underlying30
  a31 := Try.isAgg30
  z31 := Try.sizeOf30
  v31 := Try.zeroValue30
 }
end Go.Proofs.Ytabongfoeoideaa
