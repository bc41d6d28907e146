/-
  Contracts of the law's own awake, same, long and fit.
-/
import Derived.Test.YtanplccigmihfaaGreatDoorW2
import Derived.Deep.OwnRows
namespace Go.Pal
open Go.RowKit
def zeros32 : List UInt8 := List.replicate 32 0
theorem dig_zeros : digL zeros32 = List.replicate 64 0 ++ [3, 12, 0] := by decide +kernel
theorem made32 : madeCells #[Value.int .u8 0] 32 = (zeros32.map byteV).toArray := by kernel_rfl
/-- Any text as a digest's 32 bytes. -/
def fitL (l : List UInt8) : List UInt8 := l.take 32 ++ List.replicate (32 - l.length) 0
theorem fitL_length (l : List UInt8) : (fitL l).length = 32 := by simp [fitL]; omega
def fitB (s : ByteArray) : ByteArray := ⟨(fitL s.data.toList).toArray⟩
theorem fitB_size (s : ByteArray) : (fitB s).size = 32 := by
  show (fitL s.data.toList).toArray.size = 32
  rw [List.size_toArray, fitL_length]
theorem fitL_get (l : List UInt8) (k : Nat) (h : k < l.length) (h2 : k < 32) : (fitL l)[k]? = l[k]? := by
  unfold fitL
  rw [List.getElem?_append_left (by simp; omega), List.getElem?_take, if_pos h2]
theorem fitL_part (l : List UInt8) (k : Nat) (h : k = l.length ∨ k = 32) (hk : k ≤ 32) : partL ((fitL l).map byteV) (zeros32.map byteV) k = (fitL l).map byteV := by
  have hz : zeros32.map byteV = List.replicate 32 (.int .u8 0) := rfl
  rcases h with rfl | rfl
  · unfold partL fitL
    rw [hz, List.take_of_length_le hk, List.map_append, List.take_append_of_le_length (by simp), List.take_of_length_le (by simp), List.drop_replicate, List.map_replicate]
    rfl
  · unfold partL
    rw [hz, List.take_of_length_le (by simp [fitL_length]), List.drop_of_length_le (by simp), List.append_nil]
end Go.Pal
namespace Go.Proofs.YtanplccigmihfaaGreatDoor
open Go.RowKit Go.Pal

theorem conv_blk (w : World) (B cap : Nat) (t : TypeId) (l : List UInt8) (hB : Blk w B t (l.map byteV)) :
    (convert 46 9 (.slice (some ⟨B, 0, none⟩) l.length cap)).run Tryz.prog w = .ok (.string ⟨l.toArray⟩) w := by
  have := run_convert_bytes_arg (P := Tryz.prog) w 46 5 Tryz.underlying46 Tryz.underlying5 B 0 l.length cap (l.map fun b => (b.toNat : Int)) (by simp) (fun i hi => by
    rw [Nat.zero_add, hB.cell i]
    simp [hi, byteV]) 9 Tryz.underlying9
  rw [this, nums_bytes]

theorem make32 (w : World) : (Instr.makeSlice 46 (.int .i64 32) (.int .i64 32)).run Tryz.prog w = .ok (.slice (some ⟨w.heap.size, 0, none⟩) 32 32) (w.alloc (.cells (zeros32.map byteV).toArray 5)) := by
  have h := run_make_row' (P := Tryz.prog) 46 5 (.int .u8 0) 1 Tryz.underlying46 (by kernel_rfl) rfl .i64 .i64 32 (by omega) (by omega) w
  rw [made32] at h
  exact h
theorem conv32 (w : World) : (convert 46 9 (.slice (some ⟨w.heap.size, 0, none⟩) 32 32)).run Tryz.prog (w.alloc (.cells (zeros32.map byteV).toArray 5)) = .ok (.string ⟨zeros32.toArray⟩) (w.alloc (.cells (zeros32.map byteV).toArray 5)) :=
  conv_blk _ _ 32 _ zeros32 (Blk.new w 5 (zeros32.map byteV))





end Go.Proofs.YtanplccigmihfaaGreatDoor
