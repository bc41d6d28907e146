/-
  Contract of the document's Table.
-/
import Derived.Test.YtanplccigmihfaaDoorP5
namespace Go.Proofs.YtanplccigmihfaaDoor
open Go.RowKit Go.Pal

/-- A word of an array by its number. -/
theorem run_index_words (w : World) (t : TypeId) (L : List UInt32) (n k : Nat) (hn : n = L.length) (hu : Tryd.prog.underlying t = some (.array n 30)) (hk : k < n) :
    (Instr.index t (.agg (L.map wordV).toArray) (.int .i64 (k : Int))).run Tryd.prog w = .ok (.int .u32 (u (L.getD k 0))) w := by
  obtain ⟨i0, hi, hz0, hz1, hz2⟩ := info_parts (show (Tryd.prog.info? 30).map (fun i => (i.zero, i.size, i.bytes)) = some (some (.int .u32 0), 1, 4) by kernel_rfl)
  have h1 : (0 ≤ (k : Int) ∧ (k : Int) < (n : Int)) := by omega
  have hkl : k < L.length := by omega
  simp [Instr.index, run_underlying hu, asIntOf, h1, sizeOf, typeInfo, hi, hz1, part, isAgg, run_underlying Tryd.underlying30, hkl, wordV, hk, go_sem]

set_option maxHeartbeats 1000000 in
set_option maxRecDepth 100000 in
theorem reftable_any (w : World) :
    Calls Tryd.prog 10 #[] w fun e w' => e = .returned (.agg (Kt.map wordV).toArray) ∧ Below w.heap.size w w' := by
  have hi : (Tryd.prog.info? 32).map (·.size) = some ((Kt.map wordV).toArray.size) := by kernel_rfl
  have ho : (Kt.map wordV).toArray.all (·.oneCell') = true := by kernel_rfl
  have hl : (List.replicate 64 (Value.int .u32 0)).toArray.size = (Kt.map wordV).toArray.size := by kernel_rfl
  have HI := Lib.hid hi
  have HO := Lib.hid ho
  have HL := Lib.hid hl
  have HT := Lib.hid (fun W => table_any W)
  clear hi ho hl
  generalize hK : Kt.map wordV = L at *
  clear hK
  go_enter Tryd.func10, Tryd.ntmps10
  go_wp2_with fail
  refine (HT.out _).mono ?_
  rintro e w1 ⟨rfl, b1⟩
  have hblk : Blk w1 w.heap.size 32 (List.replicate 64 (Value.int .u32 0)) := (Blk.new' w 32 (List.replicate 64 (Value.int .u32 0)) rfl).below b1 (by simp)
  have HBK := Lib.hid hblk
  have B1 := Lib.hid b1
  clear hblk b1
  go_wp2_with (refine wpList_store_row rfl 32 _ _ rfl w.heap.size L.toArray rfl rfl 32 _ HBK.out HI.out HL.out HO.out ?_)
  exact bodyPost_ret (v := .agg L.toArray) (results_cell_row (P := Tryd.prog) Tryd.results10 _ _ w.heap.size 32 L.toArray (0, 0) _ rfl (HBK.out.row L) Tryd.underlying32 rfl HI.out) rfl ⟨rfl, below_row (((Below.refl _ _).alloc (Nat.le_refl _) _).trans (B1.out.mono (by simp))) (Nat.le_refl _) _⟩

end Go.Proofs.YtanplccigmihfaaDoor
