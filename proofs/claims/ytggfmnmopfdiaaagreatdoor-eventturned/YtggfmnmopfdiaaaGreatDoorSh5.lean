/-
  Contract of sha.mixLast: what no whole block is left of, the bit that ends it, and the length.
-/
import Derived.Test.YtggfmnmopfdiaaaGreatDoorSh4
namespace Go.Proofs.YtggfmnmopfdiaaaGreatDoor
open Go.RowKit Go.Pal

theorem copy64 (w : World) (r : ByteArray) (hr : r.size ≤ 64) :
    (Builtin.copy_ #[79, 9] 3 #[.slice (some ⟨w.heap.size, 0, none⟩) 64 64, .string r]).run Tryz.prog (w.alloc (.cells #[Value.int .u8 0, Value.int .u8 0, Value.int .u8 0, Value.int .u8 0, Value.int .u8 0, Value.int .u8 0, Value.int .u8 0, Value.int .u8 0, Value.int .u8 0, Value.int .u8 0, Value.int .u8 0, Value.int .u8 0, Value.int .u8 0, Value.int .u8 0, Value.int .u8 0, Value.int .u8 0, Value.int .u8 0, Value.int .u8 0, Value.int .u8 0, Value.int .u8 0, Value.int .u8 0, Value.int .u8 0, Value.int .u8 0, Value.int .u8 0, Value.int .u8 0, Value.int .u8 0, Value.int .u8 0, Value.int .u8 0, Value.int .u8 0, Value.int .u8 0, Value.int .u8 0, Value.int .u8 0, Value.int .u8 0, Value.int .u8 0, Value.int .u8 0, Value.int .u8 0, Value.int .u8 0, Value.int .u8 0, Value.int .u8 0, Value.int .u8 0, Value.int .u8 0, Value.int .u8 0, Value.int .u8 0, Value.int .u8 0, Value.int .u8 0, Value.int .u8 0, Value.int .u8 0, Value.int .u8 0, Value.int .u8 0, Value.int .u8 0, Value.int .u8 0, Value.int .u8 0, Value.int .u8 0, Value.int .u8 0, Value.int .u8 0, Value.int .u8 0, Value.int .u8 0, Value.int .u8 0, Value.int .u8 0, Value.int .u8 0, Value.int .u8 0, Value.int .u8 0, Value.int .u8 0, Value.int .u8 0] 145)) =
      .ok (.int .i64 r.size) (w.alloc (.cells (r.data.toList.map byteV ++ List.replicate (64 - r.size) (Value.int .u8 0)).toArray 145)) := by
  have h := Lib.run_copy_row_string (P := Tryz.prog) (w.alloc (.cells #[Value.int .u8 0, Value.int .u8 0, Value.int .u8 0, Value.int .u8 0, Value.int .u8 0, Value.int .u8 0, Value.int .u8 0, Value.int .u8 0, Value.int .u8 0, Value.int .u8 0, Value.int .u8 0, Value.int .u8 0, Value.int .u8 0, Value.int .u8 0, Value.int .u8 0, Value.int .u8 0, Value.int .u8 0, Value.int .u8 0, Value.int .u8 0, Value.int .u8 0, Value.int .u8 0, Value.int .u8 0, Value.int .u8 0, Value.int .u8 0, Value.int .u8 0, Value.int .u8 0, Value.int .u8 0, Value.int .u8 0, Value.int .u8 0, Value.int .u8 0, Value.int .u8 0, Value.int .u8 0, Value.int .u8 0, Value.int .u8 0, Value.int .u8 0, Value.int .u8 0, Value.int .u8 0, Value.int .u8 0, Value.int .u8 0, Value.int .u8 0, Value.int .u8 0, Value.int .u8 0, Value.int .u8 0, Value.int .u8 0, Value.int .u8 0, Value.int .u8 0, Value.int .u8 0, Value.int .u8 0, Value.int .u8 0, Value.int .u8 0, Value.int .u8 0, Value.int .u8 0, Value.int .u8 0, Value.int .u8 0, Value.int .u8 0, Value.int .u8 0, Value.int .u8 0, Value.int .u8 0, Value.int .u8 0, Value.int .u8 0, Value.int .u8 0, Value.int .u8 0, Value.int .u8 0, Value.int .u8 0] 145)) 79 9 3 5 w.heap.size 0 64 64 r #[Value.int .u8 0, Value.int .u8 0, Value.int .u8 0, Value.int .u8 0, Value.int .u8 0, Value.int .u8 0, Value.int .u8 0, Value.int .u8 0, Value.int .u8 0, Value.int .u8 0, Value.int .u8 0, Value.int .u8 0, Value.int .u8 0, Value.int .u8 0, Value.int .u8 0, Value.int .u8 0, Value.int .u8 0, Value.int .u8 0, Value.int .u8 0, Value.int .u8 0, Value.int .u8 0, Value.int .u8 0, Value.int .u8 0, Value.int .u8 0, Value.int .u8 0, Value.int .u8 0, Value.int .u8 0, Value.int .u8 0, Value.int .u8 0, Value.int .u8 0, Value.int .u8 0, Value.int .u8 0, Value.int .u8 0, Value.int .u8 0, Value.int .u8 0, Value.int .u8 0, Value.int .u8 0, Value.int .u8 0, Value.int .u8 0, Value.int .u8 0, Value.int .u8 0, Value.int .u8 0, Value.int .u8 0, Value.int .u8 0, Value.int .u8 0, Value.int .u8 0, Value.int .u8 0, Value.int .u8 0, Value.int .u8 0, Value.int .u8 0, Value.int .u8 0, Value.int .u8 0, Value.int .u8 0, Value.int .u8 0, Value.int .u8 0, Value.int .u8 0, Value.int .u8 0, Value.int .u8 0, Value.int .u8 0, Value.int .u8 0, Value.int .u8 0, Value.int .u8 0, Value.int .u8 0, Value.int .u8 0] 145 Tryz.underlying79 (by kernel_rfl) (heap_alloc_new w _) hr (by simpa using hr)
  rw [World.setRow_alloc_new] at h
  have e : List.take 0 ((#[Value.int .u8 0, Value.int .u8 0, Value.int .u8 0, Value.int .u8 0, Value.int .u8 0, Value.int .u8 0, Value.int .u8 0, Value.int .u8 0, Value.int .u8 0, Value.int .u8 0, Value.int .u8 0, Value.int .u8 0, Value.int .u8 0, Value.int .u8 0, Value.int .u8 0, Value.int .u8 0, Value.int .u8 0, Value.int .u8 0, Value.int .u8 0, Value.int .u8 0, Value.int .u8 0, Value.int .u8 0, Value.int .u8 0, Value.int .u8 0, Value.int .u8 0, Value.int .u8 0, Value.int .u8 0, Value.int .u8 0, Value.int .u8 0, Value.int .u8 0, Value.int .u8 0, Value.int .u8 0, Value.int .u8 0, Value.int .u8 0, Value.int .u8 0, Value.int .u8 0, Value.int .u8 0, Value.int .u8 0, Value.int .u8 0, Value.int .u8 0, Value.int .u8 0, Value.int .u8 0, Value.int .u8 0, Value.int .u8 0, Value.int .u8 0, Value.int .u8 0, Value.int .u8 0, Value.int .u8 0, Value.int .u8 0, Value.int .u8 0, Value.int .u8 0, Value.int .u8 0, Value.int .u8 0, Value.int .u8 0, Value.int .u8 0, Value.int .u8 0, Value.int .u8 0, Value.int .u8 0, Value.int .u8 0, Value.int .u8 0, Value.int .u8 0, Value.int .u8 0, Value.int .u8 0, Value.int .u8 0] : Array Value).toList) ++ Lib.byteCells r.data.toList ++ List.drop (0 + r.size) ((#[Value.int .u8 0, Value.int .u8 0, Value.int .u8 0, Value.int .u8 0, Value.int .u8 0, Value.int .u8 0, Value.int .u8 0, Value.int .u8 0, Value.int .u8 0, Value.int .u8 0, Value.int .u8 0, Value.int .u8 0, Value.int .u8 0, Value.int .u8 0, Value.int .u8 0, Value.int .u8 0, Value.int .u8 0, Value.int .u8 0, Value.int .u8 0, Value.int .u8 0, Value.int .u8 0, Value.int .u8 0, Value.int .u8 0, Value.int .u8 0, Value.int .u8 0, Value.int .u8 0, Value.int .u8 0, Value.int .u8 0, Value.int .u8 0, Value.int .u8 0, Value.int .u8 0, Value.int .u8 0, Value.int .u8 0, Value.int .u8 0, Value.int .u8 0, Value.int .u8 0, Value.int .u8 0, Value.int .u8 0, Value.int .u8 0, Value.int .u8 0, Value.int .u8 0, Value.int .u8 0, Value.int .u8 0, Value.int .u8 0, Value.int .u8 0, Value.int .u8 0, Value.int .u8 0, Value.int .u8 0, Value.int .u8 0, Value.int .u8 0, Value.int .u8 0, Value.int .u8 0, Value.int .u8 0, Value.int .u8 0, Value.int .u8 0, Value.int .u8 0, Value.int .u8 0, Value.int .u8 0, Value.int .u8 0, Value.int .u8 0, Value.int .u8 0, Value.int .u8 0, Value.int .u8 0, Value.int .u8 0] : Array Value).toList) = r.data.toList.map byteV ++ List.replicate (64 - r.size) (Value.int .u8 0) := by
    have e1 : (#[Value.int .u8 0, Value.int .u8 0, Value.int .u8 0, Value.int .u8 0, Value.int .u8 0, Value.int .u8 0, Value.int .u8 0, Value.int .u8 0, Value.int .u8 0, Value.int .u8 0, Value.int .u8 0, Value.int .u8 0, Value.int .u8 0, Value.int .u8 0, Value.int .u8 0, Value.int .u8 0, Value.int .u8 0, Value.int .u8 0, Value.int .u8 0, Value.int .u8 0, Value.int .u8 0, Value.int .u8 0, Value.int .u8 0, Value.int .u8 0, Value.int .u8 0, Value.int .u8 0, Value.int .u8 0, Value.int .u8 0, Value.int .u8 0, Value.int .u8 0, Value.int .u8 0, Value.int .u8 0, Value.int .u8 0, Value.int .u8 0, Value.int .u8 0, Value.int .u8 0, Value.int .u8 0, Value.int .u8 0, Value.int .u8 0, Value.int .u8 0, Value.int .u8 0, Value.int .u8 0, Value.int .u8 0, Value.int .u8 0, Value.int .u8 0, Value.int .u8 0, Value.int .u8 0, Value.int .u8 0, Value.int .u8 0, Value.int .u8 0, Value.int .u8 0, Value.int .u8 0, Value.int .u8 0, Value.int .u8 0, Value.int .u8 0, Value.int .u8 0, Value.int .u8 0, Value.int .u8 0, Value.int .u8 0, Value.int .u8 0, Value.int .u8 0, Value.int .u8 0, Value.int .u8 0, Value.int .u8 0] : Array Value).toList = List.replicate 64 (Value.int .u8 0) := rfl
    rw [e1, List.take_zero, List.nil_append, Nat.zero_add, List.drop_replicate]
    rfl
  rw [e] at h
  exact h

theorem Tabs.grown {w w' : World} {row : Option Nat} (h : Tabs w) (hg : w.grownBy w' row) (hr : ∀ k, row = some k → 2 ≤ k) : Tabs w' := by
  have h2 := h.two
  refine ⟨fun i hi => ?_, ?_, Nat.le_trans h2 hg.size⟩
  · rw [World.cell?_of_block (w := w) (hg.block 1 (by omega) (fun e => by have := hr 1 e.symm; omega))]
    exact h.words i hi
  · rw [hg.block 0 (by omega) (fun e => by have := hr 0 e.symm; omega)]
    exact h.first

theorem byteV_of {x : Int} {n : Nat} (h : x = ((n % 256 : Nat) : Int)) : Value.int .u8 x = byteV (UInt8.ofNat n) := by
  rw [h]; simp [byteV]

theorem set_tail (pre : List Value) (x0 x1 x2 x3 x4 x5 x6 x7 v0 v1 v2 v3 v4 v5 v6 v7 : Value) (h : pre.length = 56) :
    ((((((((pre ++ [x0, x1, x2, x3, x4, x5, x6, x7]).set 63 v0).set 62 v1).set 61 v2).set 60 v3).set 59 v4).set 58 v5).set 57 v6).set 56 v7 = pre ++ [v7, v6, v5, v4, v3, v2, v1, v0] := by
  simp [h]

theorem tail_stores (w2 : World) (N : Nat) (pre : List UInt8) (hpre : pre.length = 56) (hB : Blk w2 N 145 ((pre ++ List.replicate 8 0).map byteV)) (L : Nat) (v0 v1 v2 v3 v4 v5 v6 v7 : Value) (h0 : v0 = byteV (UInt8.ofNat (L))) (h1 : v1 = byteV (UInt8.ofNat (L / 256))) (h2 : v2 = byteV (UInt8.ofNat (L / 256 / 256))) (h3 : v3 = byteV (UInt8.ofNat (L / 256 / 256 / 256))) (h4 : v4 = byteV (UInt8.ofNat (L / 256 / 256 / 256 / 256))) (h5 : v5 = byteV (UInt8.ofNat (L / 256 / 256 / 256 / 256 / 256))) (h6 : v6 = byteV (UInt8.ofNat (L / 256 / 256 / 256 / 256 / 256 / 256))) (h7 : v7 = byteV (UInt8.ofNat (L / 256 / 256 / 256 / 256 / 256 / 256 / 256))) :
    Blk ((((((((w2.setCell ⟨N, 63, none⟩ v0).setCell ⟨N, 62, none⟩ v1).setCell ⟨N, 61, none⟩ v2).setCell ⟨N, 60, none⟩ v3).setCell ⟨N, 59, none⟩ v4).setCell ⟨N, 58, none⟩ v5).setCell ⟨N, 57, none⟩ v6).setCell ⟨N, 56, none⟩ v7) N 145 ((pre ++ beL 8 L).map byteV) := by
  have e := set_tail (pre.map byteV) (byteV 0) (byteV 0) (byteV 0) (byteV 0) (byteV 0) (byteV 0) (byteV 0) (byteV 0) v0 v1 v2 v3 v4 v5 v6 v7 (by simpa using hpre)
  have hl : (pre ++ List.replicate 8 0).map byteV = pre.map byteV ++ [byteV 0, byteV 0, byteV 0, byteV 0, byteV 0, byteV 0, byteV 0, byteV 0] := by rw [List.map_append]; rfl
  have hl2 : (pre ++ beL 8 L).map byteV = pre.map byteV ++ [v7, v6, v5, v4, v3, v2, v1, v0] := by rw [List.map_append, beL8, h0, h1, h2, h3, h4, h5, h6, h7]; rfl
  rw [hl] at hB
  rw [hl2, ← e]
  exact (((((((hB.set 63 v0).set 62 v1).set 61 v2).set 60 v3).set 59 v4).set 58 v5).set 57 v6).set 56 v7

theorem tail_side {w : World} (w2 : World) (N S n : Nat) {t : TypeId} {l : List Value} (hS : Blk w2 S t l) (hne : S ≠ N) (hb : Below n w w2) (hn : n ≤ N) (v0 v1 v2 v3 v4 v5 v6 v7 : Value) :
    Blk ((((((((w2.setCell ⟨N, 63, none⟩ v0).setCell ⟨N, 62, none⟩ v1).setCell ⟨N, 61, none⟩ v2).setCell ⟨N, 60, none⟩ v3).setCell ⟨N, 59, none⟩ v4).setCell ⟨N, 58, none⟩ v5).setCell ⟨N, 57, none⟩ v6).setCell ⟨N, 56, none⟩ v7) S t l ∧ Below n w ((((((((w2.setCell ⟨N, 63, none⟩ v0).setCell ⟨N, 62, none⟩ v1).setCell ⟨N, 61, none⟩ v2).setCell ⟨N, 60, none⟩ v3).setCell ⟨N, 59, none⟩ v4).setCell ⟨N, 58, none⟩ v5).setCell ⟨N, 57, none⟩ v6).setCell ⟨N, 56, none⟩ v7) :=
  ⟨((((((((hS.other (p := ⟨N, 63, none⟩) hne v0).other (p := ⟨N, 62, none⟩) hne v1).other (p := ⟨N, 61, none⟩) hne v2).other (p := ⟨N, 60, none⟩) hne v3).other (p := ⟨N, 59, none⟩) hne v4).other (p := ⟨N, 58, none⟩) hne v5).other (p := ⟨N, 57, none⟩) hne v6).other (p := ⟨N, 56, none⟩) hne v7), ((((((((hb.setCell (p := ⟨N, 63, none⟩) hn v0).setCell (p := ⟨N, 62, none⟩) hn v1).setCell (p := ⟨N, 61, none⟩) hn v2).setCell (p := ⟨N, 60, none⟩) hn v3).setCell (p := ⟨N, 59, none⟩) hn v4).setCell (p := ⟨N, 58, none⟩) hn v5).setCell (p := ⟨N, 57, none⟩) hn v6).setCell (p := ⟨N, 56, none⟩) hn v7)⟩

theorem grown_new {w w2 : World} {row : Option Nat} (h : w.grownBy w2 row) (p : Addr) (hp : w.heap.size ≤ p.block) (v : Value) : w.grownBy (w2.setCell p v) row :=
  ⟨h.os, h.tape, h.output, by simpa [World.setCell] using h.size, fun k hk hne => (Below.heap_setCell w2 p v k (by omega)).trans (h.block k hk hne)⟩
theorem grown_newRow {w w2 : World} {row : Option Nat} (h : w.grownBy w2 row) (N : Nat) (hp : w.heap.size ≤ N) (cs : Array Value) : w.grownBy (w2.setRow N cs) row :=
  ⟨h.os, h.tape, h.output, by simpa using h.size, fun k hk hne => (setRow_other w2 N k cs (by omega)).trans (h.block k hk hne)⟩
theorem tail_side2 {w : World} (w2 : World) (N S : Nat) {t : TypeId} {l : List Value} {row : Option Nat} (hS : Blk w2 S t l) (hne : S ≠ N) (hb : w.grownBy w2 row) (hn : w.heap.size ≤ N) (v0 v1 v2 v3 v4 v5 v6 v7 : Value) :
    Blk ((((((((w2.setCell ⟨N, 63, none⟩ v0).setCell ⟨N, 62, none⟩ v1).setCell ⟨N, 61, none⟩ v2).setCell ⟨N, 60, none⟩ v3).setCell ⟨N, 59, none⟩ v4).setCell ⟨N, 58, none⟩ v5).setCell ⟨N, 57, none⟩ v6).setCell ⟨N, 56, none⟩ v7) S t l ∧ w.grownBy ((((((((w2.setCell ⟨N, 63, none⟩ v0).setCell ⟨N, 62, none⟩ v1).setCell ⟨N, 61, none⟩ v2).setCell ⟨N, 60, none⟩ v3).setCell ⟨N, 59, none⟩ v4).setCell ⟨N, 58, none⟩ v5).setCell ⟨N, 57, none⟩ v6).setCell ⟨N, 56, none⟩ v7) row :=
  ⟨((((((((hS.other (p := ⟨N, 63, none⟩) hne v0).other (p := ⟨N, 62, none⟩) hne v1).other (p := ⟨N, 61, none⟩) hne v2).other (p := ⟨N, 60, none⟩) hne v3).other (p := ⟨N, 59, none⟩) hne v4).other (p := ⟨N, 58, none⟩) hne v5).other (p := ⟨N, 57, none⟩) hne v6).other (p := ⟨N, 56, none⟩) hne v7), (grown_new (grown_new (grown_new (grown_new (grown_new (grown_new (grown_new (grown_new hb ⟨N, 63, none⟩ hn v0) ⟨N, 62, none⟩ hn v1) ⟨N, 61, none⟩ hn v2) ⟨N, 60, none⟩ hn v3) ⟨N, 59, none⟩ hn v4) ⟨N, 58, none⟩ hn v5) ⟨N, 57, none⟩ hn v6) ⟨N, 56, none⟩ hn v7)⟩

theorem pad_set (r : ByteArray) (hr : r.size < 64) : (r.data.toList.map byteV ++ List.replicate (64 - r.size) (Value.int .u8 0)).toArray.setIfInBounds r.size (.int .u8 128) = ((r.data.toList ++ [128] ++ List.replicate (63 - r.size) 0).map byteV).toArray := by
  have hl : (r.data.toList.map byteV).length = r.size := by simp
  rw [List.setIfInBounds_toArray, List.set_append_right _ _ (by omega), hl, Nat.sub_self, show 64 - r.size = (63 - r.size) + 1 by omega, List.replicate_succ, List.set_cons_zero]
  simp only [List.map_append, List.map_cons, List.map_replicate, List.append_assoc, List.singleton_append]
  rfl

set_option maxHeartbeats 1000000 in
set_option maxRecDepth 100000 in
theorem mixLast_small (w : World) (S : Nat) (s : St) (r : ByteArray) (L : Nat) (hL : L < 18446744073709551616) (hr : r.size + 1 ≤ 56) (ht : Tabs w) (hS : Blk w S 134 s.vals) :
    Calls Tryz.prog 106 #[.pointer (some ⟨S, 0, none⟩), .string r, .int .u64 L] w fun e w' => e = .returned (.tuple #[]) ∧ Blk w' S 134 (mixS s (r.data.toList ++ [128] ++ List.replicate (55 - r.size) 0 ++ beL 8 L)).vals ∧ w.grownBy w' (some S) := by
  have hcp := copy64 w r (by omega)
  have hps := pad_set r (by omega)
  have hy : ((r.data.toList.map byteV ++ List.replicate (64 - r.size) (Value.int .u8 0)).toArray)[r.size]? = some (.int .u8 0) := by
    have hl : (r.data.toList.map byteV).length = r.size := by simp
    rw [List.getElem?_toArray, List.getElem?_append_right (by omega), hl, List.getElem?_replicate, if_pos (by omega)]
  generalize (r.data.toList.map byteV ++ List.replicate (64 - r.size) (Value.int .u8 0)).toArray = Y at *
  have HPS := Lib.hid hps
  clear hps
  have c0 : ∀ o : Nat, (w.alloc (.cells Y 145)).cell? ⟨w.heap.size, o, none⟩ = Y[o]? := fun o => World.cell?_alloc_mark w Y _ _ o
  have hd : decide (56 < (r.size : Int) + 1) = false := by simp; omega
  have hne : S ≠ w.heap.size := Nat.ne_of_lt hS.lt
  have HNE := Lib.hid hne
  have HT := Lib.hid ht
  have HS := Lib.hid hS
  clear hne
  clear ht hS
  go_enter Tryz.func106, Tryz.ntmps106
  go_wp2
  rw [HPS.out]
  have hpre : (r.data.toList ++ [128] ++ List.replicate (55 - r.size) 0).length = 56 := by simp; omega
  have hsplit : r.data.toList ++ [128] ++ List.replicate (63 - r.size) 0 = (r.data.toList ++ [128] ++ List.replicate (55 - r.size) 0) ++ List.replicate 8 (0 : UInt8) := by
    rw [List.append_assoc (r.data.toList ++ [128]), List.replicate_append_replicate, show 55 - r.size + 8 = 63 - r.size by omega]
  rw [hsplit]
  have hB := Blk.new w 145 (((r.data.toList ++ [128] ++ List.replicate (55 - r.size) 0) ++ List.replicate 8 (0 : UInt8)).map byteV)
  have hSb := HS.out.alloc (.cells (((r.data.toList ++ [128] ++ List.replicate (55 - r.size) 0) ++ List.replicate 8 (0 : UInt8)).map byteV).toArray 145)
  have hG := World.grownBy_alloc w (.cells (((r.data.toList ++ [128] ++ List.replicate (55 - r.size) 0) ++ List.replicate 8 (0 : UInt8)).map byteV).toArray 145) (some S)
  have hBel := (Below.refl w.heap.size w).alloc (Nat.le_refl _) (.cells (((r.data.toList ++ [128] ++ List.replicate (55 - r.size) 0) ++ List.replicate 8 (0 : UInt8)).map byteV).toArray 145)
  generalize w.alloc (.cells (((r.data.toList ++ [128] ++ List.replicate (55 - r.size) 0) ++ List.replicate 8 (0 : UInt8)).map byteV).toArray 145) = w2 at *
  generalize hp : r.data.toList ++ [128] ++ List.replicate (55 - r.size) 0 = pre at *
  have HP := Lib.hid hp
  clear hp
  have hk : ∀ j, j < 8 → ((pre ++ List.replicate 8 0).map byteV)[56 + j]? = some (.int .u8 0) := by
    intro j hj
    rw [List.map_append, List.getElem?_append_right (by simp; omega), List.map_replicate, List.getElem?_replicate, if_pos (by simp; omega)]
    rfl
  have k56 := (hB.cell 56).trans (hk 0 (by omega))
  have f56 := hB.frozen 56
  have k57 := (hB.cell 57).trans (hk 1 (by omega))
  have f57 := hB.frozen 57
  have k58 := (hB.cell 58).trans (hk 2 (by omega))
  have f58 := hB.frozen 58
  have k59 := (hB.cell 59).trans (hk 3 (by omega))
  have f59 := hB.frozen 59
  have k60 := (hB.cell 60).trans (hk 4 (by omega))
  have f60 := hB.frozen 60
  have k61 := (hB.cell 61).trans (hk 5 (by omega))
  have f61 := hB.frozen 61
  have k62 := (hB.cell 62).trans (hk 6 (by omega))
  have f62 := hB.frozen 62
  have k63 := (hB.cell 63).trans (hk 7 (by omega))
  have f63 := hB.frozen 63
  have HB := Lib.hid hB
  have HSB := Lib.hid hSb
  have HG := Lib.hid hG
  have HBEL := Lib.hid hBel
  have HPRE := Lib.hid hpre
  clear hcp hy c0 HPS hsplit hk hB hSb hG hBel hpre HS
  refine wp_loop_rounds 9 ?_; rw [rounds_succ]
  go_wp2
  rw [rounds_succ]
  go_wp2
  rw [rounds_succ]
  go_wp2
  rw [rounds_succ]
  go_wp2
  rw [rounds_succ]
  go_wp2
  rw [rounds_succ]
  go_wp2
  rw [rounds_succ]
  go_wp2
  rw [rounds_succ]
  go_wp2
  rw [rounds_succ]
  go_wp2_with fail
  have z0 : Value.int IntKind.u8 ((L : Int) % 256) = byteV (UInt8.ofNat L) := byteV_of (by omega)
  have z1 : Value.int IntKind.u8 ((L : Int) / 256 % 256) = byteV (UInt8.ofNat (L / 256)) := byteV_of (by omega)
  have z2 : Value.int IntKind.u8 ((L : Int) / 65536 % 256) = byteV (UInt8.ofNat (L / 256 / 256)) := byteV_of (by omega)
  have z3 : Value.int IntKind.u8 ((L : Int) / 16777216 % 256) = byteV (UInt8.ofNat (L / 256 / 256 / 256)) := byteV_of (by omega)
  have z4 : Value.int IntKind.u8 ((L : Int) / 4294967296 % 256) = byteV (UInt8.ofNat (L / 256 / 256 / 256 / 256)) := byteV_of (by omega)
  have z5 : Value.int IntKind.u8 ((L : Int) / 1099511627776 % 256) = byteV (UInt8.ofNat (L / 256 / 256 / 256 / 256 / 256)) := byteV_of (by omega)
  have z6 : Value.int IntKind.u8 ((L : Int) / 281474976710656 % 256) = byteV (UInt8.ofNat (L / 256 / 256 / 256 / 256 / 256 / 256)) := byteV_of (by omega)
  have z7 : Value.int IntKind.u8 ((L : Int) / 72057594037927936) = byteV (UInt8.ofNat (L / 256 / 256 / 256 / 256 / 256 / 256 / 256)) := byteV_of (by omega)
  have B3 := tail_stores w2 w.heap.size pre HPRE.out HB.out L _ _ _ _ _ _ _ _ z0 z1 z2 z3 z4 z5 z6 z7
  obtain ⟨S3, E3⟩ := tail_side w2 w.heap.size S w.heap.size HSB.out HNE.out HBEL.out (Nat.le_refl _) (.int .u8 ((L : Int) % 256)) (.int .u8 ((L : Int) / 256 % 256)) (.int .u8 ((L : Int) / 65536 % 256)) (.int .u8 ((L : Int) / 16777216 % 256)) (.int .u8 ((L : Int) / 4294967296 % 256)) (.int .u8 ((L : Int) / 1099511627776 % 256)) (.int .u8 ((L : Int) / 281474976710656 % 256)) (.int .u8 ((L : Int) / 72057594037927936))
  have G3 := Lib.grownBy_below (World.grownBy.refl w (some S)) E3
  have T3 := HT.out.grown (Lib.grownBy_below (World.grownBy.refl w none) E3) (by intro k hk; cases hk)
  refine (mix_any _ S w.heap.size s (pre ++ beL 8 L) (by rw [List.length_append, HPRE.out, beL_length]) T3 S3 B3).mono ?_
  rintro e w4 ⟨rfl, hb4, hg4⟩
  go_wp2
  go_end0
  rw [HP.out]
  exact ⟨rfl, hb4, Lib.grownBy_trans G3 hg4⟩

set_option maxHeartbeats 1000000 in
set_option maxRecDepth 100000 in
theorem mixLast_big (w : World) (S : Nat) (s : St) (r : ByteArray) (L : Nat) (hL : L < 18446744073709551616) (hr : 56 ≤ r.size) (hr2 : r.size < 64) (hS2 : 2 ≤ S) (ht : Tabs w) (hS : Blk w S 134 s.vals) :
    Calls Tryz.prog 106 #[.pointer (some ⟨S, 0, none⟩), .string r, .int .u64 L] w fun e w' => e = .returned (.tuple #[]) ∧ Blk w' S 134 (mixS (mixS s (r.data.toList ++ [128] ++ List.replicate (63 - r.size) 0)) (List.replicate 56 0 ++ beL 8 L)).vals ∧ w.grownBy w' (some S) := by
  have hcp := copy64 w r (by omega)
  have hps := pad_set r (by omega)
  have hy : ((r.data.toList.map byteV ++ List.replicate (64 - r.size) (Value.int .u8 0)).toArray)[r.size]? = some (.int .u8 0) := by
    have hl : (r.data.toList.map byteV).length = r.size := by simp
    rw [List.getElem?_toArray, List.getElem?_append_right (by omega), hl, List.getElem?_replicate, if_pos (by omega)]
  generalize (r.data.toList.map byteV ++ List.replicate (64 - r.size) (Value.int .u8 0)).toArray = Y at *
  have HPS := Lib.hid hps
  clear hps
  have c0 : ∀ o : Nat, (w.alloc (.cells Y 145)).cell? ⟨w.heap.size, o, none⟩ = Y[o]? := fun o => World.cell?_alloc_mark w Y _ _ o
  have hd : decide (56 < (r.size : Int) + 1) = true := by simp; omega
  have hne : S ≠ w.heap.size := Nat.ne_of_lt hS.lt
  have HNE := Lib.hid hne
  have HT := Lib.hid ht
  have HS := Lib.hid hS
  clear hne
  clear ht hS
  go_enter Tryz.func106, Tryz.ntmps106
  have HS2 := Lib.hid hS2
  clear hS2
  go_wp2_with fail
  rw [HPS.out]
  have hlen1 : (r.data.toList ++ [128] ++ List.replicate (63 - r.size) 0).length = 64 := by simp; omega
  have hB1 := Blk.new w 145 ((r.data.toList ++ [128] ++ List.replicate (63 - r.size) 0).map byteV)
  have hS1 := HS.out.alloc (.cells ((r.data.toList ++ [128] ++ List.replicate (63 - r.size) 0).map byteV).toArray 145)
  have hE1 := (Below.refl w.heap.size w).alloc (Nat.le_refl _) (.cells ((r.data.toList ++ [128] ++ List.replicate (63 - r.size) 0).map byteV).toArray 145)
  have hT1 := HT.out.grown (Lib.grownBy_below (World.grownBy.refl w none) hE1) (by intro k hk; cases hk)
  refine (mix_any _ S w.heap.size s _ hlen1 hT1 hS1 hB1).mono ?_
  rintro e w1 ⟨rfl, hb1, hg1⟩
  have hB2 := hB1.grown hg1 (fun e => HNE.out (by cases e; rfl))
  have hG1 := Lib.grownBy_trans (Lib.grownBy_below (World.grownBy.refl w (some S)) hE1) hg1
  have hT2 := hT1.grown hg1 (by intro k hk; cases hk; exact HS2.out)
  have hold : ((r.data.toList ++ [128] ++ List.replicate (63 - r.size) 0).map byteV).toArray.size = (List.replicate 64 (Value.int .u8 0)).toArray.size := by simp; omega
  generalize hp : r.data.toList ++ [128] ++ List.replicate (63 - r.size) 0 = blk at *
  have HP := Lib.hid hp
  have HOLD := Lib.hid hold
  have HT2 := Lib.hid hT2
  have HG1 := Lib.hid hG1
  have HB1 := Lib.hid hb1
  have hi1 : (Tryz.prog.info? 145).map (·.size) = some (List.replicate 64 (Value.int .u8 0)).toArray.size := by kernel_rfl
  have HI := Lib.hid hi1
  have hone : (List.replicate 64 (Value.int .u8 0)).toArray.all (·.oneCell') = true := by simp [Value.oneCell']
  have HONE := Lib.hid hone
  clear hone
  have hsz1 := hG1.size
  clear hp hold hT2 hG1 hb1 hi1 hlen1 hS1 hE1 hT1 hg1 hB1 hcp hy c0 HPS HS
  go_wp2_with (refine wpList_store_row rfl 145 _ _ rfl w.heap.size (List.replicate 64 (Value.int .u8 0)).toArray rfl rfl 145 _ hB2 HI.out HOLD.out HONE.out ?_)
  have hB := hB2.row ((List.replicate 56 (0 : UInt8) ++ List.replicate 8 0).map byteV)
  have hpre : (List.replicate 56 (0 : UInt8)).length = 56 := rfl
  have e64 : ((List.replicate 56 (0 : UInt8) ++ List.replicate 8 0).map byteV).toArray = #[Value.int .u8 0, Value.int .u8 0, Value.int .u8 0, Value.int .u8 0, Value.int .u8 0, Value.int .u8 0, Value.int .u8 0, Value.int .u8 0, Value.int .u8 0, Value.int .u8 0, Value.int .u8 0, Value.int .u8 0, Value.int .u8 0, Value.int .u8 0, Value.int .u8 0, Value.int .u8 0, Value.int .u8 0, Value.int .u8 0, Value.int .u8 0, Value.int .u8 0, Value.int .u8 0, Value.int .u8 0, Value.int .u8 0, Value.int .u8 0, Value.int .u8 0, Value.int .u8 0, Value.int .u8 0, Value.int .u8 0, Value.int .u8 0, Value.int .u8 0, Value.int .u8 0, Value.int .u8 0, Value.int .u8 0, Value.int .u8 0, Value.int .u8 0, Value.int .u8 0, Value.int .u8 0, Value.int .u8 0, Value.int .u8 0, Value.int .u8 0, Value.int .u8 0, Value.int .u8 0, Value.int .u8 0, Value.int .u8 0, Value.int .u8 0, Value.int .u8 0, Value.int .u8 0, Value.int .u8 0, Value.int .u8 0, Value.int .u8 0, Value.int .u8 0, Value.int .u8 0, Value.int .u8 0, Value.int .u8 0, Value.int .u8 0, Value.int .u8 0, Value.int .u8 0, Value.int .u8 0, Value.int .u8 0, Value.int .u8 0, Value.int .u8 0, Value.int .u8 0, Value.int .u8 0, Value.int .u8 0] := rfl
  rw [e64] at hB
  have hSb := HB1.out.row_other HNE.out #[Value.int .u8 0, Value.int .u8 0, Value.int .u8 0, Value.int .u8 0, Value.int .u8 0, Value.int .u8 0, Value.int .u8 0, Value.int .u8 0, Value.int .u8 0, Value.int .u8 0, Value.int .u8 0, Value.int .u8 0, Value.int .u8 0, Value.int .u8 0, Value.int .u8 0, Value.int .u8 0, Value.int .u8 0, Value.int .u8 0, Value.int .u8 0, Value.int .u8 0, Value.int .u8 0, Value.int .u8 0, Value.int .u8 0, Value.int .u8 0, Value.int .u8 0, Value.int .u8 0, Value.int .u8 0, Value.int .u8 0, Value.int .u8 0, Value.int .u8 0, Value.int .u8 0, Value.int .u8 0, Value.int .u8 0, Value.int .u8 0, Value.int .u8 0, Value.int .u8 0, Value.int .u8 0, Value.int .u8 0, Value.int .u8 0, Value.int .u8 0, Value.int .u8 0, Value.int .u8 0, Value.int .u8 0, Value.int .u8 0, Value.int .u8 0, Value.int .u8 0, Value.int .u8 0, Value.int .u8 0, Value.int .u8 0, Value.int .u8 0, Value.int .u8 0, Value.int .u8 0, Value.int .u8 0, Value.int .u8 0, Value.int .u8 0, Value.int .u8 0, Value.int .u8 0, Value.int .u8 0, Value.int .u8 0, Value.int .u8 0, Value.int .u8 0, Value.int .u8 0, Value.int .u8 0, Value.int .u8 0]
  have hG2 := grown_newRow HG1.out w.heap.size (Nat.le_refl _) #[Value.int .u8 0, Value.int .u8 0, Value.int .u8 0, Value.int .u8 0, Value.int .u8 0, Value.int .u8 0, Value.int .u8 0, Value.int .u8 0, Value.int .u8 0, Value.int .u8 0, Value.int .u8 0, Value.int .u8 0, Value.int .u8 0, Value.int .u8 0, Value.int .u8 0, Value.int .u8 0, Value.int .u8 0, Value.int .u8 0, Value.int .u8 0, Value.int .u8 0, Value.int .u8 0, Value.int .u8 0, Value.int .u8 0, Value.int .u8 0, Value.int .u8 0, Value.int .u8 0, Value.int .u8 0, Value.int .u8 0, Value.int .u8 0, Value.int .u8 0, Value.int .u8 0, Value.int .u8 0, Value.int .u8 0, Value.int .u8 0, Value.int .u8 0, Value.int .u8 0, Value.int .u8 0, Value.int .u8 0, Value.int .u8 0, Value.int .u8 0, Value.int .u8 0, Value.int .u8 0, Value.int .u8 0, Value.int .u8 0, Value.int .u8 0, Value.int .u8 0, Value.int .u8 0, Value.int .u8 0, Value.int .u8 0, Value.int .u8 0, Value.int .u8 0, Value.int .u8 0, Value.int .u8 0, Value.int .u8 0, Value.int .u8 0, Value.int .u8 0, Value.int .u8 0, Value.int .u8 0, Value.int .u8 0, Value.int .u8 0, Value.int .u8 0, Value.int .u8 0, Value.int .u8 0, Value.int .u8 0]
  generalize w1.setRow w.heap.size #[Value.int .u8 0, Value.int .u8 0, Value.int .u8 0, Value.int .u8 0, Value.int .u8 0, Value.int .u8 0, Value.int .u8 0, Value.int .u8 0, Value.int .u8 0, Value.int .u8 0, Value.int .u8 0, Value.int .u8 0, Value.int .u8 0, Value.int .u8 0, Value.int .u8 0, Value.int .u8 0, Value.int .u8 0, Value.int .u8 0, Value.int .u8 0, Value.int .u8 0, Value.int .u8 0, Value.int .u8 0, Value.int .u8 0, Value.int .u8 0, Value.int .u8 0, Value.int .u8 0, Value.int .u8 0, Value.int .u8 0, Value.int .u8 0, Value.int .u8 0, Value.int .u8 0, Value.int .u8 0, Value.int .u8 0, Value.int .u8 0, Value.int .u8 0, Value.int .u8 0, Value.int .u8 0, Value.int .u8 0, Value.int .u8 0, Value.int .u8 0, Value.int .u8 0, Value.int .u8 0, Value.int .u8 0, Value.int .u8 0, Value.int .u8 0, Value.int .u8 0, Value.int .u8 0, Value.int .u8 0, Value.int .u8 0, Value.int .u8 0, Value.int .u8 0, Value.int .u8 0, Value.int .u8 0, Value.int .u8 0, Value.int .u8 0, Value.int .u8 0, Value.int .u8 0, Value.int .u8 0, Value.int .u8 0, Value.int .u8 0, Value.int .u8 0, Value.int .u8 0, Value.int .u8 0, Value.int .u8 0] = w2 at *
  generalize hq : List.replicate 56 (0 : UInt8) = pre at *
  have HQ := Lib.hid hq
  clear hq e64
  have hk : ∀ j, j < 8 → ((pre ++ List.replicate 8 0).map byteV)[56 + j]? = some (.int .u8 0) := by
    intro j hj
    rw [List.map_append, List.getElem?_append_right (by simp; omega), List.map_replicate, List.getElem?_replicate, if_pos (by simp; omega)]
    rfl
  have k56 := (hB.cell 56).trans (hk 0 (by omega))
  have f56 := hB.frozen 56
  have k57 := (hB.cell 57).trans (hk 1 (by omega))
  have f57 := hB.frozen 57
  have k58 := (hB.cell 58).trans (hk 2 (by omega))
  have f58 := hB.frozen 58
  have k59 := (hB.cell 59).trans (hk 3 (by omega))
  have f59 := hB.frozen 59
  have k60 := (hB.cell 60).trans (hk 4 (by omega))
  have f60 := hB.frozen 60
  have k61 := (hB.cell 61).trans (hk 5 (by omega))
  have f61 := hB.frozen 61
  have k62 := (hB.cell 62).trans (hk 6 (by omega))
  have f62 := hB.frozen 62
  have k63 := (hB.cell 63).trans (hk 7 (by omega))
  have f63 := hB.frozen 63
  have HB := Lib.hid hB
  have HSB := Lib.hid hSb
  have HG := Lib.hid hG2
  have HPRE := Lib.hid hpre
  clear hk hB hSb hG2 hpre hB2 hsz1 HI HONE HOLD HB1 HG1 HT2
  refine wp_loop_rounds 9 ?_; rw [rounds_succ]
  go_wp2
  rw [rounds_succ]
  go_wp2
  rw [rounds_succ]
  go_wp2
  rw [rounds_succ]
  go_wp2
  rw [rounds_succ]
  go_wp2
  rw [rounds_succ]
  go_wp2
  rw [rounds_succ]
  go_wp2
  rw [rounds_succ]
  go_wp2
  rw [rounds_succ]
  go_wp2_with fail
  have z0 : Value.int IntKind.u8 ((L : Int) % 256) = byteV (UInt8.ofNat L) := byteV_of (by omega)
  have z1 : Value.int IntKind.u8 ((L : Int) / 256 % 256) = byteV (UInt8.ofNat (L / 256)) := byteV_of (by omega)
  have z2 : Value.int IntKind.u8 ((L : Int) / 65536 % 256) = byteV (UInt8.ofNat (L / 256 / 256)) := byteV_of (by omega)
  have z3 : Value.int IntKind.u8 ((L : Int) / 16777216 % 256) = byteV (UInt8.ofNat (L / 256 / 256 / 256)) := byteV_of (by omega)
  have z4 : Value.int IntKind.u8 ((L : Int) / 4294967296 % 256) = byteV (UInt8.ofNat (L / 256 / 256 / 256 / 256)) := byteV_of (by omega)
  have z5 : Value.int IntKind.u8 ((L : Int) / 1099511627776 % 256) = byteV (UInt8.ofNat (L / 256 / 256 / 256 / 256 / 256)) := byteV_of (by omega)
  have z6 : Value.int IntKind.u8 ((L : Int) / 281474976710656 % 256) = byteV (UInt8.ofNat (L / 256 / 256 / 256 / 256 / 256 / 256)) := byteV_of (by omega)
  have z7 : Value.int IntKind.u8 ((L : Int) / 72057594037927936) = byteV (UInt8.ofNat (L / 256 / 256 / 256 / 256 / 256 / 256 / 256)) := byteV_of (by omega)
  have B3 := tail_stores w2 w.heap.size pre HPRE.out HB.out L _ _ _ _ _ _ _ _ z0 z1 z2 z3 z4 z5 z6 z7
  obtain ⟨S3, G3⟩ := tail_side2 w2 w.heap.size S HSB.out HNE.out HG.out (Nat.le_refl _) (.int .u8 ((L : Int) % 256)) (.int .u8 ((L : Int) / 256 % 256)) (.int .u8 ((L : Int) / 65536 % 256)) (.int .u8 ((L : Int) / 16777216 % 256)) (.int .u8 ((L : Int) / 4294967296 % 256)) (.int .u8 ((L : Int) / 1099511627776 % 256)) (.int .u8 ((L : Int) / 281474976710656 % 256)) (.int .u8 ((L : Int) / 72057594037927936))
  have T3 := HT.out.grown G3 (by intro k hk; cases hk; exact HS2.out)
  refine (mix_any _ S w.heap.size (mixS s blk) (pre ++ beL 8 L) (by rw [List.length_append, HPRE.out, beL_length]) T3 S3 B3).mono ?_
  rintro e w4 ⟨rfl, hb4, hg4⟩
  go_wp2
  go_end0
  rw [HP.out, HQ.out]
  exact ⟨rfl, hb4, Lib.grownBy_trans G3 hg4⟩

theorem mixLast_any (w : World) (S : Nat) (s : St) (r : ByteArray) (L : Nat) (hL : L < 18446744073709551616) (hr : r.size < 64) (ht : Tabs w) (hS2 : 2 ≤ S) (hS : Blk w S 134 s.vals) :
    Calls Tryz.prog 106 #[.pointer (some ⟨S, 0, none⟩), .string r, .int .u64 L] w fun e w' => e = .returned (.tuple #[]) ∧ Blk w' S 134 (lastS s r.data.toList L).vals ∧ w.grownBy w' (some S) := by
  have hl : r.data.toList.length = r.size := by simp
  by_cases h : r.size + 1 ≤ 56
  · rw [lastS, hl, if_pos h]; exact mixLast_small w S s r L hL h ht hS
  · rw [lastS, hl, if_neg h]; exact mixLast_big w S s r L hL (by omega) hr hS2 ht hS

end Go.Proofs.YtggfmnmopfdiaaaGreatDoor
