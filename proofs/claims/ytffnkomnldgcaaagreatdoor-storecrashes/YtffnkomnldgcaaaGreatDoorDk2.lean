/-
  Contracts of package disk: New, begin, Used, On, Arm, Read, Sync.
-/
import Derived.Test.YtffnkomnldgcaaaGreatDoorDk1
import Derived.Lib.Hide
import Derived.WalkSpells
import Derived.WalkLawsBesides
import Derived.Deep.Light
import Derived.BigRegion
import Derived.BigQuiet
import Derived.Deep.QuietTactic
namespace Go.Proofs.YtffnkomnldgcaaaGreatDoor
open Go.RowKit Go.Pal Go.Pal.Dk Go.Maps

def newD (room : Nat) : Dk := ⟨room, [], true, none⟩
def noLay : Lay := ⟨none, fun _ => 0, fun _ => .slice none 0 0⟩
theorem new_at (w : World) (base room : Nat) (hb : base ≤ w.heap.size) (hr : room ≤ 4194304) :
    DkAt (w.alloc (.cells #[.int .i64 (room : Int), .int .i64 0, .map none, .bool true, .bool false, .int .i64 0] 54)) base w.heap.size (newD room) noLay :=
  ⟨Blk.new w _ [.int .i64 (room : Int), .int .i64 0, .map none, .bool true, .bool false, .int .i64 0], ⟨hr, Nat.zero_le _, List.Pairwise.nil, fun f hf => (by cases hf), fun f hf => (by cases hf), Nat.zero_le _⟩, rfl, fun f hf => (by cases hf), fun f hf => (by cases hf), hb, fun b hb => (by cases hb)⟩

set_option maxHeartbeats 400000 in
set_option maxRecDepth 100000 in
theorem new_yes (w : World) (room : Nat) (hr : room ≤ 4194304) :
    Calls Tryz.prog 6 #[.int .i64 (room : Int)] w fun e w' => e = .returned (.pointer (some ⟨w.heap.size, 0, none⟩)) ∧ w' = w.alloc (.cells #[.int .i64 (room : Int), .int .i64 0, .map none, .bool true, .bool false, .int .i64 0] 54) := by
  have d1 : decide ((room : Int) < 0) = false := decide_eq_false (by omega)
  have d2 : decide (4194304 < (room : Int)) = false := decide_eq_false (by omega)
  go_enter Tryz.func6, Tryz.ntmps6
  go_wp2
  go_ret
  exact ⟨rfl, rfl⟩
set_option maxHeartbeats 400000 in
set_option maxRecDepth 100000 in
theorem new_no (w : World) (room : Int) (hr : room < 0 ∨ 4194304 < room) :
    Calls Tryz.prog 6 #[.int .i64 room] w fun e w' => e = .returned (.pointer none) ∧ w' = w := by
  by_cases h1 : room < 0
  · have d1 : decide (room < 0) = true := decide_eq_true h1
    clear h1
    go_enter Tryz.func6, Tryz.ntmps6
    go_wp2
    go_ret
    exact ⟨rfl, rfl⟩
  · have d1 : decide (room < 0) = false := decide_eq_false h1
    have d2 : decide (4194304 < room) = true := decide_eq_true (by omega)
    clear h1 hr
    go_enter Tryz.func6, Tryz.ntmps6
    go_wp2
    go_ret
    exact ⟨rfl, rfl⟩

theorem name_none (n : ByteArray) (h : n.size = 0) : n.toList = [] := by
  rw [ByteArray.toList_eq]; apply List.eq_nil_of_length_eq_zero; simpa using h
theorem name_some (n : ByteArray) (h : 1 ≤ n.size) : ¬ n.toList = [] := by
  rw [ByteArray.toList_eq]; intro e
  have h2 : n.data.toList.length = n.size := by simp
  rw [e] at h2; simp at h2; omega

theorem grow_set {w w' : World} {p : Addr} {D : Nat} {v : Value} (h : w.grownBy w' (some D)) (hp : p.block = D) : w.grownBy (w'.setCell p v) (some D) :=
  ⟨h.os, h.tape, h.output, by simpa using h.size, fun k hk hne => (Below.heap_setCell w' p v k (fun e => hne (by rw [e, hp]))).trans (h.block k hk hne)⟩

set_option maxHeartbeats 400000 in
set_option maxRecDepth 100000 in
theorem begin_off_n (w : World) (D : Nat) (v0 v1 v2 : Value) (n : ByteArray) (l0 : Int)
    (hB : Blk w D 54 [v0, v1, v2, .bool false, .bool false, .int .i64 l0]) :
    Calls Tryz.prog 64 #[.pointer (some ⟨D, 0, none⟩), .string n] w fun e w' => e = .returned (.int .i64 6) ∧
      Blk w' D 54 [v0, v1, v2, .bool false, .bool false, .int .i64 l0] ∧ w.grownBy w' (some D) := by
  have c3 : w.cell? ⟨D, 3, none⟩ = some (.bool false) := hB.cell 3
  have c4 : w.cell? ⟨D, 4, none⟩ = some (.bool false) := hB.cell 4
  have c5 : w.cell? ⟨D, 5, none⟩ = some (.int .i64 l0) := hB.cell 5
  have f3 := hB.frozen 3
  have f5 := hB.frozen 5
  have HB := Lib.hid hB
  clear hB
  go_enter Tryz.func64, Tryz.ntmps64
  go_wp2
  go_ret
  exact ⟨rfl, HB.out, World.grownBy.refl w _⟩
set_option maxHeartbeats 400000 in
set_option maxRecDepth 100000 in
theorem begin_off_0 (w : World) (D : Nat) (v0 v1 v2 : Value) (n : ByteArray)
    (hB : Blk w D 54 [v0, v1, v2, .bool false, .bool true, .int .i64 0]) :
    Calls Tryz.prog 64 #[.pointer (some ⟨D, 0, none⟩), .string n] w fun e w' => e = .returned (.int .i64 6) ∧
      Blk w' D 54 [v0, v1, v2, .bool false, .bool true, .int .i64 0] ∧ w.grownBy w' (some D) := by
  have c3 : w.cell? ⟨D, 3, none⟩ = some (.bool false) := hB.cell 3
  have c4 : w.cell? ⟨D, 4, none⟩ = some (.bool true) := hB.cell 4
  have c5 : w.cell? ⟨D, 5, none⟩ = some (.int .i64 0) := hB.cell 5
  have f3 := hB.frozen 3
  have f5 := hB.frozen 5
  have HB := Lib.hid hB
  clear hB
  go_enter Tryz.func64, Tryz.ntmps64
  go_wp2
  go_ret
  exact ⟨rfl, HB.out.set 3 _, grow_set (World.grownBy.refl w _) rfl⟩
set_option maxHeartbeats 400000 in
set_option maxRecDepth 100000 in
theorem begin_off_k (w : World) (D : Nat) (v0 v1 v2 : Value) (n : ByteArray) (k : Nat) (hk : k < 9223372036854775807)
    (hB : Blk w D 54 [v0, v1, v2, .bool false, .bool true, .int .i64 ((k : Int) + 1)]) :
    Calls Tryz.prog 64 #[.pointer (some ⟨D, 0, none⟩), .string n] w fun e w' => e = .returned (.int .i64 6) ∧
      Blk w' D 54 [v0, v1, v2, .bool false, .bool true, .int .i64 ((k : Int) + 1)] ∧ w.grownBy w' (some D) := by
  have c3 : w.cell? ⟨D, 3, none⟩ = some (.bool false) := hB.cell 3
  have c4 : w.cell? ⟨D, 4, none⟩ = some (.bool true) := hB.cell 4
  have c5 : w.cell? ⟨D, 5, none⟩ = some (.int .i64 ((k : Int) + 1)) := hB.cell 5
  have f3 := hB.frozen 3
  have f5 := hB.frozen 5
  have e0 : (((k : Int) + 1) == 0) = false := beq_eq_false_iff_ne.2 (by omega)
  have HB := Lib.hid hB
  clear hB
  go_enter Tryz.func64, Tryz.ntmps64
  go_wp2
  go_ret
  exact ⟨rfl, HB.out, World.grownBy.refl w _⟩
set_option maxHeartbeats 400000 in
set_option maxRecDepth 100000 in
theorem begin_0 (w : World) (D : Nat) (v0 v1 v2 : Value) (n : ByteArray)
    (hB : Blk w D 54 [v0, v1, v2, .bool true, .bool true, .int .i64 0]) :
    Calls Tryz.prog 64 #[.pointer (some ⟨D, 0, none⟩), .string n] w fun e w' => e = .returned (.int .i64 6) ∧
      Blk w' D 54 [v0, v1, v2, .bool false, .bool true, .int .i64 0] ∧ w.grownBy w' (some D) := by
  have c3 : w.cell? ⟨D, 3, none⟩ = some (.bool true) := hB.cell 3
  have c4 : w.cell? ⟨D, 4, none⟩ = some (.bool true) := hB.cell 4
  have c5 : w.cell? ⟨D, 5, none⟩ = some (.int .i64 0) := hB.cell 5
  have f3 := hB.frozen 3
  have f5 := hB.frozen 5
  have HB := Lib.hid hB
  clear hB
  go_enter Tryz.func64, Tryz.ntmps64
  go_wp2
  go_ret
  exact ⟨rfl, HB.out.set 3 _, grow_set (World.grownBy.refl w _) rfl⟩
set_option maxHeartbeats 400000 in
set_option maxRecDepth 100000 in
theorem begin_n_o (w : World) (D : Nat) (v0 v1 v2 : Value) (n : ByteArray) (l0 : Int) (hn : 1 ≤ n.size) (hm : n.size ≤ 32)
    (hB : Blk w D 54 [v0, v1, v2, .bool true, .bool false, .int .i64 l0]) :
    Calls Tryz.prog 64 #[.pointer (some ⟨D, 0, none⟩), .string n] w fun e w' => e = .returned (.int .i64 0) ∧
      Blk w' D 54 [v0, v1, v2, .bool true, .bool false, .int .i64 l0] ∧ w.grownBy w' (some D) := by
  have c3 : w.cell? ⟨D, 3, none⟩ = some (.bool true) := hB.cell 3
  have c4 : w.cell? ⟨D, 4, none⟩ = some (.bool false) := hB.cell 4
  have c5 : w.cell? ⟨D, 5, none⟩ = some (.int .i64 l0) := hB.cell 5
  have f3 := hB.frozen 3
  have f5 := hB.frozen 5
  have e1 := name_some n (by omega)
  have e4 : n.toList.isEmpty = false := by cases hl : n.toList with | nil => exact absurd hl e1 | cons _ _ => rfl
  have e2 : decide (32 < (n.size : Int)) = false := decide_eq_false (by omega)
  have HB := Lib.hid hB
  clear hB
  go_enter Tryz.func64, Tryz.ntmps64
  go_wp2
  go_ret
  exact ⟨rfl, HB.out, World.grownBy.refl w _⟩
set_option maxHeartbeats 400000 in
set_option maxRecDepth 100000 in
theorem begin_k_o (w : World) (D : Nat) (v0 v1 v2 : Value) (n : ByteArray) (k : Nat) (hk : k < 9223372036854775807) (hn : 1 ≤ n.size) (hm : n.size ≤ 32)
    (hB : Blk w D 54 [v0, v1, v2, .bool true, .bool true, .int .i64 ((k : Int) + 1)]) :
    Calls Tryz.prog 64 #[.pointer (some ⟨D, 0, none⟩), .string n] w fun e w' => e = .returned (.int .i64 0) ∧
      Blk w' D 54 [v0, v1, v2, .bool true, .bool true, .int .i64 (k : Int)] ∧ w.grownBy w' (some D) := by
  have c3 : w.cell? ⟨D, 3, none⟩ = some (.bool true) := hB.cell 3
  have c4 : w.cell? ⟨D, 4, none⟩ = some (.bool true) := hB.cell 4
  have c5 : w.cell? ⟨D, 5, none⟩ = some (.int .i64 ((k : Int) + 1)) := hB.cell 5
  have f3 := hB.frozen 3
  have f5 := hB.frozen 5
  have e1 := name_some n (by omega)
  have e4 : n.toList.isEmpty = false := by cases hl : n.toList with | nil => exact absurd hl e1 | cons _ _ => rfl
  have e2 : decide (32 < (n.size : Int)) = false := decide_eq_false (by omega)
  have e0 : (((k : Int) + 1) == 0) = false := beq_eq_false_iff_ne.2 (by omega)
  have e3 : ((k : Int) + 1 - 1) = (k : Int) := by omega
  have HB := Lib.hid hB
  clear hB
  go_enter Tryz.func64, Tryz.ntmps64
  go_wp2
  go_ret
  exact ⟨rfl, HB.out.set 5 _, grow_set (World.grownBy.refl w _) rfl⟩
set_option maxHeartbeats 400000 in
set_option maxRecDepth 100000 in
theorem begin_n_e (w : World) (D : Nat) (v0 v1 v2 : Value) (n : ByteArray) (l0 : Int) (hn : n.size = 0)
    (hB : Blk w D 54 [v0, v1, v2, .bool true, .bool false, .int .i64 l0]) :
    Calls Tryz.prog 64 #[.pointer (some ⟨D, 0, none⟩), .string n] w fun e w' => e = .returned (.int .i64 1) ∧
      Blk w' D 54 [v0, v1, v2, .bool true, .bool false, .int .i64 l0] ∧ w.grownBy w' (some D) := by
  have c3 : w.cell? ⟨D, 3, none⟩ = some (.bool true) := hB.cell 3
  have c4 : w.cell? ⟨D, 4, none⟩ = some (.bool false) := hB.cell 4
  have c5 : w.cell? ⟨D, 5, none⟩ = some (.int .i64 l0) := hB.cell 5
  have f3 := hB.frozen 3
  have f5 := hB.frozen 5
  have e1 := name_none n hn
  have HB := Lib.hid hB
  clear hB
  go_enter Tryz.func64, Tryz.ntmps64
  go_wp2
  go_ret
  exact ⟨rfl, HB.out, World.grownBy.refl w _⟩
set_option maxHeartbeats 400000 in
set_option maxRecDepth 100000 in
theorem begin_k_e (w : World) (D : Nat) (v0 v1 v2 : Value) (n : ByteArray) (k : Nat) (hk : k < 9223372036854775807) (hn : n.size = 0)
    (hB : Blk w D 54 [v0, v1, v2, .bool true, .bool true, .int .i64 ((k : Int) + 1)]) :
    Calls Tryz.prog 64 #[.pointer (some ⟨D, 0, none⟩), .string n] w fun e w' => e = .returned (.int .i64 1) ∧
      Blk w' D 54 [v0, v1, v2, .bool true, .bool true, .int .i64 (k : Int)] ∧ w.grownBy w' (some D) := by
  have c3 : w.cell? ⟨D, 3, none⟩ = some (.bool true) := hB.cell 3
  have c4 : w.cell? ⟨D, 4, none⟩ = some (.bool true) := hB.cell 4
  have c5 : w.cell? ⟨D, 5, none⟩ = some (.int .i64 ((k : Int) + 1)) := hB.cell 5
  have f3 := hB.frozen 3
  have f5 := hB.frozen 5
  have e1 := name_none n hn
  have e0 : (((k : Int) + 1) == 0) = false := beq_eq_false_iff_ne.2 (by omega)
  have e3 : ((k : Int) + 1 - 1) = (k : Int) := by omega
  have HB := Lib.hid hB
  clear hB
  go_enter Tryz.func64, Tryz.ntmps64
  go_wp2
  go_ret
  exact ⟨rfl, HB.out.set 5 _, grow_set (World.grownBy.refl w _) rfl⟩
set_option maxHeartbeats 400000 in
set_option maxRecDepth 100000 in
theorem begin_n_l (w : World) (D : Nat) (v0 v1 v2 : Value) (n : ByteArray) (l0 : Int) (hn : 32 < n.size)
    (hB : Blk w D 54 [v0, v1, v2, .bool true, .bool false, .int .i64 l0]) :
    Calls Tryz.prog 64 #[.pointer (some ⟨D, 0, none⟩), .string n] w fun e w' => e = .returned (.int .i64 1) ∧
      Blk w' D 54 [v0, v1, v2, .bool true, .bool false, .int .i64 l0] ∧ w.grownBy w' (some D) := by
  have c3 : w.cell? ⟨D, 3, none⟩ = some (.bool true) := hB.cell 3
  have c4 : w.cell? ⟨D, 4, none⟩ = some (.bool false) := hB.cell 4
  have c5 : w.cell? ⟨D, 5, none⟩ = some (.int .i64 l0) := hB.cell 5
  have f3 := hB.frozen 3
  have f5 := hB.frozen 5
  have e1 := name_some n (by omega)
  have e4 : n.toList.isEmpty = false := by cases hl : n.toList with | nil => exact absurd hl e1 | cons _ _ => rfl
  have e2 : decide (32 < (n.size : Int)) = true := decide_eq_true (by omega)
  have HB := Lib.hid hB
  clear hB
  go_enter Tryz.func64, Tryz.ntmps64
  go_wp2
  go_ret
  exact ⟨rfl, HB.out, World.grownBy.refl w _⟩
set_option maxHeartbeats 400000 in
set_option maxRecDepth 100000 in
theorem begin_k_l (w : World) (D : Nat) (v0 v1 v2 : Value) (n : ByteArray) (k : Nat) (hk : k < 9223372036854775807) (hn : 32 < n.size)
    (hB : Blk w D 54 [v0, v1, v2, .bool true, .bool true, .int .i64 ((k : Int) + 1)]) :
    Calls Tryz.prog 64 #[.pointer (some ⟨D, 0, none⟩), .string n] w fun e w' => e = .returned (.int .i64 1) ∧
      Blk w' D 54 [v0, v1, v2, .bool true, .bool true, .int .i64 (k : Int)] ∧ w.grownBy w' (some D) := by
  have c3 : w.cell? ⟨D, 3, none⟩ = some (.bool true) := hB.cell 3
  have c4 : w.cell? ⟨D, 4, none⟩ = some (.bool true) := hB.cell 4
  have c5 : w.cell? ⟨D, 5, none⟩ = some (.int .i64 ((k : Int) + 1)) := hB.cell 5
  have f3 := hB.frozen 3
  have f5 := hB.frozen 5
  have e1 := name_some n (by omega)
  have e4 : n.toList.isEmpty = false := by cases hl : n.toList with | nil => exact absurd hl e1 | cons _ _ => rfl
  have e2 : decide (32 < (n.size : Int)) = true := decide_eq_true (by omega)
  have e0 : (((k : Int) + 1) == 0) = false := beq_eq_false_iff_ne.2 (by omega)
  have e3 : ((k : Int) + 1 - 1) = (k : Int) := by omega
  have HB := Lib.hid hB
  clear hB
  go_enter Tryz.func64, Tryz.ntmps64
  go_wp2
  go_ret
  exact ⟨rfl, HB.out.set 5 _, grow_set (World.grownBy.refl w _) rfl⟩
theorem nameOk_yes {n : ByteArray} (h1 : 1 ≤ n.size) (h2 : n.size ≤ 32) : nameOk n = true := by simp [nameOk, h1, h2]
theorem nameOk_empty {n : ByteArray} (h : n.size = 0) : nameOk n = false := by simp [nameOk, h]
theorem nameOk_long {n : ByteArray} (h : 32 < n.size) : nameOk n = false := by simp [nameOk]; omega

theorem begin_any {w : World} {base D : Nat} {d : Dk} {L : Lay} (h : DkAt w base D d L) (n : ByteArray) :
    Calls Tryz.prog 64 #[.pointer (some ⟨D, 0, none⟩), .string n] w fun e w' => e = .returned (.int .i64 (begE d n)) ∧ DkAt w' base D (begD d).2 L ∧ w.grownBy w' (some D) := by
  have hB := h.blk
  have ha := h.good.arm
  obtain ⟨room, fs, on, arm⟩ := d
  have key : ∀ (on' : Bool) (arm' : Option Nat) (go : Bool), arm'.getD 0 ≤ 9223372036854775807 → begD ⟨room, fs, on, arm⟩ = (go, ⟨room, fs, on', arm'⟩) → ∀ E : Int, begE ⟨room, fs, on, arm⟩ n = E →
      (Calls Tryz.prog 64 #[.pointer (some ⟨D, 0, none⟩), .string n] w fun e w' => e = .returned (.int .i64 E) ∧ Blk w' D 54 [.int .i64 (room : Int), .int .i64 (usedF fs : Int), .map L.map, .bool on', .bool arm'.isSome, .int .i64 ((arm'.getD 0 : Nat) : Int)] ∧ w.grownBy w' (some D)) →
      Calls Tryz.prog 64 #[.pointer (some ⟨D, 0, none⟩), .string n] w fun e w' => e = .returned (.int .i64 (begE ⟨room, fs, on, arm⟩ n)) ∧ DkAt w' base D (begD ⟨room, fs, on, arm⟩).2 L ∧ w.grownBy w' (some D) := by
    intro on' arm' go ha' e1 E e2 hc
    refine hc.mono ?_
    rintro e w' ⟨rfl, hB', hg⟩
    rw [e2, e1]
    exact ⟨rfl, h.head ha' hg hB', hg⟩
  cases on with
  | false =>
    have e1 : begD ⟨room, fs, false, arm⟩ = (false, ⟨room, fs, false, arm⟩) := rfl
    have e2 : begE ⟨room, fs, false, arm⟩ n = 6 := rfl
    rcases arm with _ | _ | k
    · exact key false none false (Nat.zero_le _) e1 6 e2 (begin_off_n w D _ _ _ n 0 hB)
    · exact key false (some 0) false (Nat.zero_le _) e1 6 e2 (begin_off_0 w D _ _ _ n hB)
    · have := begin_off_k w D (.int .i64 (room : Int)) (.int .i64 (usedF fs : Int)) (.map L.map) n k (by simp at ha; omega) (by simpa using hB)
      exact key false (some (k + 1)) false (by simpa using ha) e1 6 e2 (by simpa using this)
  | true =>
    by_cases n0 : n.size = 0
    · have hn := nameOk_empty n0
      rcases arm with _ | _ | k
      · exact key true none true (Nat.zero_le _) rfl 1 (by simp [begE, begD, hn]) (begin_n_e w D _ _ _ n 0 n0 hB)
      · exact key false (some 0) false (Nat.zero_le _) rfl 6 rfl (begin_0 w D _ _ _ n hB)
      · have := begin_k_e w D (.int .i64 (room : Int)) (.int .i64 (usedF fs : Int)) (.map L.map) n k (by simp at ha; omega) n0 (by simpa using hB)
        exact key true (some k) true (by simp at ha ⊢; omega) rfl 1 (by simp [begE, begD, hn]) this
    · by_cases n1 : 32 < n.size
      · have hn := nameOk_long n1
        rcases arm with _ | _ | k
        · exact key true none true (Nat.zero_le _) rfl 1 (by simp [begE, begD, hn]) (begin_n_l w D _ _ _ n 0 n1 hB)
        · exact key false (some 0) false (Nat.zero_le _) rfl 6 rfl (begin_0 w D _ _ _ n hB)
        · have := begin_k_l w D (.int .i64 (room : Int)) (.int .i64 (usedF fs : Int)) (.map L.map) n k (by simp at ha; omega) n1 (by simpa using hB)
          exact key true (some k) true (by simp at ha ⊢; omega) rfl 1 (by simp [begE, begD, hn]) this
      · have hn := nameOk_yes (n := n) (by omega) (by omega)
        rcases arm with _ | _ | k
        · exact key true none true (Nat.zero_le _) rfl 0 (by simp [begE, begD, hn]) (begin_n_o w D _ _ _ n 0 (by omega) (by omega) hB)
        · exact key false (some 0) false (Nat.zero_le _) rfl 6 rfl (begin_0 w D _ _ _ n hB)
        · have := begin_k_o w D (.int .i64 (room : Int)) (.int .i64 (usedF fs : Int)) (.map L.map) n k (by simp at ha; omega) (by omega) (by omega) (by simpa using hB)
          exact key true (some k) true (by simp at ha ⊢; omega) rfl 0 (by simp [begE, begD, hn]) this

set_option maxHeartbeats 400000 in
set_option maxRecDepth 100000 in
theorem begin_nil (w : World) (n : ByteArray) :
    Calls Tryz.prog 64 #[.pointer none, .string n] w fun e w' => e = .returned (.int .i64 1) ∧ w' = w := by
  go_enter Tryz.func64, Tryz.ntmps64
  go_wp2
  go_ret
  exact ⟨rfl, rfl⟩
set_option maxHeartbeats 400000 in
set_option maxRecDepth 100000 in
theorem on_any {w : World} {base D : Nat} {d : Dk} {L : Lay} (h : DkAt w base D d L) :
    Calls Tryz.prog 60 #[.pointer (some ⟨D, 0, none⟩)] w fun e w' => e = .returned (.bool d.on) ∧ w' = w := by
  have c1 : w.cell? ⟨D, 3, none⟩ = some (.bool d.on) := h.blk.cell 3
  clear h
  generalize d.on = o at *
  go_enter Tryz.func60, Tryz.ntmps60
  go_wp2
  go_ret
  exact ⟨rfl, rfl⟩
set_option maxHeartbeats 400000 in
set_option maxRecDepth 100000 in
theorem on_nil (w : World) :
    Calls Tryz.prog 60 #[.pointer none] w fun e w' => e = .returned (.bool false) ∧ w' = w := by
  go_enter Tryz.func60, Tryz.ntmps60
  go_wp2
  go_ret
  exact ⟨rfl, rfl⟩
end Go.Proofs.YtffnkomnldgcaaaGreatDoor
