/-
  Contracts of key: leafCount, publicOf, messageDigest, grow; the document's Named.
-/
import Derived.Test.YtanplccigmihfaaGreatDoorK0
import Derived.Test.YtanplccigmihfaaGreatDoorK1
import Derived.Deep.RegionWith
namespace Go.Pal
open Go.RowKit
theorem strs1t (w : World) (t : TypeId) (x : ByteArray) : StrRow (w.alloc (.cells #[.string x] t)) (some ⟨w.heap.size, 0, none⟩) [x] := by
  refine .inr ⟨w.heap.size, 0, rfl, by simp, fun i hi => ?_⟩
  rw [World.cell?_alloc_mark]
  match i, hi with
  | 0, _ => rfl
end Go.Pal
namespace Go.Proofs.YtanplccigmihfaaGreatDoor
open Go.RowKit Go.Pal

theorem count_any (h : Nat) (hh : h ≤ 4) (w : World) :
    Calls Tryz.prog 27 #[.int .i64 (h : Int)] w fun e w' => e = .returned (.int .i64 ((2 ^ h : Nat) : Int)) ∧ w = w' := by
  have : h = 0 ∨ h = 1 ∨ h = 2 ∨ h = 3 ∨ h = 4 := by omega
  rcases this with rfl | rfl | rfl | rfl | rfl
  all_goals
    go_enter Tryz.func27, Tryz.ntmps27
    go_wp2
    go_ret
    exact ⟨rfl, rfl⟩

set_option maxHeartbeats 400000 in
theorem msg_any (m : ByteArray) (hm : m.size ≤ 1000000) (w : World) (ht : Tabs w) :
    Calls Tryz.prog 39 #[.string m] w fun e w' => e = .returned (.string (msgB m)) ∧ Below w.heap.size w w' := by
  have htot : totL [m] ≤ 2147483647 := by simp [totL]; omega
  have HTG := Lib.hid (fun W a c hT h => tag_any W 6 a c [m] hT h htot (by simp))
  have hp : msgB m = shaB ⟨(inputL 6 [m]).toArray⟩ := rfl
  have HP := Lib.hid hp
  have HT := Lib.hid ht
  clear htot hp ht hm
  go_enter Tryz.func39, Tryz.ntmps39
  go_wp2_with fail
  have c3 := (Below.refl w.heap.size w).alloc (Nat.le_refl _) (.cells #[.string m] 9)
  refine (HTG.out _ _ _ (HT.out.below c3) (strs1t _ _ _)).mono ?_
  rintro e w4 ⟨rfl, b4⟩
  have C4 := Lib.hid (c3.trans (b4.mono c3.size))
  clear b4 c3
  rw [← HP.out]
  go_wp2
  go_ret
  exact ⟨rfl, C4.out⟩

set_option maxHeartbeats 400000 in
theorem named_any (h : Nat) (root : ByteArray) (hh : h ≤ 4) (hr : root.size ≤ 1000000) (w : World) (ht : Tabs w) :
    Calls Tryz.prog 58 #[.int .i64 (h : Int), .string root] w fun e w' => e = .returned (.string (namedB h root)) ∧ Below w.heap.size w w' := by
  have htot : totL [be 1 h, root] ≤ 2147483647 := by simp [totL, be_size]; omega
  have HTG := Lib.hid (fun W a c hT h2 => tag_any W 5 a c [be 1 h, root] hT h2 htot (by simp))
  have hp : namedB h root = shaB ⟨(inputL 5 [be 1 h, root]).toArray⟩ := rfl
  have HP := Lib.hid hp
  have HT := Lib.hid ht
  have hk := numOk_yes (k := 1) (n := (h : Int)) (by omega) (by simp; omega)
  have hB := numB_yes hk
  have hby := byte_any (h : Int) (by omega)
  rw [hB, hk, Int.toNat_natCast] at hby
  have HBY := Lib.hid hby
  clear htot hp ht hr hB hk hby
  generalize be 1 h = B at *
  go_enter Tryz.func58, Tryz.ntmps58
  go_wp2_with fail
  refine (HBY.out _).mono ?_
  rintro e w1 ⟨rfl, b1⟩
  have B1 := Lib.hid b1
  clear b1
  go_wp2_with fail
  have c3 := (B1.out).alloc B1.out.size (.cells #[.string B, .string root] 9)
  refine (HTG.out _ _ _ (HT.out.below c3) (strs2t _ _ _ _)).mono ?_
  rintro e w4 ⟨rfl, b4⟩
  have C4 := Lib.hid (c3.trans (b4.mono c3.size))
  clear b4 c3
  rw [← HP.out]
  go_wp2
  go_ret
  exact ⟨rfl, C4.out⟩
end Go.Proofs.YtanplccigmihfaaGreatDoor
