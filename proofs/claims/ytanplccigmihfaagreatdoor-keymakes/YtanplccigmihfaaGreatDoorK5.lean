/-
  Contracts of key: New, Public, Used, Left, takeLeaf.
-/
import Derived.Test.YtanplccigmihfaaGreatDoorK4
import Derived.Test.YtanplccigmihfaaGreatDoorClone
namespace Go.Proofs.YtanplccigmihfaaGreatDoor
open Go.RowKit Go.Pal

theorem KeyAt.blk {w : World} {b : Nat} {seed : ByteArray} {h : Nat} {used : Int} (hK : KeyAt w b seed h used) : ∃ x3 x4 x5 x6 x7, Blk w b 69 (keyCells seed h (.int .i64 used) x3 x4 x5 x6 x7) := by
  rcases hK with hK | ⟨g, _, hK, _⟩
  · exact ⟨_, _, _, _, _, hK⟩
  · exact ⟨_, _, _, _, _, hK⟩
theorem KeyAt.lt {w : World} {b : Nat} {seed : ByteArray} {h : Nat} {used : Int} (hK : KeyAt w b seed h used) : b < w.heap.size := by
  obtain ⟨_, _, _, _, _, hK⟩ := hK.blk
  exact hK.lt
theorem KeyGrown.below {w w' : World} {b : Nat} {seed : ByteArray} {h : Nat} {used : Int} (hK : KeyGrown w b seed h used) (hb : Below w.heap.size w w') : KeyGrown w' b seed h used := by
  obtain ⟨g, hne, hK, hR⟩ := hK
  exact ⟨g, hne, hK.below hb hK.lt, hR.below hb hR.lt⟩
theorem KeyAt.below {w w' : World} {b : Nat} {seed : ByteArray} {h : Nat} {used : Int} (hK : KeyAt w b seed h used) (hb : Below w.heap.size w w') : KeyAt w' b seed h used := by
  rcases hK with hK | hK
  · exact .inl (Blk.below hK hb (Blk.lt hK))
  · exact .inr (hK.below hb)
/-- A leaf is taken. -/
theorem KeyAt.take {w : World} {b : Nat} {seed : ByteArray} {h : Nat} {used : Int} (hK : KeyAt w b seed h used) (u : Int) : KeyAt (w.setCell ⟨b, 2, none⟩ (.int .i64 u)) b seed h u := by
  rcases hK with hK | ⟨g, hne, hK, hR⟩
  · exact .inl (Blk.set hK 2 (.int .i64 u))
  · exact .inr ⟨g, hne, hK.set 2 (.int .i64 u), hR.other (p := ⟨b, 2, none⟩) hne _⟩

set_option maxHeartbeats 1000000 in
set_option maxRecDepth 100000 in
theorem new_yes (w : World) (seed : ByteArray) (h used : Nat) (hh : h ≤ 4) (hu : used ≤ 2 ^ h) (hs : seed.size ≤ 281474976710656) :
    Calls Tryz.prog 12 #[.string seed, .int .i64 (h : Int), .int .i64 (used : Int)] w fun e w' => (∃ b, e = .returned (.pointer (some ⟨b, 0, none⟩)) ∧ KeyFresh w' b seed h used ∧ w.heap.size ≤ b) ∧ Below w.heap.size w w' := by
  have HC := Lib.hid (fun W => count_any h hh W)
  have HCL := Lib.hid (fun W => clone_any seed W hs)
  have g2 : ¬ 4 < h := by omega
  generalize 2 ^ h = n at *
  have g4 : ¬ n < used := by omega
  clear hs hu
  go_enter Tryz.func12, Tryz.ntmps12
  go_wp2_with (first | (go_at_call 27; refine (HC.out _).mono ?_; rintro e w' ⟨rfl, rfl⟩) | (go_at_call 28; refine (HCL.out _).mono ?_; rintro e w1 ⟨rfl, b1⟩))
  have hB := Blk.new w1 69 (keyCells seed h (.int .i64 0) (.int .u32 0) (.int .i32 0) (.int .u32 0) (.slice none 0 0) (.string ⟨#[]⟩))
  have HST := Lib.hid (store64 ⟨w1.heap.size, 2, none⟩ (.int .i64 0) used _ (hB.cell 2) (hB.frozen 2))
  have HBS := Lib.hid (Blk.new w1 69 (keyCells seed h (.int .i64 used) (.int .u32 0) (.int .i32 0) (.int .u32 0) (.slice none 0 0) (.string ⟨#[]⟩)))
  have HBB := Lib.hid (b1.alloc b1.size (.cells (keyCells seed h (.int .i64 used) (.int .u32 0) (.int .i32 0) (.int .u32 0) (.slice none 0 0) (.string ⟨#[]⟩)).toArray 69))
  have hsz := b1.size
  clear hB b1
  refine HST.out.mono ?_
  rintro e w2 ⟨rfl, rfl⟩
  go_wp2
  go_ret
  exact ⟨⟨w1.heap.size, rfl, HBS.out, hsz⟩, HBB.out⟩

set_option maxHeartbeats 1000000 in
set_option maxRecDepth 100000 in
theorem new_no (w : World) (seed : ByteArray) (h used : Int) (hx : h < 0 ∨ 4 < h ∨ used < 0 ∨ ((2 ^ h.toNat : Nat) : Int) < used) :
    Calls Tryz.prog 12 #[.string seed, .int .i64 h, .int .i64 used] w fun e w' => e = .returned (.pointer none) ∧ w = w' := by
  by_cases h1 : h < 0
  · go_enter Tryz.func12, Tryz.ntmps12
    go_wp2
    go_ret
    exact ⟨rfl, rfl⟩
  by_cases h2 : 4 < h
  · go_enter Tryz.func12, Tryz.ntmps12
    go_wp2
    go_ret
    exact ⟨rfl, rfl⟩
  by_cases h3 : used < 0
  · go_enter Tryz.func12, Tryz.ntmps12
    go_wp2
    go_ret
    exact ⟨rfl, rfl⟩
  obtain ⟨k, rfl⟩ : ∃ k : Nat, h = k := ⟨h.toNat, by omega⟩
  have HC := Lib.hid (fun W => count_any k (by omega) W)
  rw [Int.toNat_natCast] at hx
  generalize 2 ^ k = n at *
  have h4 : (n : Int) < used := by omega
  clear hx
  have h5 : ¬ 4 < k := by omega
  go_enter Tryz.func12, Tryz.ntmps12
  go_wp2_with (go_at_call 27; refine (HC.out _).mono ?_; rintro e w' ⟨rfl, rfl⟩)
  go_ret
  exact ⟨rfl, rfl⟩

theorem used_any (w : World) (b : Nat) (seed : ByteArray) (h : Nat) (used : Int) (hK : KeyAt w b seed h used) :
    Calls Tryz.prog 15 #[.pointer (some ⟨b, 0, none⟩)] w fun e w' => e = .returned (.int .i64 used) ∧ w = w' := by
  obtain ⟨x3, x4, x5, x6, x7, hB⟩ := hK.blk
  have HL := Lib.hid (load64 ⟨b, 2, none⟩ used w (hB.cell 2))
  clear hB hK
  go_enter Tryz.func15, Tryz.ntmps15
  go_wp2_with (go_at_call 35; refine HL.out.mono ?_; rintro e w' ⟨rfl, rfl⟩)
  go_ret
  exact ⟨rfl, rfl⟩

set_option maxHeartbeats 400000 in
theorem left_any5 (w : World) (b : Nat) (seed : ByteArray) (h used : Nat) (hh : h ≤ 4) (hu : used ≤ 2 ^ h) (hK : KeyAt w b seed h used) :
    Calls Tryz.prog 16 #[.pointer (some ⟨b, 0, none⟩)] w fun e w' => e = .returned (.int .i64 ((2 ^ h - used : Nat) : Int)) ∧ w = w' := by
  obtain ⟨x3, x4, x5, x6, x7, hB⟩ := hK.blk
  have HU := Lib.hid (used_any w b seed h used hK)
  have HC := Lib.hid (count_any h hh w)
  have c1 : w.cell? ⟨b, 1, none⟩ = some (.int .i64 (h : Int)) := hB.cell 1
  have h16 := pow_le16 h hh
  generalize 2 ^ h = n at *
  have hw : IntKind.i64.wrap ((n : Int) - used) = ((n - used : Nat) : Int) := by rw [IntKind.wrap_i64]; omega
  clear hB hK hh
  go_enter Tryz.func16, Tryz.ntmps16
  go_wp2_with (first | (go_at_call 27; refine HC.out.mono ?_; rintro e w' ⟨rfl, rfl⟩) | (go_at_call 15; refine HU.out.mono ?_; rintro e w' ⟨rfl, rfl⟩))
  go_ret
  exact ⟨by first | rfl | (congr 2; omega) | (congr 3; omega), rfl⟩

set_option maxHeartbeats 400000 in
theorem public_grown (w : World) (b : Nat) (seed : ByteArray) (h : Nat) (used : Int) (hK : KeyGrown w b seed h used) :
    Calls Tryz.prog 13 #[.pointer (some ⟨b, 0, none⟩)] w fun e w' => e = .returned (.string (keyB seed h)) ∧ Below w.heap.size w w' := by
  obtain ⟨g, hne, hB, hR⟩ := hK
  have c7 : w.cell? ⟨b, 7, none⟩ = some (.string (keyB seed h)) := hB.cell 7
  have HD := Lib.hid (fun fv => do_done w ⟨b, 3, none⟩ fv (hB.cell 3))
  have HCL := Lib.hid (clone_any (keyB seed h) w (by rw [keyB, namedB_size]; omega))
  have hmf : ∀ (fn : Fn) (first cap : Array Value) (w : World), (Instr.makeFunc fn first cap).run Tryz.prog w = .ok (.func fn first cap) w := fun _ _ _ _ => rfl
  clear hB hR hne
  generalize keyB seed h = K at *
  go_enter Tryz.func13, Tryz.ntmps13
  go_wp2_with (first | (go_at_call 30; refine (HD.out _).mono ?_; rintro e w' ⟨rfl, rfl⟩) | (go_at_call 28; refine HCL.out.mono ?_; rintro e w1 ⟨rfl, b1⟩))
  go_ret
  exact ⟨rfl, b1⟩

set_option maxHeartbeats 400000 in
theorem public_at (w : World) (b : Nat) (seed : ByteArray) (h : Nat) (used : Int) (hh : h ≤ 4) (hs : seed.size ≤ 1000000) (ht : TabsK w b) (hK : KeyAt w b seed h used) :
    Calls Tryz.prog 13 #[.pointer (some ⟨b, 0, none⟩)] w fun e w' => e = .returned (.string (keyB seed h)) ∧ KeyGrown w' b seed h used ∧ w.grownBy w' (some b) := by
  have HD := Lib.hid (do_any w b seed h used hh hs ht hK)
  have HCL := Lib.hid (fun W => clone_any (keyB seed h) W (by rw [keyB, namedB_size]; omega))
  have hmf : ∀ (fn : Fn) (first cap : Array Value) (w : World), (Instr.makeFunc fn first cap).run Tryz.prog w = .ok (.func fn first cap) w := fun _ _ _ _ => rfl
  clear hh hs ht hK
  go_enter Tryz.func13, Tryz.ntmps13
  go_wp2_with fail
  refine HD.out.mono ?_
  rintro e w1 ⟨rfl, k1, g1⟩
  obtain ⟨g, hne, hB, hR⟩ := k1
  have c7 : w1.cell? ⟨b, 7, none⟩ = some (.string (keyB seed h)) := hB.cell 7
  have HK1 := Lib.hid (show KeyGrown w1 b seed h used from ⟨g, hne, hB, hR⟩)
  have HG1 := Lib.hid g1
  clear hB hR hne g1
  go_wp2_with (go_at_call 28; refine (HCL.out _).mono ?_; rintro e w2 ⟨rfl, b2⟩)
  go_ret
  exact ⟨rfl, HK1.out.below b2, Lib.grownBy_below HG1.out b2⟩

set_option maxHeartbeats 1000000 in
set_option maxRecDepth 100000 in
theorem leaf_take (w : World) (b : Nat) (seed : ByteArray) (h used : Nat) (hh : h ≤ 4) (hu : used < 2 ^ h) (hK : KeyAt w b seed h used) :
    Calls Tryz.prog 36 #[.pointer (some ⟨b, 0, none⟩)] w fun e w' => e = .returned (.tuple #[.int .i64 (used : Int), .bool true]) ∧ w.setCell ⟨b, 2, none⟩ (.int .i64 ((used + 1 : Nat) : Int)) = w' := by
  obtain ⟨x3, x4, x5, x6, x7, hB⟩ := hK.blk
  have HL := Lib.hid (load64 ⟨b, 2, none⟩ used w (hB.cell 2))
  have HC := Lib.hid (count_any h hh w)
  have HCS := Lib.hid (cas64 ⟨b, 2, none⟩ used ((used + 1 : Nat) : Int) w (hB.cell 2) (hB.frozen 2))
  have c1 : w.cell? ⟨b, 1, none⟩ = some (.int .i64 (h : Int)) := hB.cell 1
  have h16 := pow_le16 h hh
  generalize 2 ^ h = n at *
  have hw : IntKind.i64.wrap ((used : Int) + 1) = ((used + 1 : Nat) : Int) := by rw [IntKind.wrap_i64]; omega
  clear hB hK hh
  go_enter Tryz.func36, Tryz.ntmps36
  go_wp2_with (first | (go_at_call 27; refine HC.out.mono ?_; rintro e w' ⟨rfl, rfl⟩) | (go_at_call 35; refine HL.out.mono ?_; rintro e w' ⟨rfl, rfl⟩))
  go_loopw [5] (fun u wr => u = .int .i64 (used : Int) ∧ wr = w) (fun _ _ => 0)
  case atStart => exact ⟨rfl, rfl⟩
  case round =>
    obtain ⟨rfl, rfl⟩ := hrel
    go_wp2_with (go_at_call 70; refine HCS.out.mono ?_; rintro e w' ⟨rfl, rfl⟩)
    go_ret2
    exact ⟨rfl, rfl⟩

set_option maxHeartbeats 1000000 in
set_option maxRecDepth 100000 in
theorem leaf_none (w : World) (b : Nat) (seed : ByteArray) (h : Nat) (hh : h ≤ 4) (hK : KeyAt w b seed h ((2 ^ h : Nat) : Int)) :
    Calls Tryz.prog 36 #[.pointer (some ⟨b, 0, none⟩)] w fun e w' => e = .returned (.tuple #[.int .i64 0, .bool false]) ∧ w = w' := by
  obtain ⟨x3, x4, x5, x6, x7, hB⟩ := hK.blk
  have HL := Lib.hid (load64 ⟨b, 2, none⟩ ((2 ^ h : Nat) : Int) w (hB.cell 2))
  have HC := Lib.hid (count_any h hh w)
  have c1 : w.cell? ⟨b, 1, none⟩ = some (.int .i64 (h : Int)) := hB.cell 1
  generalize 2 ^ h = n at *
  clear hB hK hh
  go_enter Tryz.func36, Tryz.ntmps36
  go_wp2_with (first | (go_at_call 27; refine HC.out.mono ?_; rintro e w' ⟨rfl, rfl⟩) | (go_at_call 35; refine HL.out.mono ?_; rintro e w' ⟨rfl, rfl⟩))
  go_loopw [5] (fun u wr => u = .int .i64 (n : Int) ∧ wr = w) (fun _ _ => 0)
  case atStart => exact ⟨rfl, rfl⟩
  case round =>
    obtain ⟨rfl, rfl⟩ := hrel
    go_wp2
    go_ret2
    exact ⟨rfl, rfl⟩
end Go.Proofs.YtanplccigmihfaaGreatDoor
