/-
  Contracts of key: the tree is grown once.
-/
import Derived.Test.YtanplccigmihfaaGreatDoorK3
namespace Go.Proofs.YtanplccigmihfaaGreatDoor
open Go.RowKit Go.Pal

/-- A key that has not grown its tree, and one that has. -/
def KeyFresh (w : World) (b : Nat) (seed : ByteArray) (h : Nat) (used : Int) : Prop :=
  Blk w b 69 (keyCells seed h (.int .i64 used) (.int .u32 0) (.int .i32 0) (.int .u32 0) (.slice none 0 0) (.string ⟨#[]⟩))
def KeyGrown (w : World) (b : Nat) (seed : ByteArray) (h : Nat) (used : Int) : Prop :=
  ∃ g, g ≠ b ∧ Blk w b 69 (keyCells seed h (.int .i64 used) (.int .u32 1) (.int .i32 0) (.int .u32 0) (.slice (some ⟨g, 0, none⟩) (2 ^ h) (2 ^ h)) (.string (keyB seed h))) ∧ Blk w g 9 ((leavesL seed h).map strV)

set_option maxRecDepth 100000 in
set_option maxHeartbeats 2000000 in
theorem slow_key (w : World) (b : Nat) (seed : ByteArray) (h : Nat) (used : Int) (hh : h ≤ 4) (hs : seed.size ≤ 1000000) (ht : TabsK w b) (hK : KeyFresh w b seed h used) :
    Calls Tryz.prog 64 #[.pointer (some ⟨b, 3, none⟩), .func (.func 31) #[.pointer (some ⟨b, 0, none⟩)] #[]] w fun e w' => e = .returned (.tuple #[]) ∧ KeyGrown w' b seed h used ∧ w.grownBy w' (some b) := by
  have hbl := hK.lt
  have c4 : w.cell? ⟨b, 4, none⟩ = some (.int .i32 0) := hK.cell 4
  have f4 : w.frozen? ⟨b, 4, none⟩ = false := hK.frozen 4
  have hK1 : Blk (w.setCell ⟨b, 4, none⟩ (.int .i32 1)) b 69 (keyCells seed h (.int .i64 used) (.int .u32 0) (.int .i32 1) (.int .u32 0) (.slice none 0 0) (.string ⟨#[]⟩)) := hK.set 4 _
  have g1 := grownBy_set0 w b 4 (.int .i32 1)
  have HG1 := Lib.hid g1
  have HL := Lib.hid (lock_free ⟨b, 4, none⟩ w c4 f4)
  have HB := Lib.hid (bload ⟨b, 3, none⟩ 0 (w.setCell ⟨b, 4, none⟩ (.int .i32 1)) (hK1.cell 3))
  have HGR := Lib.hid (grow_any _ b seed h _ _ _ _ _ _ hh hs (ht.on g1) hK1)
  have hnot : ∀ (x : Bool) (w : World), (Op.unary .not (.bool x)).run Tryz.prog w = .ok (.bool (!x)) w := fun _ _ => rfl
  have HLT := Lib.hid (show b < (w.setCell ⟨b, 4, none⟩ (.int .i32 1)).heap.size by rw [World.size_setCell]; exact hbl)
  clear hK1 g1 hK ht hs
  generalize hW1 : w.setCell ⟨b, 4, none⟩ (.int .i32 1) = W1 at *
  have HW1 := Lib.hid hW1
  clear hW1 hbl
  go_enter_defers Tryz.func64, Tryz.ntmps64
  go_wp2_with (first | (go_at_call 96; refine HL.out.mono ?_; rintro e w1 ⟨rfl, rfl⟩) | (go_at_call 63; refine HB.out.mono ?_; rintro e w' ⟨rfl, rfl⟩) | (refine HGR.out.mono ?_; rintro e w2 ⟨rfl, k2, r2, g2⟩))
  -- the door: two deferred calls, the last laid first
  refine leaves_cons (f := 98) (args := #[.pointer (some ⟨b, 3, none⟩), .bool true]) (by simp) (by simp [go_sem]) ?_
  refine (store_deferred ⟨b, 3, none⟩ (.int .u32 0) .returning _ (k2.cell 3) (k2.frozen 3)).mono ?_
  rintro e u' w3 ⟨rfl, rfl, rfl⟩
  have k3 : Blk (w2.drew.setCell ⟨b, 3, none⟩ (.int .u32 1)) b 69 (keyCells seed h (.int .i64 used) (.int .u32 1) (.int .i32 1) (.int .u32 0) (.slice (some ⟨w1.heap.size, 0, none⟩) (2 ^ h) (2 ^ h)) (.string (keyB seed h))) := k2.drew.set 3 _
  refine leaves_cons (f := 97) (args := #[.pointer (some ⟨b, 4, none⟩)]) (by simp [settle]) (by simp [go_sem]) ?_
  refine (unlock_deferred ⟨b, 4, none⟩ _ _ (k3.cell 4) (k3.frozen 4)).mono ?_
  rintro e u' w4 ⟨rfl, rfl, rfl⟩
  have k4 : Blk ((w2.drew.setCell ⟨b, 3, none⟩ (.int .u32 1)).setCell ⟨b, 4, none⟩ (.int .i32 0)) b 69 (keyCells seed h (.int .i64 used) (.int .u32 1) (.int .i32 0) (.int .u32 0) (.slice (some ⟨w1.heap.size, 0, none⟩) (2 ^ h) (2 ^ h)) (.string (keyB seed h))) := k3.set 4 _
  have hne : w1.heap.size ≠ b := by have := HLT.out; omega
  have hfin : KeyGrown ((w2.drew.setCell ⟨b, 3, none⟩ (.int .u32 1)).setCell ⟨b, 4, none⟩ (.int .i32 0)) b seed h used ∧ w.grownBy ((w2.drew.setCell ⟨b, 3, none⟩ (.int .u32 1)).setCell ⟨b, 4, none⟩ (.int .i32 0)) (some b) :=
    ⟨⟨w1.heap.size, hne, k4, ((r2.drew.other (p := ⟨b, 3, none⟩) hne _).other (p := ⟨b, 4, none⟩) hne _)⟩, Lib.grownBy_setB (Lib.grownBy_setB (grown_drew (Lib.grownBy_trans HG1.out g2)) 3 _) 4 _⟩
  simp [Leaves, settle, results, Tryz.results64]
  exact hfin

set_option maxRecDepth 100000 in
theorem do_first (w : World) (b : Nat) (seed : ByteArray) (h : Nat) (used : Int) (hh : h ≤ 4) (hs : seed.size ≤ 1000000) (ht : TabsK w b) (hK : KeyFresh w b seed h used) :
    Calls Tryz.prog 30 #[.pointer (some ⟨b, 3, none⟩), .func (.func 31) #[.pointer (some ⟨b, 0, none⟩)] #[]] w fun e w' => e = .returned (.tuple #[]) ∧ KeyGrown w' b seed h used ∧ w.grownBy w' (some b) := by
  have HS := Lib.hid (slow_key w b seed h used hh hs ht hK)
  have HB := Lib.hid (bload ⟨b, 3, none⟩ 0 w (hK.cell 3))
  have hnot : ∀ (x : Bool) (w : World), (Op.unary .not (.bool x)).run Tryz.prog w = .ok (.bool (!x)) w := fun _ _ => rfl
  clear hh hs ht hK
  go_enter Tryz.func30, Tryz.ntmps30
  go_wp2_with (first | (go_at_call 63; refine HB.out.mono ?_; rintro e w' ⟨rfl, rfl⟩) | (go_at_call 64; refine HS.out.mono ?_; rintro e w' ⟨rfl, hk, hg⟩))
  go_end0
  exact ⟨rfl, hk, hg⟩
theorem do_done (w : World) (a : Addr) (fv : Value) (hc : w.cell? a = some (.int .u32 1)) :
    Calls Tryz.prog 30 #[.pointer (some a), fv] w fun e w' => e = .returned (.tuple #[]) ∧ w = w' := by
  have HB := Lib.hid (bload a 1 w hc)
  have hnot : ∀ (x : Bool) (w : World), (Op.unary .not (.bool x)).run Tryz.prog w = .ok (.bool (!x)) w := fun _ _ => rfl
  go_enter Tryz.func30, Tryz.ntmps30
  go_wp2_with (go_at_call 63; refine HB.out.mono ?_; rintro e w' ⟨rfl, rfl⟩)
  go_end0
  exact ⟨rfl, rfl⟩
/-- However it stands: behind it the tree is grown. -/
def KeyAt (w : World) (b : Nat) (seed : ByteArray) (h : Nat) (used : Int) : Prop := KeyFresh w b seed h used ∨ KeyGrown w b seed h used
theorem do_any (w : World) (b : Nat) (seed : ByteArray) (h : Nat) (used : Int) (hh : h ≤ 4) (hs : seed.size ≤ 1000000) (ht : TabsK w b) (hK : KeyAt w b seed h used) :
    Calls Tryz.prog 30 #[.pointer (some ⟨b, 3, none⟩), .func (.func 31) #[.pointer (some ⟨b, 0, none⟩)] #[]] w fun e w' => e = .returned (.tuple #[]) ∧ KeyGrown w' b seed h used ∧ w.grownBy w' (some b) := by
  rcases hK with hK | hK
  · exact do_first w b seed h used hh hs ht hK
  · refine (do_done w _ _ ?_).mono ?_
    · obtain ⟨g, _, hK, _⟩ := hK
      exact hK.cell 3
    · rintro e w' ⟨rfl, rfl⟩
      exact ⟨rfl, hK, ⟨rfl, rfl, rfl, Nat.le_refl _, fun _ _ _ => rfl⟩⟩
end Go.Proofs.YtanplccigmihfaaGreatDoor
