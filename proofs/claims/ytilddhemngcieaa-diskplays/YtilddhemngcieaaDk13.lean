/-
  A disk of one file; the law's own awake.
-/
import Derived.Test.YtilddhemngcieaaDk12
namespace Go.Pal.Dk
open Go.Pal
def oneD (room : Nat) (n s : ByteArray) (k : Nat) (on : Bool) (arm : Option Nat) : Dk := ⟨room, [⟨n, s, k⟩], on, arm⟩
theorem one_used (room : Nat) (n s : ByteArray) (k : Nat) (on : Bool) (arm : Option Nat) : usedF (oneD room n s k on arm).files = s.size := by simp [oneD, usedF]
theorem beg_none (room : Nat) (l : List Fl) : begD ⟨room, l, true, none⟩ = (true, ⟨room, l, true, none⟩) := rfl
theorem begE_none (room : Nat) (l : List Fl) (n : ByteArray) (hn : nameOk n = true) : begE ⟨room, l, true, none⟩ n = 0 := by simp [begE, begD, hn]
theorem append_first (room : Nat) (n s : ByteArray) (hn : nameOk n = true) (hs : s.size ≤ room) : appendD ⟨room, [], true, none⟩ n s = (0, oneD room n s 0 true none) := by
  unfold appendD
  rw [if_neg (by simp [begE_none room [] n hn]), if_neg (by simp [usedF]; omega)]
  rfl
theorem atF_one (n s : ByteArray) (k : Nat) : atF [⟨n, s, k⟩] n = some ⟨n, s, k⟩ := by simp [atF]
theorem append_more (room : Nat) (n s t : ByteArray) (k : Nat) (hn : nameOk n = true) (hs : s.size + t.size ≤ room) : appendD (oneD room n s k true none) n t = (0, oneD room n (s ++ t) k true none) := by
  unfold appendD oneD
  rw [if_neg (by simp [begE_none room _ n hn]), if_neg (by simp [usedF]; omega)]
  simp [putF, atF_one, modF, more, beg_none]
theorem sync_one (room : Nat) (n s : ByteArray) (k : Nat) (hn : nameOk n = true) : syncD (oneD room n s k true none) n = (0, oneD room n s s.size true none) := by
  unfold syncD oneD
  rw [if_neg (by simp [begE_none room _ n hn])]
  simp [atF_one, modF, syncF, beg_none]
theorem crash_one (room : Nat) (n s : ByteArray) (k : Nat) (on : Bool) (arm : Option Nat) (keep : List Int) : crashD (oneD room n s k on arm) keep = oneD room n (s.extract 0 (keptF keep 0 ⟨n, s, k⟩)) (keptF keep 0 ⟨n, s, k⟩) true none := rfl
theorem read_one (room : Nat) (n s : ByteArray) (k : Nat) (arm : Option Nat) : readD (oneD room n s k true arm) n = (s, 0) := by
  simp [readD, oneD, atF_one]
end Go.Pal.Dk
namespace Go.Proofs.Ytilddhemngcieaa
open Go.RowKit Go.Pal Go.Pal.Dk Go.Maps Go.Sort

theorem Went.at {w w' : World} {base D : Nat} {d d' : Dk} {L : Lay} (h : DkAt w base D d L) (hw : Went w base D d L d' w') : ∃ L', DkAt w' base D d' L' ∧ Below base w w' := by
  obtain ⟨L', h1, h2, _⟩ := hw
  exact ⟨L', h1, h2.below (fun g hg => h.foot_base hg) (Nat.le_trans h.dbase (Nat.le_of_lt h.blk.lt))⟩
theorem new_below (w : World) (o : Obj) : Below w.heap.size w (w.alloc o) := (Below.refl _ _).alloc (Nat.le_refl _) _
def nA : ByteArray := ⟨#[97]⟩
def sXY : ByteArray := ⟨#[120, 121]⟩
def sZ : ByteArray := ⟨#[122]⟩
theorem nilRow (w : World) : IntRow w none [] := .inl rfl

set_option maxHeartbeats 1000000 in
set_option maxRecDepth 100000 in
theorem awake9 (w : World) :
    Calls Try.prog 23 #[] w fun e w' => e = .returned (.bool true) ∧ Below w.heap.size w w' := by
  have HNEW := Lib.hid (new_yes w 9 (by decide))
  rw [show ((9 : Nat) : Int) = 9 from rfl] at HNEW
  have HD0 := Lib.hid (new_at w w.heap.size 9 (Nat.le_refl _) (by decide))
  rw [show ((9 : Nat) : Int) = 9 from rfl] at HD0
  have B0 := Lib.hid (new_below w (.cells #[.int .i64 9, .int .i64 0, .map none, .bool true, .bool false, .int .i64 0] 79))
  have hn : nameOk nA = true := by decide
  have s1 : appendD (newD 9) nA sXY = (0, oneD 9 nA sXY 0 true none) := append_first 9 nA sXY hn (by decide)
  have s2 := sync_one 9 nA sXY 0 hn
  have s3 := append_more 9 nA sXY sZ sXY.size hn (by decide)
  have s4 : crashD (oneD 9 nA (sXY ++ sZ) sXY.size true none) [] = oneD 9 nA sXY 2 true none := by rw [crash_one]; rfl
  have A1 := Lib.hid (fun (W : World) (L : Lay) (h : DkAt W w.heap.size w.heap.size (newD 9) L) => append_any h nA sXY (by decide) (by decide) (by decide))
  have A2 := Lib.hid (fun (W : World) (L : Lay) (h : DkAt W w.heap.size w.heap.size (oneD 9 nA sXY 0 true none) L) => sync_any h nA (by decide))
  have A3 := Lib.hid (fun (W : World) (L : Lay) (h : DkAt W w.heap.size w.heap.size (oneD 9 nA sXY sXY.size true none) L) => append_any h nA sZ (by decide) (by decide) (by decide))
  have A4 := Lib.hid (fun (W : World) (L : Lay) (h : DkAt W w.heap.size w.heap.size (oneD 9 nA (sXY ++ sZ) sXY.size true none) L) => crash_any h (by decide) [] none 0 (nilRow W) (fun b off _ e => by cases e) (by decide) (fun x hx => by cases hx))
  have A5 := Lib.hid (fun (W : World) (L : Lay) (h : DkAt W w.heap.size w.heap.size (oneD 9 nA sXY 2 true none) L) => read_any h nA (by decide))
  have A6 := Lib.hid (fun (W : World) (L : Lay) (h : DkAt W w.heap.size w.heap.size (oneD 9 nA sXY 2 true none) L) => on_any h)
  have A7 := Lib.hid (fun (W : World) (L : Lay) (h : DkAt W w.heap.size w.heap.size (oneD 9 nA sXY 2 true none) L) => used_any h)
  rw [s1] at A1
  rw [s2] at A2
  rw [s3] at A3
  rw [s4] at A4
  rw [read_one] at A5
  rw [one_used] at A7
  clear s1 s2 s3 s4 hn
  unfold nA sXY sZ at *
  go_enter Try.func23, Try.ntmps23
  go_wp2_with fail
  refine HNEW.out.mono ?_
  rintro e w1 ⟨rfl, rfl⟩
  go_wp2_with fail
  refine (A1.out _ _ HD0.out).mono ?_
  rintro e w2 ⟨rfl, hw2⟩
  obtain ⟨L2, D2, b2⟩ := Went.at HD0.out hw2
  have B2 := Lib.hid (B0.out.trans b2)
  have X2 := Lib.hid D2
  clear hw2 b2 D2 A1 HD0 B0
  go_wp2_with fail
  refine (A2.out _ _ X2.out).mono ?_
  rintro e w3 ⟨rfl, hw3⟩
  obtain ⟨L3, D3, b3⟩ := Went.at X2.out hw3
  have B3 := Lib.hid (B2.out.trans b3)
  have X3 := Lib.hid D3
  clear hw3 b3 D3 A2 X2 B2
  go_wp2_with fail
  refine (A3.out _ _ X3.out).mono ?_
  rintro e w4 ⟨rfl, hw4⟩
  obtain ⟨L4, D4, b4⟩ := Went.at X3.out hw4
  have B4 := Lib.hid (B3.out.trans b4)
  have X4 := Lib.hid D4
  clear hw4 b4 D4 A3 X3 B3
  go_wp2_with fail
  refine (A4.out _ _ X4.out).mono ?_
  rintro e w5 ⟨rfl, hw5⟩
  obtain ⟨L5, D5, b5⟩ := Went.at X4.out hw5
  have B5 := Lib.hid (B4.out.trans b5)
  have X5 := Lib.hid D5
  clear hw5 b5 D5 A4 X4 B4
  go_wp2_with fail
  refine (A5.out _ _ X5.out).mono ?_
  rintro e w6 ⟨rfl, rfl⟩
  go_wp2_with fail
  refine (A6.out _ _ X5.out).mono ?_
  rintro e w7 ⟨rfl, rfl⟩
  have e1 : (oneD 9 ⟨#[97]⟩ ⟨#[120, 121]⟩ 2 true none).on = true := rfl
  rw [e1]
  go_wp2_with fail
  refine (A7.out _ _ X5.out).mono ?_
  rintro e w8 ⟨rfl, rfl⟩
  go_wp2
  go_ret
  exact ⟨rfl, B5.out⟩
end Go.Proofs.Ytilddhemngcieaa
