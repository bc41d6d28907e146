/-
  Contracts of Text, the program's and the document's; of a reader's beginning.
-/
import Derived.Test.YtkdbbbmoalijhaaDoorOct4
namespace Go.Proofs.YtkdbbbmoalijhaaDoor
open Go.RowKit Go.Pal

/-- May a text be laid? -/
def textOk (s : ByteArray) : Bool := decide (s.size < 65536)
def textB (s : ByteArray) : ByteArray := if textOk s = true then be 2 s.size ++ s else ByteArray.empty

theorem textOk_yes {s : ByteArray} (h : s.size < 65536) : textOk s = true := by simp [textOk, h]
theorem textOk_no {s : ByteArray} (h : ¬ s.size < 65536) : textOk s = false := by simp [textOk]; omega
theorem textB_yes {s : ByteArray} (h : s.size < 65536) : textB s = be 2 s.size ++ s := by simp [textB, textOk_yes h]
theorem textB_no {s : ByteArray} (h : ¬ s.size < 65536) : textB s = ByteArray.empty := by simp [textB, textOk_no h]

set_option maxHeartbeats 400000 in
theorem text_yes (s : ByteArray) (h : s.size < 65536) (w : World) :
    Calls Tryd.prog 22 #[.string s] w fun e w' => e = .returned (.tuple #[.string (be 2 s.size ++ s), .bool true]) ∧ Below w.heap.size w w' := by
  have hk := numOk_yes (k := 2) (n := (s.size : Int)) (by omega) (by simp; omega)
  have hB := numB_yes hk
  rw [Int.toNat_natCast] at hB
  have hz := be_size 2 s.size
  have h1 : decide (65535 < (s.size : Int)) = false := by simp; omega
  go_enter Tryd.func22, Tryd.ntmps22
  go_wp2_with (go_at_call 37; refine (short_any (s.size : Int) (by omega) _).mono ?_; rintro e w' ⟨rfl, hb⟩)
  go_ret2
  exact ⟨rfl, hb⟩

set_option maxHeartbeats 400000 in
theorem text_no (s : ByteArray) (h : ¬ s.size < 65536) (hs : s.size ≤ 9223372036854775807) (w : World) :
    Calls Tryd.prog 22 #[.string s] w fun e w' => e = .returned (.tuple #[.string ByteArray.empty, .bool false]) ∧ Below w.heap.size w w' := by
  have hk := numOk_no (k := 2) (n := (s.size : Int)) (Or.inr (by simp; omega))
  have hB := numB_no hk
  go_enter Tryd.func22, Tryd.ntmps22
  go_wp2_with (go_at_call 37; refine (short_any (s.size : Int) (by omega) _).mono ?_; rintro e w' ⟨rfl, hb⟩)
  go_ret2
  exact ⟨rfl, hb⟩

theorem text_any (s : ByteArray) (hs : s.size ≤ 9223372036854775807) (w : World) :
    Calls Tryd.prog 22 #[.string s] w fun e w' => e = .returned (.tuple #[.string (textB s), .bool (textOk s)]) ∧ Below w.heap.size w w' := by
  by_cases h : s.size < 65536
  · rw [textB_yes h, textOk_yes h]; exact text_yes s h w
  · rw [textB_no h, textOk_no h]; exact text_no s h hs w

set_option maxHeartbeats 400000 in
theorem rtext_yes (s : ByteArray) (h : s.size < 65536) (w : World) :
    Calls Tryd.prog 31 #[.string s] w fun e w' => e = .returned (.tuple #[.string (be 2 s.size ++ s), .bool true]) ∧ Below w.heap.size w w' := by
  have hk := numOk_yes (k := 2) (n := (s.size : Int)) (by omega) (by simp; omega)
  have hB := numB_yes hk
  rw [Int.toNat_natCast] at hB
  have hz := be_size 2 s.size
  have h1 : decide (65535 < (s.size : Int)) = false := by simp; omega
  go_enter Tryd.func31, Tryd.ntmps31
  go_wp2_with (go_at_call 41; refine (number2_any (s.size : Int)  _).mono ?_; rintro e w' ⟨rfl, hb⟩)
  go_ret2
  exact ⟨rfl, hb⟩

set_option maxHeartbeats 400000 in
theorem rtext_no (s : ByteArray) (h : ¬ s.size < 65536) (hs : s.size ≤ 9223372036854775807) (w : World) :
    Calls Tryd.prog 31 #[.string s] w fun e w' => e = .returned (.tuple #[.string ByteArray.empty, .bool false]) ∧ Below w.heap.size w w' := by
  have hk := numOk_no (k := 2) (n := (s.size : Int)) (Or.inr (by simp; omega))
  have hB := numB_no hk
  go_enter Tryd.func31, Tryd.ntmps31
  go_wp2_with (go_at_call 41; refine (number2_any (s.size : Int)  _).mono ?_; rintro e w' ⟨rfl, hb⟩)
  go_ret2
  exact ⟨rfl, hb⟩

theorem rtext_any (s : ByteArray) (hs : s.size ≤ 9223372036854775807) (w : World) :
    Calls Tryd.prog 31 #[.string s] w fun e w' => e = .returned (.tuple #[.string (textB s), .bool (textOk s)]) ∧ Below w.heap.size w w' := by
  by_cases h : s.size < 65536
  · rw [textB_yes h, textOk_yes h]; exact rtext_yes s h w
  · rw [textB_no h, textOk_no h]; exact rtext_no s h hs w

end Go.Proofs.YtkdbbbmoalijhaaDoor
