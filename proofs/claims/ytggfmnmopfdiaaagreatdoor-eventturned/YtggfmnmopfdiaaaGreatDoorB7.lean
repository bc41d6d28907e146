/-
  Contracts of Text, the program's and the document's; of a reader's beginning.
  Contracts of a reader of package octets: what each call tells, and how it leaves the reader.
  Contracts of a reader's numbers and texts, of Left and End; of a nil reader.
  Contracts of a reader's Text, Left, End and of Read; of a nil reader; of the document's examples of layer 1.
  Contracts of key: heightOf, Leaf, takeDigests, Verify.
-/
import Derived.Test.YtggfmnmopfdiaaaGreatDoorOct4
import Derived.Test.YtggfmnmopfdiaaaGreatDoorB1
import Derived.Test.YtggfmnmopfdiaaaGreatDoorPlain
import Derived.Deep.Light
import Derived.Lib.BufferOwn
import Derived.Test.YtggfmnmopfdiaaaGreatDoorOct3
import Derived.Lib.Hide
import Derived.Test.YtggfmnmopfdiaaaGreatDoorB6
namespace Go.Proofs.YtggfmnmopfdiaaaGreatDoor
open Go.RowKit Go.Pal

/-- May a text be laid? -/
def textOk (s : ByteArray) : Bool := decide (s.size < 65536)
def textB (s : ByteArray) : ByteArray := if textOk s = true then be 2 s.size ++ s else ByteArray.empty

theorem textOk_yes {s : ByteArray} (h : s.size < 65536) : textOk s = true := by simp [textOk, h]
theorem textOk_no {s : ByteArray} (h : ¬ s.size < 65536) : textOk s = false := by simp [textOk]; omega
theorem textB_yes {s : ByteArray} (h : s.size < 65536) : textB s = be 2 s.size ++ s := by simp [textB, textOk_yes h]
theorem textB_no {s : ByteArray} (h : ¬ s.size < 65536) : textB s = ByteArray.empty := by simp [textB, textOk_no h]

set_option maxHeartbeats 400000 in
theorem text_yes (s : ByteArray) (h : s.size < 65536) (w : World) :
    Calls Tryz.prog 47 #[.string s] w fun e w' => e = .returned (.tuple #[.string (be 2 s.size ++ s), .bool true]) ∧ Below w.heap.size w w' := by
  have hk := numOk_yes (k := 2) (n := (s.size : Int)) (by omega) (by simp; omega)
  have hB := numB_yes hk
  rw [Int.toNat_natCast] at hB
  have hz := be_size 2 s.size
  have h1 : decide (65535 < (s.size : Int)) = false := by simp; omega
  go_enter Tryz.func47, Tryz.ntmps47
  go_wp2_with (go_at_call 54; refine (short_any (s.size : Int) (by omega) _).mono ?_; rintro e w' ⟨rfl, hb⟩)
  go_ret2
  exact ⟨rfl, hb⟩

set_option maxHeartbeats 400000 in
theorem text_no (s : ByteArray) (h : ¬ s.size < 65536) (hs : s.size ≤ 9223372036854775807) (w : World) :
    Calls Tryz.prog 47 #[.string s] w fun e w' => e = .returned (.tuple #[.string ByteArray.empty, .bool false]) ∧ Below w.heap.size w w' := by
  have hk := numOk_no (k := 2) (n := (s.size : Int)) (Or.inr (by simp; omega))
  have hB := numB_no hk
  go_enter Tryz.func47, Tryz.ntmps47
  go_wp2_with (go_at_call 54; refine (short_any (s.size : Int) (by omega) _).mono ?_; rintro e w' ⟨rfl, hb⟩)
  go_ret2
  exact ⟨rfl, hb⟩

theorem text_any (s : ByteArray) (hs : s.size ≤ 9223372036854775807) (w : World) :
    Calls Tryz.prog 47 #[.string s] w fun e w' => e = .returned (.tuple #[.string (textB s), .bool (textOk s)]) ∧ Below w.heap.size w w' := by
  by_cases h : s.size < 65536
  · rw [textB_yes h, textOk_yes h]; exact text_yes s h w
  · rw [textB_no h, textOk_no h]; exact text_no s h hs w

set_option maxHeartbeats 400000 in
theorem rtext_yes (s : ByteArray) (h : s.size < 65536) (w : World) :
    Calls Tryz.prog 37 #[.string s] w fun e w' => e = .returned (.tuple #[.string (be 2 s.size ++ s), .bool true]) ∧ Below w.heap.size w w' := by
  have hk := numOk_yes (k := 2) (n := (s.size : Int)) (by omega) (by simp; omega)
  have hB := numB_yes hk
  rw [Int.toNat_natCast] at hB
  have hz := be_size 2 s.size
  have h1 : decide (65535 < (s.size : Int)) = false := by simp; omega
  go_enter Tryz.func37, Tryz.ntmps37
  go_wp2_with (go_at_call 33; refine (number2_any (s.size : Int)  _).mono ?_; rintro e w' ⟨rfl, hb⟩)
  go_ret2
  exact ⟨rfl, hb⟩

set_option maxHeartbeats 400000 in
theorem rtext_no (s : ByteArray) (h : ¬ s.size < 65536) (hs : s.size ≤ 9223372036854775807) (w : World) :
    Calls Tryz.prog 37 #[.string s] w fun e w' => e = .returned (.tuple #[.string ByteArray.empty, .bool false]) ∧ Below w.heap.size w w' := by
  have hk := numOk_no (k := 2) (n := (s.size : Int)) (Or.inr (by simp; omega))
  have hB := numB_no hk
  go_enter Tryz.func37, Tryz.ntmps37
  go_wp2_with (go_at_call 33; refine (number2_any (s.size : Int)  _).mono ?_; rintro e w' ⟨rfl, hb⟩)
  go_ret2
  exact ⟨rfl, hb⟩

theorem rtext_any (s : ByteArray) (hs : s.size ≤ 9223372036854775807) (w : World) :
    Calls Tryz.prog 37 #[.string s] w fun e w' => e = .returned (.tuple #[.string (textB s), .bool (textOk s)]) ∧ Below w.heap.size w w' := by
  by_cases h : s.size < 65536
  · rw [textB_yes h, textOk_yes h]; exact rtext_yes s h w
  · rw [textB_no h, textOk_no h]; exact rtext_no s h hs w

end Go.Proofs.YtggfmnmopfdiaaaGreatDoor
namespace Go.Proofs.YtggfmnmopfdiaaaGreatDoor
open Go.RowKit Go.Pal

/-- A reader at block b: what is to come, and whether it is bad. -/
structure Rd (w : World) (b : Nat) (r : ByteArray) (bad : Bool) : Prop where
  c0 : w.cell? ⟨b, 0, none⟩ = some (.string r)
  c1 : w.cell? ⟨b, 1, none⟩ = some (.bool bad)
  f0 : w.frozen? ⟨b, 0, none⟩ = false
  f1 : w.frozen? ⟨b, 1, none⟩ = false

theorem Rd.lt {w : World} {b : Nat} {r : ByteArray} {bad : Bool} (h : Rd w b r bad) : b < w.heap.size := by
  rcases Nat.lt_or_ge b w.heap.size with h1 | h1
  · exact h1
  · have := h.c0
    simp [World.cell?, Array.getElem?_eq_none h1] at this

theorem Rd.below {w w' : World} {b : Nat} {r : ByteArray} {bad : Bool} (h : Rd w b r bad) (hb : Below w.heap.size w w') : Rd w' b r bad :=
  have hl := h.lt
  ⟨(hb.cell (p := ⟨b, 0, none⟩) hl).trans h.c0, (hb.cell (p := ⟨b, 1, none⟩) hl).trans h.c1, (hb.frozen (p := ⟨b, 0, none⟩) hl).trans h.f0, (hb.frozen (p := ⟨b, 1, none⟩) hl).trans h.f1⟩

set_option maxHeartbeats 400000 in
theorem good_nil (w : World) :
    Calls Tryz.prog 102 #[.pointer none] w fun e w' => e = .returned (.bool false) ∧ w' = w := by
  go_enter Tryz.func102, Tryz.ntmps102
  go_wp2
  go_ret
  exact ⟨rfl, rfl⟩

set_option maxHeartbeats 400000 in
theorem good_any (w : World) (b : Nat) (r : ByteArray) (bad : Bool) (h : Rd w b r bad) :
    Calls Tryz.prog 102 #[.pointer (some ⟨b, 0, none⟩)] w fun e w' => e = .returned (.bool (!bad)) ∧ w' = w := by
  have h1 := h.c1
  clear h
  go_enter Tryz.func102, Tryz.ntmps102
  go_wp2
  go_ret
  exact ⟨rfl, rfl⟩

set_option maxHeartbeats 400000 in
theorem take_nil (n : Int) (w : World) :
    Calls Tryz.prog 70 #[.pointer none, .int .i64 n] w fun e w' => e = .returned (.string ByteArray.empty) ∧ w' = w := by
  go_enter Tryz.func70, Tryz.ntmps70
  go_wp2_with (go_at_call 102; refine (good_nil _).mono ?_; rintro e w' ⟨rfl, rfl⟩)
  go_ret
  exact ⟨rfl, rfl⟩

set_option maxHeartbeats 400000 in
theorem take_bad (n : Int) (w : World) (b : Nat) (r : ByteArray) (h : Rd w b r true) :
    Calls Tryz.prog 70 #[.pointer (some ⟨b, 0, none⟩), .int .i64 n] w fun e w' => e = .returned (.string ByteArray.empty) ∧ w' = w := by
  go_enter Tryz.func70, Tryz.ntmps70
  go_wp2_with (go_at_call 102; refine (good_any _ b r true h).mono ?_; rintro e w' ⟨rfl, rfl⟩)
  go_ret
  exact ⟨rfl, rfl⟩

set_option maxHeartbeats 400000 in
theorem take_neg (n : Int) (w : World) (b : Nat) (r : ByteArray) (h : Rd w b r false) (hn : n < 0) :
    Calls Tryz.prog 70 #[.pointer (some ⟨b, 0, none⟩), .int .i64 n] w fun e w' => e = .returned (.string ByteArray.empty) ∧ w' = (w.setCell ⟨b, 0, none⟩ (.string ByteArray.empty)).setCell ⟨b, 1, none⟩ (.bool true) := by
  have hd : decide (n < 0) = true := by simpa using hn
  have hc0 := h.c0
  have hc1 := h.c1
  have hf0 := h.f0
  have hf1 := h.f1
  go_enter Tryz.func70, Tryz.ntmps70
  go_wp2_with (go_at_call 102; refine (good_any _ b r false h).mono ?_; rintro e w' ⟨rfl, rfl⟩)
  go_ret
  exact ⟨rfl, rfl⟩

set_option maxHeartbeats 400000 in
theorem take_much (n : Int) (w : World) (b : Nat) (r : ByteArray) (h : Rd w b r false) (hn : 0 ≤ n) (hr : (r.size : Int) < n) :
    Calls Tryz.prog 70 #[.pointer (some ⟨b, 0, none⟩), .int .i64 n] w fun e w' => e = .returned (.string ByteArray.empty) ∧ w' = (w.setCell ⟨b, 0, none⟩ (.string ByteArray.empty)).setCell ⟨b, 1, none⟩ (.bool true) := by
  have hd : decide (n < 0) = false := by simp; omega
  have hd1 : decide ((r.size : Int) < n) = true := by simpa using hr
  have hc0 := h.c0
  have hc1 := h.c1
  have hf0 := h.f0
  have hf1 := h.f1
  go_enter Tryz.func70, Tryz.ntmps70
  go_wp2_with (go_at_call 102; refine (good_any _ b r false h).mono ?_; rintro e w' ⟨rfl, rfl⟩)
  go_ret
  exact ⟨rfl, rfl⟩

theorem Rd.spoil {w : World} {b : Nat} {r : ByteArray} {bad : Bool} (h : Rd w b r bad) :
    Rd ((w.setCell ⟨b, 0, none⟩ (.string ByteArray.empty)).setCell ⟨b, 1, none⟩ (.bool true)) b ByteArray.empty true ∧ w.grownBy ((w.setCell ⟨b, 0, none⟩ (.string ByteArray.empty)).setCell ⟨b, 1, none⟩ (.bool true)) (some b) := by
  have e0 : (w.setCell ⟨b, 0, none⟩ (.string ByteArray.empty)).cell? ⟨b, 0, none⟩ = some (.string ByteArray.empty) := World.cell?_setCell_same _ _ _ h.c0
  have e1 : (w.setCell ⟨b, 0, none⟩ (.string ByteArray.empty)).cell? ⟨b, 1, none⟩ = some (.bool bad) := by rw [World.cell?_setCell_other _ _ _ _ (by simp)]; exact h.c1
  refine ⟨⟨?_, World.cell?_setCell_same _ _ _ e1, by simp [h.f0], by simp [h.f1]⟩, Lib.grownBy_setB (Lib.grownBy_setCell w b 0 _) 1 _⟩
  rw [World.cell?_setCell_other _ _ _ _ (by simp)]; exact e0

set_option maxHeartbeats 400000 in
theorem take_yes (n : Nat) (w : World) (b : Nat) (r : ByteArray) (h : Rd w b r false) (hr : n ≤ r.size) (hz : r.size ≤ 281474976710656) :
    Calls Tryz.prog 70 #[.pointer (some ⟨b, 0, none⟩), .int .i64 n] w fun e w' => e = .returned (.string (r.extract 0 n)) ∧ Rd w' b (r.extract n r.size) false ∧ w.grownBy w' (some b) := by
  have hd : decide ((n : Int) < 0) = false := by simp
  have hd1 : decide ((r.size : Int) < n) = false := by simp; omega
  have hc0 := h.c0
  go_enter Tryz.func70, Tryz.ntmps70
  go_wp2_with (go_at_call 102; refine (good_any _ b r false h).mono ?_; rintro e w' ⟨rfl, rfl⟩)
  refine (clone_any _ _ ?_).mono ?_
  · rw [ByteArray.size_extract]; omega
  rintro e w1 ⟨rfl, hb⟩
  have q := h.below hb
  have q0 := q.c0
  have qf := q.f0
  clear hc0
  go_wp2
  go_ret
  refine ⟨rfl, ⟨World.cell?_setCell_same _ _ _ q0, ?_, by simp [q.f0], by simp [q.f1]⟩, Lib.grownBy_setB (Lib.grownBy_below (World.grownBy.refl _ _) hb) 0 _⟩
  rw [World.cell?_setCell_other _ _ _ _ (by simp)]
  exact q.c1

/-! All ways in one: what is told, what is left, whether it is bad. -/
def rdOk (n : Int) (r : ByteArray) (bad : Bool) : Bool := !bad && decide (0 ≤ n ∧ n ≤ r.size)
def rdOut (n : Int) (r : ByteArray) (bad : Bool) : ByteArray := if rdOk n r bad = true then r.extract 0 n.toNat else ByteArray.empty
def rdRest (n : Int) (r : ByteArray) (bad : Bool) : ByteArray := if rdOk n r bad = true then r.extract n.toNat r.size else if bad = true then r else ByteArray.empty

theorem take_any (n : Int) (w : World) (b : Nat) (r : ByteArray) (bad : Bool) (h : Rd w b r bad) (hz : r.size ≤ 281474976710656) :
    Calls Tryz.prog 70 #[.pointer (some ⟨b, 0, none⟩), .int .i64 n] w fun e w' => e = .returned (.string (rdOut n r bad)) ∧ Rd w' b (rdRest n r bad) (!rdOk n r bad) ∧ w.grownBy w' (some b) := by
  cases bad with
  | true =>
    have hk : rdOk n r true = false := by simp [rdOk]
    simp only [rdOut, rdRest, hk]
    exact (take_bad n w b r h).mono fun e w' ⟨he, hw⟩ => ⟨he, hw ▸ h, hw ▸ World.grownBy.refl _ _⟩
  | false =>
    by_cases h0 : n < 0
    · have hk : rdOk n r false = false := by simp [rdOk]; omega
      simp only [rdOut, rdRest, hk]
      exact (take_neg n w b r h h0).mono fun e w' ⟨he, hw⟩ => ⟨he, hw ▸ h.spoil.1, hw ▸ h.spoil.2⟩
    · by_cases h1 : (r.size : Int) < n
      · have hk : rdOk n r false = false := by simp [rdOk]; omega
        simp only [rdOut, rdRest, hk]
        exact (take_much n w b r h (by omega) h1).mono fun e w' ⟨he, hw⟩ => ⟨he, hw ▸ h.spoil.1, hw ▸ h.spoil.2⟩
      · have hk : rdOk n r false = true := by simp [rdOk]; omega
        simp only [rdOut, rdRest, hk]
        obtain ⟨m, rfl⟩ := Int.eq_ofNat_of_zero_le (a := n) (by omega)
        exact take_yes m w b r h (by omega) hz

end Go.Proofs.YtggfmnmopfdiaaaGreatDoor
namespace Go.Proofs.YtggfmnmopfdiaaaGreatDoor
open Go.RowKit Go.Pal

theorem wraps_i64 (n : Int) (h0 : 0 ≤ n) (h1 : n < 2 ^ 62) : IntKind.i64.wrap n = n := by rw [IntKind.wrap_i64]; omega
theorem or_byte (a : Int) (x : UInt8) (h0 : 0 ≤ a) (h1 : a < 1125899906842624) : bits .or .i64 (wrap64 (a * 256)) (wrap64 (x.toNat : Int)) = 256 * a + x.toNat := by
  have hx := x.toNat_lt
  have e1 : wrap64 (a * 256) = a * 256 := by unfold wrap64; omega
  have e2 : wrap64 (x.toNat : Int) = x.toNat := by unfold wrap64; omega
  rw [e1, e2, bits_join .i64 62 (by decide) wraps_i64 8 (a * 256) x.toNat (by omega) (by omega) (by omega) (by omega) (by omega) (by omega)]
  omega
theorem or_zero (x : UInt8) : bits .or .i64 0 (wrap64 (x.toNat : Int)) = x.toNat := by
  have := or_byte 0 x (by omega) (by omega)
  simpa [wrap64] using this

theorem size_one {s : ByteArray} (h : s.size = 1) : ∃ x, s = ⟨#[x]⟩ := by
  obtain ⟨⟨l⟩⟩ := s
  match l, h with
  | [x], _ => exact ⟨x, rfl⟩
theorem size_two {s : ByteArray} (h : s.size = 2) : ∃ x y, s = ⟨#[x, y]⟩ := by
  obtain ⟨⟨l⟩⟩ := s
  match l, h with
  | [x, y], _ => exact ⟨x, y, rfl⟩
theorem size_four {s : ByteArray} (h : s.size = 4) : ∃ x y z u, s = ⟨#[x, y, z, u]⟩ := by
  obtain ⟨⟨l⟩⟩ := s
  match l, h with
  | [x, y, z, u], _ => exact ⟨x, y, z, u, rfl⟩

theorem rdOut_size {k : Nat} {r : ByteArray} {bad : Bool} (h : rdOk k r bad = true) : (rdOut k r bad).size = k := by
  simp only [rdOut, h, if_true, ByteArray.size_extract]
  simp [rdOk] at h
  simp
  omega
theorem rdOut_none {k : Int} {r : ByteArray} {bad : Bool} (h : rdOk k r bad = false) : rdOut k r bad = ByteArray.empty := by
  simp [rdOut, h]

theorem join1 (x : UInt8) : bits BinOp.or IntKind.i64 0 (wrap64 (x.toNat : Int)) = (valL [x] : Int) := by
  have b0 := x.toNat_lt
  rw [or_zero]
  simp [valL]

set_option maxHeartbeats 400000 in
theorem number_one_yes (w : World) (b : Nat) (r : ByteArray) (bad : Bool) (h : Rd w b r bad) (hz : r.size ≤ 281474976710656) (hk : rdOk 1 r bad = true) :
    Calls Tryz.prog 119 #[.pointer (some ⟨b, 0, none⟩), .int .i64 1] w fun e w' => e = .returned (.int .i64 (valL (rdOut 1 r bad).data.toList)) ∧ Rd w' b (rdRest 1 r bad) (!rdOk 1 r bad) ∧ w.grownBy w' (some b) := by
  have ht := take_any 1 w b r bad h hz
  have hs : (rdOut 1 r bad).size = 1 := rdOut_size (k := 1) hk
  generalize rdRest 1 r bad = R at *
  generalize rdOut 1 r bad = T at *
  obtain ⟨x, rfl⟩ := size_one hs
  have HT := Lib.hid ht
  clear ht hs hk
  go_enter Tryz.func119, Tryz.ntmps119
  go_wp2_with (go_at_call 70; refine HT.out.mono ?_; rintro e w' ⟨rfl, hb⟩)
  refine wp_loop_rounds 2 ?_; rw [rounds_succ]
  go_wp2
  rw [rounds_succ]
  go_wp2
  go_ret
  exact ⟨ret_i (join1 x), hb⟩

set_option maxHeartbeats 400000 in
theorem number_one_no (w : World) (b : Nat) (r : ByteArray) (bad : Bool) (h : Rd w b r bad) (hz : r.size ≤ 281474976710656) (hk : rdOk 1 r bad = false) :
    Calls Tryz.prog 119 #[.pointer (some ⟨b, 0, none⟩), .int .i64 1] w fun e w' => e = .returned (.int .i64 (valL (rdOut 1 r bad).data.toList)) ∧ Rd w' b (rdRest 1 r bad) (!rdOk 1 r bad) ∧ w.grownBy w' (some b) := by
  have ht := take_any 1 w b r bad h hz
  rw [rdOut_none hk] at ht ⊢
  generalize rdRest 1 r bad = R at *
  have HT := Lib.hid ht
  clear ht hk
  go_enter Tryz.func119, Tryz.ntmps119
  go_wp2_with (go_at_call 70; refine HT.out.mono ?_; rintro e w' ⟨rfl, hb⟩)
  refine wp_loop_rounds 1 ?_; rw [rounds_succ]
  go_wp2
  go_ret
  exact ⟨rfl, hb⟩



theorem join2 (x y : UInt8) : bits BinOp.or IntKind.i64 (wrap64 (bits BinOp.or IntKind.i64 0 (wrap64 (x.toNat : Int)) * 256)) (wrap64 (y.toNat : Int)) = (valL [x, y] : Int) := by
  have b0 := x.toNat_lt
  have b1 := y.toNat_lt
  rw [or_zero, or_byte _ y (by omega) (by omega)]
  simp [valL]

set_option maxHeartbeats 400000 in
theorem number_two_yes (w : World) (b : Nat) (r : ByteArray) (bad : Bool) (h : Rd w b r bad) (hz : r.size ≤ 281474976710656) (hk : rdOk 2 r bad = true) :
    Calls Tryz.prog 119 #[.pointer (some ⟨b, 0, none⟩), .int .i64 2] w fun e w' => e = .returned (.int .i64 (valL (rdOut 2 r bad).data.toList)) ∧ Rd w' b (rdRest 2 r bad) (!rdOk 2 r bad) ∧ w.grownBy w' (some b) := by
  have ht := take_any 2 w b r bad h hz
  have hs : (rdOut 2 r bad).size = 2 := rdOut_size (k := 2) hk
  generalize rdRest 2 r bad = R at *
  generalize rdOut 2 r bad = T at *
  obtain ⟨x, y, rfl⟩ := size_two hs
  have HT := Lib.hid ht
  clear ht hs hk
  go_enter Tryz.func119, Tryz.ntmps119
  go_wp2_with (go_at_call 70; refine HT.out.mono ?_; rintro e w' ⟨rfl, hb⟩)
  refine wp_loop_rounds 3 ?_; rw [rounds_succ]
  go_wp2
  rw [rounds_succ]
  go_wp2
  rw [rounds_succ]
  go_wp2
  go_ret
  exact ⟨ret_i (join2 x y), hb⟩

set_option maxHeartbeats 400000 in
theorem number_two_no (w : World) (b : Nat) (r : ByteArray) (bad : Bool) (h : Rd w b r bad) (hz : r.size ≤ 281474976710656) (hk : rdOk 2 r bad = false) :
    Calls Tryz.prog 119 #[.pointer (some ⟨b, 0, none⟩), .int .i64 2] w fun e w' => e = .returned (.int .i64 (valL (rdOut 2 r bad).data.toList)) ∧ Rd w' b (rdRest 2 r bad) (!rdOk 2 r bad) ∧ w.grownBy w' (some b) := by
  have ht := take_any 2 w b r bad h hz
  rw [rdOut_none hk] at ht ⊢
  generalize rdRest 2 r bad = R at *
  have HT := Lib.hid ht
  clear ht hk
  go_enter Tryz.func119, Tryz.ntmps119
  go_wp2_with (go_at_call 70; refine HT.out.mono ?_; rintro e w' ⟨rfl, hb⟩)
  refine wp_loop_rounds 1 ?_; rw [rounds_succ]
  go_wp2
  go_ret
  exact ⟨rfl, hb⟩

set_option maxHeartbeats 400000 in
theorem rshort_any (w : World) (b : Nat) (r : ByteArray) (bad : Bool) (h : Rd w b r bad) (hz : r.size ≤ 281474976710656) :
    Calls Tryz.prog 101 #[.pointer (some ⟨b, 0, none⟩)] w fun e w' => e = .returned (.int .i64 (valL (rdOut 2 r bad).data.toList)) ∧ Rd w' b (rdRest 2 r bad) (!rdOk 2 r bad) ∧ w.grownBy w' (some b) := by
  have hn : Calls Tryz.prog 119 #[.pointer (some ⟨b, 0, none⟩), .int .i64 2] w fun e w' => e = .returned (.int .i64 (valL (rdOut 2 r bad).data.toList)) ∧ Rd w' b (rdRest 2 r bad) (!rdOk 2 r bad) ∧ w.grownBy w' (some b) := by
    cases hk : rdOk 2 r bad with
    | true => have := number_two_yes w b r bad h hz hk; rwa [hk] at this
    | false => have := number_two_no w b r bad h hz hk; rwa [hk] at this
  have HN := Lib.hid hn
  clear hn
  go_enter Tryz.func101, Tryz.ntmps101
  go_wp2_with (go_at_call 119; refine HN.out.mono ?_; rintro e w' ⟨rfl, hb⟩)
  go_ret
  exact ⟨rfl, hb⟩

set_option maxHeartbeats 400000 in
theorem rshort_nil (w : World) :
    Calls Tryz.prog 101 #[.pointer none] w fun e w' => e = .returned (.int .i64 0) ∧ w = w' := by
  have hn : Calls Tryz.prog 119 #[.pointer none, .int .i64 2] w fun e w' => e = .returned (.int .i64 0) ∧ w = w' := by
    go_enter Tryz.func119, Tryz.ntmps119
    go_wp2_with (go_at_call 70; refine (take_nil _ _).mono ?_; rintro e w' ⟨rfl, rfl⟩)
    refine wp_loop_rounds 1 ?_; rw [rounds_succ]
    go_wp2
    go_ret
    exact ⟨rfl, rfl⟩
  have HN := Lib.hid hn
  clear hn
  go_enter Tryz.func101, Tryz.ntmps101
  go_wp2_with (go_at_call 119; refine HN.out.mono ?_; rintro e w' ⟨rfl, rfl⟩)
  go_ret
  exact ⟨rfl, rfl⟩

theorem join4 (x y z u : UInt8) : bits BinOp.or IntKind.i64 (wrap64 (bits BinOp.or IntKind.i64 (wrap64 (bits BinOp.or IntKind.i64 (wrap64 (bits BinOp.or IntKind.i64 0 (wrap64 (x.toNat : Int)) * 256)) (wrap64 (y.toNat : Int)) * 256)) (wrap64 (z.toNat : Int)) * 256)) (wrap64 (u.toNat : Int)) = (valL [x, y, z, u] : Int) := by
  have b0 := x.toNat_lt
  have b1 := y.toNat_lt
  have b2 := z.toNat_lt
  have b3 := u.toNat_lt
  rw [or_zero, or_byte _ y (by omega) (by omega), or_byte _ z (by omega) (by omega), or_byte _ u (by omega) (by omega)]
  simp [valL]

set_option maxHeartbeats 400000 in
theorem number_four_yes (w : World) (b : Nat) (r : ByteArray) (bad : Bool) (h : Rd w b r bad) (hz : r.size ≤ 281474976710656) (hk : rdOk 4 r bad = true) :
    Calls Tryz.prog 119 #[.pointer (some ⟨b, 0, none⟩), .int .i64 4] w fun e w' => e = .returned (.int .i64 (valL (rdOut 4 r bad).data.toList)) ∧ Rd w' b (rdRest 4 r bad) (!rdOk 4 r bad) ∧ w.grownBy w' (some b) := by
  have ht := take_any 4 w b r bad h hz
  have hs : (rdOut 4 r bad).size = 4 := rdOut_size (k := 4) hk
  generalize rdRest 4 r bad = R at *
  generalize rdOut 4 r bad = T at *
  obtain ⟨x, y, z, u, rfl⟩ := size_four hs
  have HT := Lib.hid ht
  clear ht hs hk
  go_enter Tryz.func119, Tryz.ntmps119
  go_wp2_with (go_at_call 70; refine HT.out.mono ?_; rintro e w' ⟨rfl, hb⟩)
  refine wp_loop_rounds 5 ?_; rw [rounds_succ]
  go_wp2
  rw [rounds_succ]
  go_wp2
  rw [rounds_succ]
  go_wp2
  rw [rounds_succ]
  go_wp2
  rw [rounds_succ]
  go_wp2
  go_ret
  exact ⟨ret_i (join4 x y z u), hb⟩

set_option maxHeartbeats 400000 in
theorem number_four_no (w : World) (b : Nat) (r : ByteArray) (bad : Bool) (h : Rd w b r bad) (hz : r.size ≤ 281474976710656) (hk : rdOk 4 r bad = false) :
    Calls Tryz.prog 119 #[.pointer (some ⟨b, 0, none⟩), .int .i64 4] w fun e w' => e = .returned (.int .i64 (valL (rdOut 4 r bad).data.toList)) ∧ Rd w' b (rdRest 4 r bad) (!rdOk 4 r bad) ∧ w.grownBy w' (some b) := by
  have ht := take_any 4 w b r bad h hz
  rw [rdOut_none hk] at ht ⊢
  generalize rdRest 4 r bad = R at *
  have HT := Lib.hid ht
  clear ht hk
  go_enter Tryz.func119, Tryz.ntmps119
  go_wp2_with (go_at_call 70; refine HT.out.mono ?_; rintro e w' ⟨rfl, hb⟩)
  refine wp_loop_rounds 1 ?_; rw [rounds_succ]
  go_wp2
  go_ret
  exact ⟨rfl, hb⟩




end Go.Proofs.YtggfmnmopfdiaaaGreatDoor
namespace Go.Proofs.YtggfmnmopfdiaaaGreatDoor
open Go.RowKit Go.Pal

theorem rdRest_le (n : Int) (r : ByteArray) (bad : Bool) : (rdRest n r bad).size ≤ r.size := by
  unfold rdRest
  split
  · rw [ByteArray.size_extract]; omega
  · split
    · exact Nat.le_refl _
    · simp

/-- A text's length, as it stands next. -/
def rdLen (r : ByteArray) (bad : Bool) : Int := (valL (rdOut 2 r bad).data.toList : Nat)



set_option maxHeartbeats 400000 in
theorem left_nil (w : World) :
    Calls Tryz.prog 72 #[.pointer none] w fun e w' => e = .returned (.int .i64 0) ∧ w = w' := by
  go_enter Tryz.func72, Tryz.ntmps72
  go_wp2_with (go_at_call 102; refine (good_nil _).mono ?_; rintro e w' ⟨rfl, rfl⟩)
  go_ret
  exact ⟨rfl, rfl⟩


set_option maxHeartbeats 400000 in
theorem left_any (w : World) (b : Nat) (r : ByteArray) (bad : Bool) (h : Rd w b r bad) :
    Calls Tryz.prog 72 #[.pointer (some ⟨b, 0, none⟩)] w fun e w' => e = .returned (.int .i64 (if bad = true then 0 else (r.size : Int))) ∧ w = w' := by
  have hc0 := h.c0
  cases bad with
  | true =>
    go_enter Tryz.func72, Tryz.ntmps72
    go_wp2_with (go_at_call 102; refine (good_any _ b r true h).mono ?_; rintro e w' ⟨rfl, rfl⟩)
    go_ret
    exact ⟨rfl, rfl⟩
  | false =>
    go_enter Tryz.func72, Tryz.ntmps72
    go_wp2_with (go_at_call 102; refine (good_any _ b r false h).mono ?_; rintro e w' ⟨rfl, rfl⟩)
    go_ret
    exact ⟨rfl, rfl⟩


set_option maxHeartbeats 400000 in
theorem read_any (s : ByteArray) (w : World) :
    Calls Tryz.prog 69 #[.string s] w fun e w' => e = .returned (.pointer (some ⟨w.heap.size, 0, none⟩)) ∧ w' = w.alloc (.cells #[.string s, .bool false] 141) := by
  go_enter Tryz.func69, Tryz.ntmps69
  go_wp2
  go_ret
  exact ⟨rfl, rfl⟩

theorem rd_new (s : ByteArray) (w : World) : Rd (w.alloc (.cells #[.string s, .bool false] 141)) w.heap.size s false := by
  refine ⟨?_, ?_, ?_, ?_⟩
  · rw [World.cell?_alloc_mark]; rfl
  · rw [World.cell?_alloc_mark]; rfl
  · rw [frozen?_alloc_cells]; simp [World.frozen?]
  · rw [frozen?_alloc_cells]; simp [World.frozen?]

theorem num258 : numB 2 258 = ⟨#[1, 2]⟩ := by rw [numB_yes (by decide)]; rfl
theorem ok258 : numOk 2 258 = true := by decide
theorem textAB : textB ⟨#[97, 98]⟩ = ⟨#[0, 2, 97, 98]⟩ := by
  rw [textB_yes (by decide), ByteArray.ext_iff]; rfl
theorem okAB : textOk ⟨#[97, 98]⟩ = true := by decide


end Go.Proofs.YtggfmnmopfdiaaaGreatDoor
namespace Go.Pal
open Go.RowKit
theorem extract2 (s : ByteArray) (o i j : Nat) (h : o + j ≤ s.size) : (s.extract o s.size).extract i j = s.extract (o + i) (o + j) := by
  rw [ByteArray.extract_extract, Nat.min_eq_left h]
theorem cutL_ext (s : ByteArray) (o p n : Nat) (h : o + p + 32 * n ≤ s.size) : cutL (s.extract o s.size) p n = cutL s (o + p) n := by
  apply List.ext_getElem (by rw [cutL_length, cutL_length])
  intro k h1 h2
  rw [cutL_length] at h1
  simp only [cutL, List.getElem_map, List.getElem_range]
  rw [extract2 _ _ _ _ (by omega)]
  congr 1 <;> omega
end Go.Pal
namespace Go.Proofs.YtggfmnmopfdiaaaGreatDoor
open Go.RowKit Go.Pal

set_option maxHeartbeats 1000000 in
theorem height_yes (w : World) (s : ByteArray) (h : Nat) (hh : h ≤ 4) (hz : s.size = 2 + 32 * (67 + h)) :
    Calls Tryz.prog 100 #[.string s] w fun e w' => e = .returned (.tuple #[.int .i64 (h : Int), .bool true]) ∧ w = w' := by
  have HZ := Lib.hid hz
  clear hz
  go_enter Tryz.func100, Tryz.ntmps100
  go_wp2
  go_loopw [5] (fun i wr => ∃ k : Nat, k ≤ h ∧ i = .int .i64 k ∧ wr = w) (fun i _ => 5 - (intOf i).toNat)
  case atStart => exact ⟨0, by omega, rfl, rfl⟩
  case round =>
    obtain ⟨k, hk, rfl, rfl⟩ := hrel
    have hk5 : k < 5 := by omega
    have hw1 : IntKind.i64.wrap (67 + (k : Int)) = 67 + (k : Int) := by rw [IntKind.wrap_i64]; omega
    have hw2 : IntKind.i64.wrap (32 * (67 + (k : Int))) = 32 * (67 + (k : Int)) := by rw [IntKind.wrap_i64]; omega
    have hw3 : IntKind.i64.wrap (2 + 32 * (67 + (k : Int))) = 2 + 32 * (67 + (k : Int)) := by rw [IntKind.wrap_i64]; omega
    by_cases hlt : k < h
    · have hne : ((s.size : Int) == 2 + 32 * (67 + (k : Int))) = false := by have := HZ.out; rw [beq_eq_false_iff_ne]; omega
      go_wp2
      go_roundw
      case rel => exact ⟨k + 1, by omega, by go_num, by first | rfl | trivial⟩
      case measure => simp [intOf]; omega
    · obtain rfl : k = h := by omega
      have hne : ((s.size : Int) == 2 + 32 * (67 + (k : Int))) = true := by have := HZ.out; rw [beq_iff_eq]; omega
      go_wp2
      go_ret2
      exact ⟨rfl, rfl⟩
set_option maxHeartbeats 1000000 in
theorem height_no (w : World) (s : ByteArray) (hz : ∀ h, h ≤ 4 → s.size ≠ 2 + 32 * (67 + h)) :
    Calls Tryz.prog 100 #[.string s] w fun e w' => e = .returned (.tuple #[.int .i64 0, .bool false]) ∧ w = w' := by
  have HZ := Lib.hid hz
  clear hz
  go_enter Tryz.func100, Tryz.ntmps100
  go_wp2
  go_loopw [5] (fun i wr => ∃ k : Nat, k ≤ 5 ∧ i = .int .i64 k ∧ wr = w) (fun i _ => 5 - (intOf i).toNat)
  case atStart => exact ⟨0, by omega, rfl, rfl⟩
  case round =>
    obtain ⟨k, hk, rfl, rfl⟩ := hrel
    have hw1 : IntKind.i64.wrap (67 + (k : Int)) = 67 + (k : Int) := by rw [IntKind.wrap_i64]; omega
    have hw2 : IntKind.i64.wrap (32 * (67 + (k : Int))) = 32 * (67 + (k : Int)) := by rw [IntKind.wrap_i64]; omega
    have hw3 : IntKind.i64.wrap (2 + 32 * (67 + (k : Int))) = 2 + 32 * (67 + (k : Int)) := by rw [IntKind.wrap_i64]; omega
    by_cases hlt : k < 5
    · have hne : ((s.size : Int) == 2 + 32 * (67 + (k : Int))) = false := by have := HZ.out k (by omega); rw [beq_eq_false_iff_ne]; omega
      go_wp2
      go_roundw
      case rel => exact ⟨k + 1, by omega, by go_num, by first | rfl | trivial⟩
      case measure => simp [intOf]; omega
    · obtain rfl : k = 5 := by omega
      rw [show ((5 : Nat) : Int) = 5 from rfl]
      go_wp2
      go_ret2
      exact ⟨rfl, rfl⟩

/-- A signature's form: its height and its leaf. -/
structure SigOk (s : ByteArray) (h leaf : Nat) : Prop where
  hh : h ≤ 4
  hz : s.size = 2 + 32 * (67 + h)
  hl : leaf = valL (s.extract 0 2).data.toList
  lt : leaf < 2 ^ h
theorem sig_short (s : ByteArray) (hz : 2 ≤ s.size) : rdOut 2 s false = s.extract 0 2 := by
  have hk : rdOk 2 s false = true := by simp [rdOk]; omega
  rw [rdOut, if_pos hk]; rfl

set_option maxHeartbeats 1000000 in
theorem leaf_yes (w : World) (s : ByteArray) (h leaf : Nat) (hs : SigOk s h leaf) :
    Calls Tryz.prog 68 #[.string s] w fun e w' => e = .returned (.tuple #[.int .i64 (leaf : Int), .bool true]) ∧ Below w.heap.size w w' := by
  have HH := Lib.hid (fun W => height_yes W s h hs.hh hs.hz)
  have HC := Lib.hid (fun W => count_any h hs.hh W)
  have hrs := rshort_any (w.alloc (.cells #[.string s, .bool false] 141)) w.heap.size s false (rd_new s w) (by have := hs.hz; have := hs.hh; omega)
  rw [sig_short s (by have := hs.hz; omega), ← hs.hl] at hrs
  have HRS := Lib.hid hrs
  have hlt := hs.lt
  have h16 := pow_le16 h hs.hh
  have hnot : ∀ (x : Bool) (w : World), (Op.unary .not (.bool x)).run Tryz.prog w = .ok (.bool (!x)) w := fun _ _ => rfl
  generalize 2 ^ h = n at *
  have hge : ¬ n ≤ leaf := by omega
  clear hrs hs hlt
  go_enter Tryz.func68, Tryz.ntmps68
  go_wp2_with (first | (go_at_call 100; refine (HH.out _).mono ?_; rintro e w1 ⟨rfl, rfl⟩) | (go_at_call 69; refine (read_any s _).mono ?_; rintro e w1 ⟨rfl, rfl⟩))
  refine HRS.out.mono ?_
  rintro e w2 ⟨rfl, _, g2⟩
  have B2 := Lib.hid (((Below.refl w.heap.size w).alloc (Nat.le_refl _) _).grown g2 (by simp) (fun k hk => by cases hk; exact Nat.le_refl _))
  clear g2
  go_wp2_with (go_at_call 22; refine (HC.out _).mono ?_; rintro e w3 ⟨rfl, rfl⟩)
  go_ret2
  exact ⟨rfl, B2.out⟩

set_option maxHeartbeats 1000000 in
theorem leaf_no (w : World) (s : ByteArray) (hsz : s.size ≤ 281474976710656) (hs : ∀ h leaf, ¬ SigOk s h leaf) :
    Calls Tryz.prog 68 #[.string s] w fun e w' => e = .returned (.tuple #[.int .i64 0, .bool false]) ∧ Below w.heap.size w w' := by
  have hrs := rshort_any (w.alloc (.cells #[.string s, .bool false] 141)) w.heap.size s false (rd_new s w) hsz
  have hnot : ∀ (x : Bool) (w : World), (Op.unary .not (.bool x)).run Tryz.prog w = .ok (.bool (!x)) w := fun _ _ => rfl
  by_cases hz : ∃ h, h ≤ 4 ∧ s.size = 2 + 32 * (67 + h)
  · obtain ⟨h, hh, hz⟩ := hz
    have HH := Lib.hid (fun W => height_yes W s h hh hz)
    have HC := Lib.hid (fun W => count_any h hh W)
    rw [sig_short s (by omega)] at hrs
    have hge : 2 ^ h ≤ valL (s.extract 0 2).data.toList := by
      rcases Nat.lt_or_ge (valL (s.extract 0 2).data.toList) (2 ^ h) with h1 | h1
      · exact absurd ⟨hh, hz, rfl, h1⟩ (hs h _)
      · exact h1
    have HRS := Lib.hid hrs
    generalize valL (s.extract 0 2).data.toList = leaf at *
    generalize 2 ^ h = n at *
    clear hrs hs hz hh hsz
    go_enter Tryz.func68, Tryz.ntmps68
    go_wp2_with (first | (go_at_call 100; refine (HH.out _).mono ?_; rintro e w1 ⟨rfl, rfl⟩) | (go_at_call 69; refine (read_any s _).mono ?_; rintro e w1 ⟨rfl, rfl⟩))
    refine HRS.out.mono ?_
    rintro e w2 ⟨rfl, _, g2⟩
    have B2 := Lib.hid (((Below.refl w.heap.size w).alloc (Nat.le_refl _) _).grown g2 (by simp) (fun k hk => by cases hk; exact Nat.le_refl _))
    clear g2
    go_wp2_with (go_at_call 22; refine (HC.out _).mono ?_; rintro e w3 ⟨rfl, rfl⟩)
    go_ret2
    exact ⟨rfl, B2.out⟩
  · have HH := Lib.hid (fun W => height_no W s (fun h hh e => hz ⟨h, hh, e⟩))
    have HRS := Lib.hid hrs
    generalize valL (rdOut 2 s false).data.toList = leaf at *
    clear hrs hs hz hsz
    go_enter Tryz.func68, Tryz.ntmps68
    go_wp2_with (first | (go_at_call 100; refine (HH.out _).mono ?_; rintro e w1 ⟨rfl, rfl⟩) | (go_at_call 69; refine (read_any s _).mono ?_; rintro e w1 ⟨rfl, rfl⟩))
    refine HRS.out.mono ?_
    rintro e w2 ⟨rfl, _, g2⟩
    have B2 := Lib.hid (((Below.refl w.heap.size w).alloc (Nat.le_refl _) _).grown g2 (by simp) (fun k hk => by cases hk; exact Nat.le_refl _))
    clear g2
    go_wp2
    go_ret2
    exact ⟨rfl, B2.out⟩
end Go.Proofs.YtggfmnmopfdiaaaGreatDoor
