/-
  Contracts of a reader of package octets: what each call tells, and how it leaves the reader.
-/
import Derived.Test.YtbipmeogcmmhhaaClone
import Derived.Test.YtbipmeogcmmhhaaPlain
import Derived.Deep.Light
import Derived.Lib.BufferOwn
namespace Go.Proofs.Ytbipmeogcmmhhaa
open Go.RowKit Go.Pal

/-- A reader at block b: what is to come, and whether it is bad. -/
structure Rd (w : World) (b : Nat) (r : ByteArray) (bad : Bool) : Prop where
  c0 : w.cell? ⟨b, 0, none⟩ = some (.string r)
  c1 : w.cell? ⟨b, 1, none⟩ = some (.bool bad)
  f0 : w.frozen? ⟨b, 0, none⟩ = false
  f1 : w.frozen? ⟨b, 1, none⟩ = false

theorem Rd.lt {w : World} {b : Nat} {r : ByteArray} {bad : Bool} (h : Rd w b r bad) : b < w.heap.size := by
  rcases Nat.lt_or_ge b w.heap.size with h1 | h1
  · exact h1
  · have := h.c0
    simp [World.cell?, Array.getElem?_eq_none h1] at this

theorem Rd.below {w w' : World} {b : Nat} {r : ByteArray} {bad : Bool} (h : Rd w b r bad) (hb : Below w.heap.size w w') : Rd w' b r bad :=
  have hl := h.lt
  ⟨(hb.cell (p := ⟨b, 0, none⟩) hl).trans h.c0, (hb.cell (p := ⟨b, 1, none⟩) hl).trans h.c1, (hb.frozen (p := ⟨b, 0, none⟩) hl).trans h.f0, (hb.frozen (p := ⟨b, 1, none⟩) hl).trans h.f1⟩

set_option maxHeartbeats 400000 in
theorem good_nil (w : World) :
    Calls Try.prog 95 #[.pointer none] w fun e w' => e = .returned (.bool false) ∧ w' = w := by
  go_enter Try.func95, Try.ntmps95
  go_wp2
  go_ret
  exact ⟨rfl, rfl⟩

set_option maxHeartbeats 400000 in
theorem good_any (w : World) (b : Nat) (r : ByteArray) (bad : Bool) (h : Rd w b r bad) :
    Calls Try.prog 95 #[.pointer (some ⟨b, 0, none⟩)] w fun e w' => e = .returned (.bool (!bad)) ∧ w' = w := by
  have h1 := h.c1
  clear h
  go_enter Try.func95, Try.ntmps95
  go_wp2
  go_ret
  exact ⟨rfl, rfl⟩

set_option maxHeartbeats 400000 in
theorem take_nil (n : Int) (w : World) :
    Calls Try.prog 88 #[.pointer none, .int .i64 n] w fun e w' => e = .returned (.string ByteArray.empty) ∧ w' = w := by
  go_enter Try.func88, Try.ntmps88
  go_wp2_with (go_at_call 95; refine (good_nil _).mono ?_; rintro e w' ⟨rfl, rfl⟩)
  go_ret
  exact ⟨rfl, rfl⟩

set_option maxHeartbeats 400000 in
theorem take_bad (n : Int) (w : World) (b : Nat) (r : ByteArray) (h : Rd w b r true) :
    Calls Try.prog 88 #[.pointer (some ⟨b, 0, none⟩), .int .i64 n] w fun e w' => e = .returned (.string ByteArray.empty) ∧ w' = w := by
  go_enter Try.func88, Try.ntmps88
  go_wp2_with (go_at_call 95; refine (good_any _ b r true h).mono ?_; rintro e w' ⟨rfl, rfl⟩)
  go_ret
  exact ⟨rfl, rfl⟩

set_option maxHeartbeats 400000 in
theorem take_neg (n : Int) (w : World) (b : Nat) (r : ByteArray) (h : Rd w b r false) (hn : n < 0) :
    Calls Try.prog 88 #[.pointer (some ⟨b, 0, none⟩), .int .i64 n] w fun e w' => e = .returned (.string ByteArray.empty) ∧ w' = (w.setCell ⟨b, 0, none⟩ (.string ByteArray.empty)).setCell ⟨b, 1, none⟩ (.bool true) := by
  have hd : decide (n < 0) = true := by simpa using hn
  have hc0 := h.c0
  have hc1 := h.c1
  have hf0 := h.f0
  have hf1 := h.f1
  go_enter Try.func88, Try.ntmps88
  go_wp2_with (go_at_call 95; refine (good_any _ b r false h).mono ?_; rintro e w' ⟨rfl, rfl⟩)
  go_ret
  exact ⟨rfl, rfl⟩

set_option maxHeartbeats 400000 in
theorem take_much (n : Int) (w : World) (b : Nat) (r : ByteArray) (h : Rd w b r false) (hn : 0 ≤ n) (hr : (r.size : Int) < n) :
    Calls Try.prog 88 #[.pointer (some ⟨b, 0, none⟩), .int .i64 n] w fun e w' => e = .returned (.string ByteArray.empty) ∧ w' = (w.setCell ⟨b, 0, none⟩ (.string ByteArray.empty)).setCell ⟨b, 1, none⟩ (.bool true) := by
  have hd : decide (n < 0) = false := by simp; omega
  have hd1 : decide ((r.size : Int) < n) = true := by simpa using hr
  have hc0 := h.c0
  have hc1 := h.c1
  have hf0 := h.f0
  have hf1 := h.f1
  go_enter Try.func88, Try.ntmps88
  go_wp2_with (go_at_call 95; refine (good_any _ b r false h).mono ?_; rintro e w' ⟨rfl, rfl⟩)
  go_ret
  exact ⟨rfl, rfl⟩

theorem Rd.spoil {w : World} {b : Nat} {r : ByteArray} {bad : Bool} (h : Rd w b r bad) :
    Rd ((w.setCell ⟨b, 0, none⟩ (.string ByteArray.empty)).setCell ⟨b, 1, none⟩ (.bool true)) b ByteArray.empty true ∧ w.grownBy ((w.setCell ⟨b, 0, none⟩ (.string ByteArray.empty)).setCell ⟨b, 1, none⟩ (.bool true)) (some b) := by
  have e0 : (w.setCell ⟨b, 0, none⟩ (.string ByteArray.empty)).cell? ⟨b, 0, none⟩ = some (.string ByteArray.empty) := World.cell?_setCell_same _ _ _ h.c0
  have e1 : (w.setCell ⟨b, 0, none⟩ (.string ByteArray.empty)).cell? ⟨b, 1, none⟩ = some (.bool bad) := by rw [World.cell?_setCell_other _ _ _ _ (by simp)]; exact h.c1
  refine ⟨⟨?_, World.cell?_setCell_same _ _ _ e1, by simp [h.f0], by simp [h.f1]⟩, Lib.grownBy_setB (Lib.grownBy_setCell w b 0 _) 1 _⟩
  rw [World.cell?_setCell_other _ _ _ _ (by simp)]; exact e0

set_option maxHeartbeats 400000 in
theorem take_yes (n : Nat) (w : World) (b : Nat) (r : ByteArray) (h : Rd w b r false) (hr : n ≤ r.size) (hz : r.size ≤ 281474976710656) :
    Calls Try.prog 88 #[.pointer (some ⟨b, 0, none⟩), .int .i64 n] w fun e w' => e = .returned (.string (r.extract 0 n)) ∧ Rd w' b (r.extract n r.size) false ∧ w.grownBy w' (some b) := by
  have hd : decide ((n : Int) < 0) = false := by simp
  have hd1 : decide ((r.size : Int) < n) = false := by simp; omega
  have hc0 := h.c0
  go_enter Try.func88, Try.ntmps88
  go_wp2_with (go_at_call 95; refine (good_any _ b r false h).mono ?_; rintro e w' ⟨rfl, rfl⟩)
  refine (clone_any _ _ ?_).mono ?_
  · rw [ByteArray.size_extract]; omega
  rintro e w1 ⟨rfl, hb⟩
  have q := h.below hb
  have q0 := q.c0
  have qf := q.f0
  clear hc0
  go_wp2
  go_ret
  refine ⟨rfl, ⟨World.cell?_setCell_same _ _ _ q0, ?_, by simp [q.f0], by simp [q.f1]⟩, Lib.grownBy_setB (Lib.grownBy_below (World.grownBy.refl _ _) hb) 0 _⟩
  rw [World.cell?_setCell_other _ _ _ _ (by simp)]
  exact q.c1

/-! All ways in one: what is told, what is left, whether it is bad. -/
def rdOk (n : Int) (r : ByteArray) (bad : Bool) : Bool := !bad && decide (0 ≤ n ∧ n ≤ r.size)
def rdOut (n : Int) (r : ByteArray) (bad : Bool) : ByteArray := if rdOk n r bad = true then r.extract 0 n.toNat else ByteArray.empty
def rdRest (n : Int) (r : ByteArray) (bad : Bool) : ByteArray := if rdOk n r bad = true then r.extract n.toNat r.size else if bad = true then r else ByteArray.empty

theorem take_any (n : Int) (w : World) (b : Nat) (r : ByteArray) (bad : Bool) (h : Rd w b r bad) (hz : r.size ≤ 281474976710656) :
    Calls Try.prog 88 #[.pointer (some ⟨b, 0, none⟩), .int .i64 n] w fun e w' => e = .returned (.string (rdOut n r bad)) ∧ Rd w' b (rdRest n r bad) (!rdOk n r bad) ∧ w.grownBy w' (some b) := by
  cases bad with
  | true =>
    have hk : rdOk n r true = false := by simp [rdOk]
    simp only [rdOut, rdRest, hk]
    exact (take_bad n w b r h).mono fun e w' ⟨he, hw⟩ => ⟨he, hw ▸ h, hw ▸ World.grownBy.refl _ _⟩
  | false =>
    by_cases h0 : n < 0
    · have hk : rdOk n r false = false := by simp [rdOk]; omega
      simp only [rdOut, rdRest, hk]
      exact (take_neg n w b r h h0).mono fun e w' ⟨he, hw⟩ => ⟨he, hw ▸ h.spoil.1, hw ▸ h.spoil.2⟩
    · by_cases h1 : (r.size : Int) < n
      · have hk : rdOk n r false = false := by simp [rdOk]; omega
        simp only [rdOut, rdRest, hk]
        exact (take_much n w b r h (by omega) h1).mono fun e w' ⟨he, hw⟩ => ⟨he, hw ▸ h.spoil.1, hw ▸ h.spoil.2⟩
      · have hk : rdOk n r false = true := by simp [rdOk]; omega
        simp only [rdOut, rdRest, hk]
        obtain ⟨m, rfl⟩ := Int.eq_ofNat_of_zero_le (a := n) (by omega)
        exact take_yes m w b r h (by omega) hz

end Go.Proofs.Ytbipmeogcmmhhaa
