/-
  Layer 12: the law's awake.
-/
import Derived.Test.YtabongfoeoideaaDgj
namespace Go.Proofs.Ytabongfoeoideaa
open Go.RowKit Go.Pal Go.Shelf
set_option linter.unusedVariables false
theorem row_at {w w1 : World} (l : List ByteArray) {c : Array Value} (hc : c = (l.map Value.string).toArray) : StrRow (w1.alloc (.cells c 9)) (some ⟨w1.heap.size, 0, none⟩) l := by subst hc; exact new_row w1 l
theorem alloc_new (w : World) (o : Obj) : Below w.heap.size w (w.alloc o) := (Below.refl _ _).alloc (Nat.le_refl _) o
theorem aw_add1 {w w1 : World} (h : DSt w1 w.heap.size w.heap.size []) (hb : w.heap.size ≤ w1.heap.size) : Calls Try.prog 14 #[.pointer (some ⟨w.heap.size, 0, none⟩), .string ⟨#[97]⟩, .slice none 0 0] w1 fun e w' => e = .returned (.int .i64 0) ∧ DSt w' w.heap.size w.heap.size E1 ∧ Below w.heap.size w1 w' := by
  have := sadd h hb bD0 (a := none) (ps := []) 0 (.inl rfl) (by simp) (by simp)
  rw [c1.1, c1.2] at this; exact this
theorem aw_add2 {w w1 : World} (h : DSt w1 w.heap.size w.heap.size E1) (hb : w.heap.size ≤ w1.heap.size) : Calls Try.prog 14 #[.pointer (some ⟨w.heap.size, 0, none⟩), .string ⟨#[98]⟩, .slice (some ⟨w1.heap.size, 0, none⟩) 1 1] (w1.alloc (.cells #[.string ⟨#[97]⟩] 9)) fun e w' => e = .returned (.int .i64 0) ∧ DSt w' w.heap.size w.heap.size E2 ∧ Below w.heap.size w1 w' := by
  have := sadd (h.new (alloc_new w1 (.cells #[.string ⟨#[97]⟩] 9))) (by simp; omega) bD1 (ps := [bD0]) 1 (row_at (w := w) [bD0] rfl) (by simp) (by intro s hs; rw [List.mem_singleton.1 hs]; decide)
  rw [c2.1, c2.2] at this
  refine this.mono ?_
  rintro e w' ⟨rfl, h1, h2⟩
  exact ⟨rfl, h1, ((alloc_new w1 _).mono hb).trans h2⟩
theorem aw_add3 {w w1 : World} (h : DSt w1 w.heap.size w.heap.size E2) (hb : w.heap.size ≤ w1.heap.size) : Calls Try.prog 14 #[.pointer (some ⟨w.heap.size, 0, none⟩), .string ⟨#[99]⟩, .slice (some ⟨w1.heap.size, 0, none⟩) 1 1] (w1.alloc (.cells #[.string ⟨#[97]⟩] 9)) fun e w' => e = .returned (.int .i64 0) ∧ DSt w' w.heap.size w.heap.size E3 ∧ Below w.heap.size w1 w' := by
  have := sadd (h.new (alloc_new w1 (.cells #[.string ⟨#[97]⟩] 9))) (by simp; omega) bD2 (ps := [bD0]) 1 (row_at (w := w) [bD0] rfl) (by simp) (by intro s hs; rw [List.mem_singleton.1 hs]; decide)
  rw [c3.1, c3.2] at this
  refine this.mono ?_
  rintro e w' ⟨rfl, h1, h2⟩
  exact ⟨rfl, h1, ((alloc_new w1 _).mono hb).trans h2⟩
theorem aw_add4 {w w1 : World} (h : DSt w1 w.heap.size w.heap.size E3) (hb : w.heap.size ≤ w1.heap.size) : Calls Try.prog 14 #[.pointer (some ⟨w.heap.size, 0, none⟩), .string ⟨#[100]⟩, .slice (some ⟨w1.heap.size, 0, none⟩) 2 2] (w1.alloc (.cells #[.string ⟨#[98]⟩, .string ⟨#[99]⟩] 9)) fun e w' => e = .returned (.int .i64 0) ∧ DSt w' w.heap.size w.heap.size E4 ∧ Below w.heap.size w1 w' := by
  have := sadd (h.new (alloc_new w1 (.cells #[.string ⟨#[98]⟩, .string ⟨#[99]⟩] 9))) (by simp; omega) bD3 (ps := [bD1, bD2]) 2 (row_at (w := w) [bD1, bD2] rfl) (by simp) (by intro s hs; simp at hs; rcases hs with rfl | rfl <;> decide)
  rw [c4.1, c4.2] at this
  refine this.mono ?_
  rintro e w' ⟨rfl, h1, h2⟩
  exact ⟨rfl, h1, ((alloc_new w1 _).mono hb).trans h2⟩
/-- Two rows of the same texts, one of them just laid. -/
theorem aw_same {w1 : World} {a : Option Addr} {cap : Nat} (l : List ByteArray) {n : Nat} {c : Array Value} (hr : StrRow w1 a l) (hn : n = l.length) (hl : l.length ≤ maxLen) (hc : c = (l.map Value.string).toArray) :
    Calls Try.prog 18 #[.slice a n cap, .slice (some ⟨w1.heap.size, 0, none⟩) n n] (w1.alloc (.cells c 9)) fun e w' => e = .returned (.bool true) ∧ Below w1.heap.size w1 w' := by
  subst hc
  subst hn
  refine (rsame_any (hr.below (alloc_new w1 _)) (new_row w1 l) hl hl).mono ?_
  rintro e w' ⟨rfl, h2⟩
  rw [decide_eq_true rfl]
  exact ⟨rfl, (alloc_new w1 _).trans (h2.mono (by simp))⟩
set_option maxHeartbeats 2000000 in
set_option maxRecDepth 100000 in
theorem awake12 (w : World) : Calls Try.prog 11 #[] w fun e w' => e = .returned (.bool true) ∧ Below w.heap.size w w' := by
  go_enter Try.func11, Try.ntmps11
  go_wp2_with (first
    | (go_at_call 12; refine (snew w).mono ?_; rintro e w1 ⟨rfl, h1, hb1⟩; have H1 := Lib.hid h1; have B1 := Lib.hid hb1; clear h1 hb1)
    | (go_at_call 14; refine (aw_add4 H4.out B4.out.size).mono ?_; rintro e w5 ⟨rfl, h5, hb5⟩; have H5 := Lib.hid h5; have B5 := Lib.hid (B4.out.trans hb5); clear h5 hb5)
    | (go_at_call 14; refine (aw_add3 H3.out B3.out.size).mono ?_; rintro e w4 ⟨rfl, h4, hb4⟩; have H4 := Lib.hid h4; have B4 := Lib.hid (B3.out.trans hb4); clear h4 hb4)
    | (go_at_call 14; refine (aw_add2 H2.out B2.out.size).mono ?_; rintro e w3 ⟨rfl, h3, hb3⟩; have H3 := Lib.hid h3; have B3 := Lib.hid (B2.out.trans hb3); clear h3 hb3)
    | (go_at_call 14; refine (aw_add1 H1.out B1.out.size).mono ?_; rintro e w2 ⟨rfl, h2, hb2⟩; have H2 := Lib.hid h2; have B2 := Lib.hid (B1.out.trans hb2); clear h2 hb2)
    | (go_at_call 23; refine (sheads H5.out).mono ?_; rintro e w6 ⟨v6, rfl, h6, hb6⟩; rw [t1] at h6; obtain ⟨p6, c6, rfl, hr6⟩ := h6.form; have R6 := Lib.hid hr6; have H6 := Lib.hid (H5.out.new hb6); have B6 := Lib.hid (B5.out.trans (hb6.mono B5.out.size)); clear h6 hb6 hr6)
    | (go_at_call 25; refine (sorder H7.out).mono ?_; rintro e w8 ⟨v8, rfl, h8, hb8⟩; rw [t2] at h8; obtain ⟨p8, c8, rfl, hr8⟩ := h8.form; have R8 := Lib.hid hr8; have H8 := Lib.hid (H7.out.new hb8); have B8 := Lib.hid (B7.out.trans (hb8.mono B7.out.size)); clear h8 hb8 hr8)
    | (go_at_call 21; refine (spast (s := ⟨#[100]⟩) H9.out (by decide)).mono ?_; rintro e w10 ⟨v10, rfl, h10, hb10⟩; rw [show (riseL (pastL E4 ⟨#[100]⟩)) = _ from t3] at h10; obtain ⟨p10, c10, rfl, hr10⟩ := h10.form; have R10 := Lib.hid hr10; have B10 := Lib.hid (B9.out.trans (hb10.mono B9.out.size)); clear h10 hb10 hr10)
    | (go_at_call 18; refine (aw_same [bD0, bD1, bD2] R10.out rfl (by decide) rfl).mono ?_; rintro e w11 ⟨rfl, hb11⟩; have B11 := Lib.hid (B10.out.trans (hb11.mono B10.out.size)); clear hb11)
    | (go_at_call 18; refine (aw_same [bD0, bD1, bD2, bD3] R8.out rfl (by decide) rfl).mono ?_; rintro e w9 ⟨rfl, hb9⟩; have H9 := Lib.hid (H8.out.new hb9); have B9 := Lib.hid (B8.out.trans (hb9.mono B8.out.size)); clear hb9)
    | (go_at_call 18; refine (aw_same [bD3] R6.out rfl (by decide) rfl).mono ?_; rintro e w7 ⟨rfl, hb7⟩; have H7 := Lib.hid (H6.out.new hb7); have B7 := Lib.hid (B6.out.trans (hb7.mono B6.out.size)); clear hb7))
  go_ret
  exact ⟨rfl, B11.out⟩
end Go.Proofs.Ytabongfoeoideaa
