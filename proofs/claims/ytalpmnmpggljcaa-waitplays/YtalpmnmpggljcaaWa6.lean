/-
  Layer 13: of no room; the law's awake.
-/
import Derived.Test.YtalpmnmpggljcaaWa5
namespace Go.Proofs.Ytalpmnmpggljcaa
open Go.RowKit Go.Pal Go.Pal.Dk
set_option linter.unusedVariables false

set_option maxHeartbeats 400000 in
theorem wdrop_nil (w : World) (id : ByteArray) : Calls Try.prog 42 #[.pointer none, .string id] w fun e w' => e = .returned (.bool false) ∧ Below w.heap.size w w' := by
  go_enter Try.func42, Try.ntmps42
  go_wp2_with (go_at_call 59; refine (wfind_nil _ id).mono ?_; rintro e w' ⟨rfl, b1⟩)
  go_ret
  exact ⟨rfl, b1⟩
theorem wmissing_nil (w : World) : Calls Try.prog 45 #[.pointer none] w fun e w' => (∃ p cap, e = .returned (.slice p 0 cap)) ∧ Below w.heap.size w w' := by
  refine (wmissing_any (base := 0) (v := .slice none 0 0) (ws := []) (fun w' _ => wall_nil w') (World.ownsRow_nil _ _ _ _) (fun x hx => by cases hx) (by simp) (fun x hx => by cases hx) (fun x hx => by cases hx) (fun x hx => by cases hx)).mono ?_
  rintro e w' ⟨v', rfl, ho, hb⟩
  obtain ⟨p, cap, rfl, _⟩ := rowS_form ho
  exact ⟨⟨p, cap, rfl⟩, hb⟩
theorem wmissing_at {w : World} {base W places : Nat} {v : Value} {ws : List Wt} (h : WaitAt w base W places v ws) (hl : ws.length ≤ 300) (hml : ∀ x ∈ ws, x.miss.length ≤ 1000000)
    (hid : ∀ x ∈ ws, x.id.size ≤ maxLen) (hms : ∀ x ∈ ws, ∀ s ∈ x.miss, s.size ≤ 281474976710656) :
    Calls Try.prog 45 #[.pointer (some ⟨W, 0, none⟩)] w fun e w' => ∃ v', e = .returned v' ∧ w'.ownsRow w.heap.size 9 1 v' (missW ws).length ((missW ws).map Value.string) ∧ Below w.heap.size w w' :=
  wmissing_any (fun w' hb => wall_at (h.below hb (Nat.le_refl _)).c1) h.row (fun x hx => ⟨(h.maps x hx).1, (h.maps x hx).2.1⟩) hl hml hid hms
def bX : ByteArray := ⟨#[120]⟩
def bT : ByteArray := ⟨#[116]⟩
def bA : ByteArray := ⟨#[97]⟩
def bB : ByteArray := ⟨#[98]⟩
theorem aw_dedup : dedupL [bA, bB] = [bA, bB] := by decide
theorem aw_s1 : strike [bA, bB] bA = [bB] := by decide
theorem aw_s2 : strike [bB] bB = [] := by decide
theorem aw_stay1 (mb : Nat) : stayW bA [⟨bX, bT, mb, [bA, bB]⟩] = [⟨bX, bT, mb, [bB]⟩] ∧ leftW bA [⟨bX, bT, mb, [bA, bB]⟩] = [] := by
  unfold stayW leftW Wt.came stays
  simp [aw_s1]
theorem aw_stay2 (mb : Nat) : stayW bB [⟨bX, bT, mb, [bB]⟩] = [] ∧ leftW bB [⟨bX, bT, mb, [bB]⟩] = [⟨bX, bT, mb, []⟩] := by
  unfold stayW leftW Wt.came stays
  simp [aw_s2]
theorem aw_put {w w1 : World} (h : WaitAt w1 w.heap.size w.heap.size 2 (.slice none 0 0) []) (hb : w.heap.size ≤ w1.heap.size) : Calls Try.prog 37 #[.pointer (some ⟨w.heap.size, 0, none⟩), .string ⟨#[120]⟩, .string ⟨#[116]⟩, .slice (some ⟨w1.heap.size, 0, none⟩) 2 2] (w1.alloc (.cells #[.string ⟨#[97]⟩, .string ⟨#[98]⟩] 9)) fun e w' => e = .returned (.int .i64 0) ∧ ∃ v mb, WaitAt w' w.heap.size w.heap.size 2 v [⟨bX, bT, mb, [bA, bB]⟩] ∧ Off (fun g => g = w.heap.size) (w1.alloc (.cells #[.string ⟨#[97]⟩, .string ⟨#[98]⟩] 9)) w' ∧ w.heap.size ≤ mb := by
  have hm : StrRow (w1.alloc (.cells #[.string bA, .string bB] 9)) (some ⟨w1.heap.size, 0, none⟩) [bA, bB] := .inr ⟨w1.heap.size, 0, rfl, by simp, fun i hi => by
    have h3 : i = 0 ∨ i = 1 := by simp at hi; omega
    rcases h3 with rfl | rfl
    · exact (Blk.new w1 9 [.string bA, .string bB]).cell 0
    · exact (Blk.new w1 9 [.string bA, .string bB]).cell 1⟩
  refine (wput_ok (id := bX) (text := bT) (cap := 2) (m := [bA, bB]) (h.below (n := w1.heap.size) ((Below.refl _ _).alloc (Nat.le_refl _) _) (Nat.le_refl _)) (by omega) (by decide) (by decide) hm (by simp) (by simp) (by intro s hs; simp at hs; rcases hs with rfl | rfl <;> decide) rfl (by simp) (by simp; omega)).mono ?_
  rintro e w' ⟨rfl, v, mb, h1, h2, h3, h4⟩
  rw [aw_dedup] at h1
  exact ⟨rfl, v, mb, h1, h2.mono (fun g _ hg => by rcases hg with hg | hg; exact hg; cases hg), by simp at h3; omega⟩
theorem aw_come1 {w w1 : World} {v : Value} {mb : Nat} (h : WaitAt w1 w.heap.size w.heap.size 2 v [⟨bX, bT, mb, [bA, bB]⟩]) : Calls Try.prog 40 #[.pointer (some ⟨w.heap.size, 0, none⟩), .string ⟨#[97]⟩] w1 fun e w' => ∃ p cap v', e = .returned (.slice p 0 cap) ∧ WaitAt w' w.heap.size w.heap.size 2 v' [⟨bX, bT, mb, [bB]⟩] ∧ Off (fun g => g = w.heap.size ∨ g = mb) w1 w' := by
  refine (wcome_any h (by simp) (id := bA) (by decide)).mono ?_
  rintro e w' ⟨v5, v', rfl, h1, h2, h3, h4⟩
  rw [(aw_stay1 mb).2] at h1
  rw [(aw_stay1 mb).1] at h2
  obtain ⟨p, cap, rfl, _⟩ := rowS_form h1
  exact ⟨p, cap, v', rfl, h2, h3.mono (fun g _ hg => by simpa using hg)⟩
theorem aw_come2 {w w1 : World} {v : Value} {mb : Nat} (h : WaitAt w1 w.heap.size w.heap.size 2 v [⟨bX, bT, mb, [bB]⟩]) : Calls Try.prog 40 #[.pointer (some ⟨w.heap.size, 0, none⟩), .string ⟨#[98]⟩] w1 fun e w' => ∃ g cap v', e = .returned (.slice (some ⟨g, 0, none⟩) 1 cap) ∧ w'.cell? ⟨g, 0, none⟩ = some (.string ⟨#[120]⟩) ∧ w'.cell? ⟨g, 1, none⟩ = some (.string ⟨#[116]⟩) ∧ WaitAt w' w.heap.size w.heap.size 2 v' [] ∧ Off (fun g => g = w.heap.size ∨ g = mb) w1 w' := by
  refine (wcome_any h (by simp) (id := bB) (by decide)).mono ?_
  rintro e w' ⟨v5, v', rfl, h1, h2, h3, h4⟩
  rw [(aw_stay2 mb).2] at h1
  rw [(aw_stay2 mb).1] at h2
  obtain ⟨p, cap, rfl, _, _, hp⟩ := rowS_form h1
  obtain ⟨g, rfl⟩ := hp (by simp)
  exact ⟨g, cap, v', rfl, (ownS_cell h1 0 (by simp)).1, (ownS_cell h1 1 (by simp)).1, h2, h3.mono (fun g _ hg => by simpa using hg)⟩
theorem aw_new (w : World) : Calls Try.prog 36 #[.int .i64 2] w fun e w' => e = .returned (.pointer (some ⟨w.heap.size, 0, none⟩)) ∧ WaitAt w' w.heap.size w.heap.size 2 (.slice none 0 0) [] ∧ Below w.heap.size w w' := wnew_any 2 (by omega) w
theorem aw_len {w w1 : World} {v : Value} (h : WaitAt w1 w.heap.size w.heap.size 2 v []) : Calls Try.prog 43 #[.pointer (some ⟨w.heap.size, 0, none⟩)] w1 fun e w' => e = .returned (.int .i64 0) ∧ w' = w1 := wlen_at h
set_option maxHeartbeats 1000000 in
set_option maxRecDepth 100000 in
theorem awake13 (w : World) : Calls Try.prog 35 #[] w fun e w' => e = .returned (.bool true) ∧ Below w.heap.size w w' := by
  go_enter Try.func35, Try.ntmps35
  go_wp2_with (first
    | (go_at_call 36; refine (aw_new w).mono ?_; rintro e w1 ⟨rfl, h1, hb1⟩; have H1 := Lib.hid h1; have B1 := Lib.hid hb1; clear h1 hb1)
    | (go_at_call 37; refine (aw_put H1.out B1.out.size).mono ?_; rintro e w2 ⟨rfl, v2, mb, h2, ho2, hmb⟩; have H2 := Lib.hid h2; have O2 := Lib.hid ho2; clear h2 ho2)
    | (go_at_call 40; refine (aw_come2 H3.out).mono ?_; rintro e w4 ⟨g4, c4, v4, rfl, d0, d1, h4, ho4⟩; have H4 := Lib.hid h4; have O4 := Lib.hid ho4; clear h4 ho4)
    | (go_at_call 40; refine (aw_come1 H2.out).mono ?_; rintro e w3 ⟨p3, c3, v3, rfl, h3, ho3⟩; have H3 := Lib.hid h3; have O3 := Lib.hid ho3; clear h3 ho3)
    | (go_at_call 43; refine (aw_len H4.out).mono ?_; rintro e w5 ⟨rfl, rfl⟩))
  go_ret
  have s1 := B1.out.size
  have s2 := O2.out.size
  have s3 := O3.out.size
  have s4 := O4.out.size
  simp at s2
  have b2 := (B1.out.alloc s1 (.cells #[.string ⟨#[97]⟩, .string ⟨#[98]⟩] 9)).trans (O2.out.below (n := w.heap.size) (fun g hg => by omega) (by simp; omega))
  have b3 := b2.trans (O3.out.below (n := w.heap.size) (fun g hg => by omega) (by omega))
  exact ⟨rfl, b3.trans (O4.out.below (n := w.heap.size) (fun g hg => by omega) (by omega))⟩
end Go.Proofs.Ytalpmnmpggljcaa
