/-
  Contracts of a reader's Text, Left, End and of Read; of a nil reader; of the document's examples of layer 1.
-/
import Derived.Test.YtkdbbbmoalijhaaDoorRd2
import Derived.Test.YtkdbbbmoalijhaaDoorOct5
namespace Go.Proofs.YtkdbbbmoalijhaaDoor
open Go.RowKit Go.Pal

theorem rdRest_le (n : Int) (r : ByteArray) (bad : Bool) : (rdRest n r bad).size ≤ r.size := by
  unfold rdRest
  split
  · rw [ByteArray.size_extract]; omega
  · split
    · exact Nat.le_refl _
    · simp

/-- A text's length, as it stands next. -/
def rdLen (r : ByteArray) (bad : Bool) : Int := (valL (rdOut 2 r bad).data.toList : Nat)

set_option maxHeartbeats 400000 in
theorem rtext_any2 (w : World) (b : Nat) (r : ByteArray) (bad : Bool) (h : Rd w b r bad) (hz : r.size ≤ 281474976710656) :
    Calls Tryd.prog 13 #[.pointer (some ⟨b, 0, none⟩)] w fun e w' => e = .returned (.string (rdOut (rdLen r bad) (rdRest 2 r bad) (!rdOk 2 r bad))) ∧
      Rd w' b (rdRest (rdLen r bad) (rdRest 2 r bad) (!rdOk 2 r bad)) (!rdOk (rdLen r bad) (rdRest 2 r bad) (!rdOk 2 r bad)) ∧ w.grownBy w' (some b) := by
  have hz2 : (rdRest 2 r bad).size ≤ 281474976710656 := Nat.le_trans (rdRest_le 2 r bad) hz
  have hn := rshort_any w b r bad h hz
  have ht := fun w1 h1 => take_any (rdLen r bad) w1 b (rdRest 2 r bad) (!rdOk 2 r bad) h1 hz2
  have hL : (valL (rdOut 2 r bad).data.toList : Int) = rdLen r bad := rfl
  rw [hL] at hn
  clear hL hz2
  generalize rdLen r bad = m at *
  generalize rdOut m (rdRest 2 r bad) (!rdOk 2 r bad) = o at *
  generalize rdRest m (rdRest 2 r bad) (!rdOk 2 r bad) = r2 at *
  generalize (!rdOk m (rdRest 2 r bad) (!rdOk 2 r bad)) = b2 at *
  generalize rdRest 2 r bad = r1 at *
  generalize (!rdOk 2 r bad) = b1 at *
  have HN := Lib.hid hn
  have HT := Lib.hid ht
  clear hn ht
  go_enter Tryd.func13, Tryd.ntmps13
  go_wp2_with fail
  refine HN.out.mono ?_
  rintro e w1 ⟨rfl, hr, hg⟩
  go_wp2_with fail
  refine (HT.out w1 hr).mono ?_
  rintro e w2 ⟨rfl, hr2, hg2⟩
  go_wp2
  go_ret
  exact ⟨rfl, hr2, Lib.grownBy_trans hg hg2⟩

set_option maxHeartbeats 400000 in
theorem rtext_nil (w : World) :
    Calls Tryd.prog 13 #[.pointer none] w fun e w' => e = .returned (.string ByteArray.empty) ∧ w = w' := by
  go_enter Tryd.func13, Tryd.ntmps13
  go_wp2_with (first | (go_at_call 25; refine (rshort_nil _).mono ?_; rintro e w' ⟨rfl, rfl⟩) | (go_at_call 14; refine (take_nil _ _).mono ?_; rintro e w' ⟨rfl, rfl⟩))
  go_ret
  exact ⟨rfl, rfl⟩

set_option maxHeartbeats 400000 in
theorem left_nil (w : World) :
    Calls Tryd.prog 28 #[.pointer none] w fun e w' => e = .returned (.int .i64 0) ∧ w = w' := by
  go_enter Tryd.func28, Tryd.ntmps28
  go_wp2_with (go_at_call 26; refine (good_nil _).mono ?_; rintro e w' ⟨rfl, rfl⟩)
  go_ret
  exact ⟨rfl, rfl⟩

set_option maxHeartbeats 400000 in
theorem end_nil (w : World) :
    Calls Tryd.prog 15 #[.pointer none] w fun e w' => e = .returned (.bool false) ∧ w = w' := by
  go_enter Tryd.func15, Tryd.ntmps15
  go_wp2_with (go_at_call 26; refine (good_nil _).mono ?_; rintro e w' ⟨rfl, rfl⟩)
  go_ret
  exact ⟨rfl, rfl⟩

set_option maxHeartbeats 400000 in
theorem left_any (w : World) (b : Nat) (r : ByteArray) (bad : Bool) (h : Rd w b r bad) :
    Calls Tryd.prog 28 #[.pointer (some ⟨b, 0, none⟩)] w fun e w' => e = .returned (.int .i64 (if bad = true then 0 else (r.size : Int))) ∧ w = w' := by
  have hc0 := h.c0
  cases bad with
  | true =>
    go_enter Tryd.func28, Tryd.ntmps28
    go_wp2_with (go_at_call 26; refine (good_any _ b r true h).mono ?_; rintro e w' ⟨rfl, rfl⟩)
    go_ret
    exact ⟨rfl, rfl⟩
  | false =>
    go_enter Tryd.func28, Tryd.ntmps28
    go_wp2_with (go_at_call 26; refine (good_any _ b r false h).mono ?_; rintro e w' ⟨rfl, rfl⟩)
    go_ret
    exact ⟨rfl, rfl⟩

set_option maxHeartbeats 400000 in
theorem end_any (w : World) (b : Nat) (r : ByteArray) (bad : Bool) (h : Rd w b r bad) :
    Calls Tryd.prog 15 #[.pointer (some ⟨b, 0, none⟩)] w fun e w' => e = .returned (.bool (!bad && decide (r.size = 0))) ∧ w = w' := by
  cases bad with
  | true =>
    go_enter Tryd.func15, Tryd.ntmps15
    go_wp2_with (go_at_call 26; refine (good_any _ b r true h).mono ?_; rintro e w' ⟨rfl, rfl⟩)
    go_ret
    exact ⟨rfl, rfl⟩
  | false =>
    have hl := left_any w b r false h
    simp only [Bool.false_eq_true, if_false] at hl
    have HL := Lib.hid hl
    have hg := good_any w b r false h
    simp only [Bool.not_false] at hg
    have HG := Lib.hid hg
    clear hl hg
    by_cases h0 : r.size = 0
    · have h1 : ((r.size : Int) == 0) = true := beq_iff_eq.2 (by omega)
      have h2 : decide (r.size = 0) = true := decide_eq_true h0
      rw [h2]
      clear h0 h2 h
      go_enter Tryd.func15, Tryd.ntmps15
      go_wp2_with (first | (go_at_call 26; refine HG.out.mono ?_; rintro e w' ⟨rfl, rfl⟩) | (go_at_call 28; refine HL.out.mono ?_; rintro e w' ⟨rfl, rfl⟩))
      go_ret
      exact ⟨rfl, rfl⟩
    · have h1 : ((r.size : Int) == 0) = false := beq_eq_false_iff_ne.2 (by omega)
      have h2 : decide (r.size = 0) = false := decide_eq_false h0
      rw [h2]
      clear h0 h2 h
      go_enter Tryd.func15, Tryd.ntmps15
      go_wp2_with (first | (go_at_call 26; refine HG.out.mono ?_; rintro e w' ⟨rfl, rfl⟩) | (go_at_call 28; refine HL.out.mono ?_; rintro e w' ⟨rfl, rfl⟩))
      go_ret
      exact ⟨rfl, rfl⟩

set_option maxHeartbeats 400000 in
theorem read_any (s : ByteArray) (w : World) :
    Calls Tryd.prog 11 #[.string s] w fun e w' => e = .returned (.pointer (some ⟨w.heap.size, 0, none⟩)) ∧ w' = w.alloc (.cells #[.string s, .bool false] 48) := by
  go_enter Tryd.func11, Tryd.ntmps11
  go_wp2
  go_ret
  exact ⟨rfl, rfl⟩

theorem rd_new (s : ByteArray) (w : World) : Rd (w.alloc (.cells #[.string s, .bool false] 48)) w.heap.size s false := by
  refine ⟨?_, ?_, ?_, ?_⟩
  · rw [World.cell?_alloc_mark]; rfl
  · rw [World.cell?_alloc_mark]; rfl
  · rw [frozen?_alloc_cells]; simp [World.frozen?]
  · rw [frozen?_alloc_cells]; simp [World.frozen?]

theorem num258 : numB 2 258 = ⟨#[1, 2]⟩ := by rw [numB_yes (by decide)]; rfl
theorem ok258 : numOk 2 258 = true := by decide
theorem textAB : textB ⟨#[97, 98]⟩ = ⟨#[0, 2, 97, 98]⟩ := by
  rw [textB_yes (by decide), ByteArray.ext_iff]; rfl
theorem okAB : textOk ⟨#[97, 98]⟩ = true := by decide


end Go.Proofs.YtkdbbbmoalijhaaDoor
