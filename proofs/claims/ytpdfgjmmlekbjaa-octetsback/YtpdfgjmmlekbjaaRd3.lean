/-
  Contracts of a reader's Text, Left, End and of Read; of a nil reader; of the document's examples of layer 1.
-/
import Derived.Test.YtpdfgjmmlekbjaaRd2
import Derived.Test.YtpdfgjmmlekbjaaOct5
namespace Go.Proofs.Ytpdfgjmmlekbjaa
open Go.RowKit Go.Pal

theorem rdRest_le (n : Int) (r : ByteArray) (bad : Bool) : (rdRest n r bad).size ≤ r.size := by
  unfold rdRest
  split
  · rw [ByteArray.size_extract]; omega
  · split
    · exact Nat.le_refl _
    · simp

/-- A text's length, as it stands next. -/
def rdLen (r : ByteArray) (bad : Bool) : Int := (valL (rdOut 2 r bad).data.toList : Nat)

set_option maxHeartbeats 400000 in
theorem rtext_any2 (w : World) (b : Nat) (r : ByteArray) (bad : Bool) (h : Rd w b r bad) (hz : r.size ≤ 281474976710656) :
    Calls Try.prog 22 #[.pointer (some ⟨b, 0, none⟩)] w fun e w' => e = .returned (.string (rdOut (rdLen r bad) (rdRest 2 r bad) (!rdOk 2 r bad))) ∧
      Rd w' b (rdRest (rdLen r bad) (rdRest 2 r bad) (!rdOk 2 r bad)) (!rdOk (rdLen r bad) (rdRest 2 r bad) (!rdOk 2 r bad)) ∧ w.grownBy w' (some b) := by
  have hz2 : (rdRest 2 r bad).size ≤ 281474976710656 := Nat.le_trans (rdRest_le 2 r bad) hz
  have hn := rshort_any w b r bad h hz
  have ht := fun w1 h1 => take_any (rdLen r bad) w1 b (rdRest 2 r bad) (!rdOk 2 r bad) h1 hz2
  have hL : (valL (rdOut 2 r bad).data.toList : Int) = rdLen r bad := rfl
  rw [hL] at hn
  clear hL hz2
  generalize rdLen r bad = m at *
  generalize rdOut m (rdRest 2 r bad) (!rdOk 2 r bad) = o at *
  generalize rdRest m (rdRest 2 r bad) (!rdOk 2 r bad) = r2 at *
  generalize (!rdOk m (rdRest 2 r bad) (!rdOk 2 r bad)) = b2 at *
  generalize rdRest 2 r bad = r1 at *
  generalize (!rdOk 2 r bad) = b1 at *
  have HN := Lib.hid hn
  have HT := Lib.hid ht
  clear hn ht
  go_enter Try.func22, Try.ntmps22
  go_wp2_with fail
  refine HN.out.mono ?_
  rintro e w1 ⟨rfl, hr, hg⟩
  go_wp2_with fail
  refine (HT.out w1 hr).mono ?_
  rintro e w2 ⟨rfl, hr2, hg2⟩
  go_wp2
  go_ret
  exact ⟨rfl, hr2, Lib.grownBy_trans hg hg2⟩

set_option maxHeartbeats 400000 in
theorem rtext_nil (w : World) :
    Calls Try.prog 22 #[.pointer none] w fun e w' => e = .returned (.string ByteArray.empty) ∧ w = w' := by
  go_enter Try.func22, Try.ntmps22
  go_wp2_with (first | (go_at_call 20; refine (rshort_nil _).mono ?_; rintro e w' ⟨rfl, rfl⟩) | (go_at_call 23; refine (take_nil _ _).mono ?_; rintro e w' ⟨rfl, rfl⟩))
  go_ret
  exact ⟨rfl, rfl⟩

set_option maxHeartbeats 400000 in
theorem left_nil (w : World) :
    Calls Try.prog 25 #[.pointer none] w fun e w' => e = .returned (.int .i64 0) ∧ w = w' := by
  go_enter Try.func25, Try.ntmps25
  go_wp2_with (go_at_call 24; refine (good_nil _).mono ?_; rintro e w' ⟨rfl, rfl⟩)
  go_ret
  exact ⟨rfl, rfl⟩

set_option maxHeartbeats 400000 in
theorem end_nil (w : World) :
    Calls Try.prog 26 #[.pointer none] w fun e w' => e = .returned (.bool false) ∧ w = w' := by
  go_enter Try.func26, Try.ntmps26
  go_wp2_with (go_at_call 24; refine (good_nil _).mono ?_; rintro e w' ⟨rfl, rfl⟩)
  go_ret
  exact ⟨rfl, rfl⟩

set_option maxHeartbeats 400000 in
theorem left_any (w : World) (b : Nat) (r : ByteArray) (bad : Bool) (h : Rd w b r bad) :
    Calls Try.prog 25 #[.pointer (some ⟨b, 0, none⟩)] w fun e w' => e = .returned (.int .i64 (if bad = true then 0 else (r.size : Int))) ∧ w = w' := by
  have hc0 := h.c0
  cases bad with
  | true =>
    go_enter Try.func25, Try.ntmps25
    go_wp2_with (go_at_call 24; refine (good_any _ b r true h).mono ?_; rintro e w' ⟨rfl, rfl⟩)
    go_ret
    exact ⟨rfl, rfl⟩
  | false =>
    go_enter Try.func25, Try.ntmps25
    go_wp2_with (go_at_call 24; refine (good_any _ b r false h).mono ?_; rintro e w' ⟨rfl, rfl⟩)
    go_ret
    exact ⟨rfl, rfl⟩

set_option maxHeartbeats 400000 in
theorem end_any (w : World) (b : Nat) (r : ByteArray) (bad : Bool) (h : Rd w b r bad) :
    Calls Try.prog 26 #[.pointer (some ⟨b, 0, none⟩)] w fun e w' => e = .returned (.bool (!bad && decide (r.size = 0))) ∧ w = w' := by
  cases bad with
  | true =>
    go_enter Try.func26, Try.ntmps26
    go_wp2_with (go_at_call 24; refine (good_any _ b r true h).mono ?_; rintro e w' ⟨rfl, rfl⟩)
    go_ret
    exact ⟨rfl, rfl⟩
  | false =>
    have hl := left_any w b r false h
    simp only [Bool.false_eq_true, if_false] at hl
    have HL := Lib.hid hl
    have hg := good_any w b r false h
    simp only [Bool.not_false] at hg
    have HG := Lib.hid hg
    clear hl hg
    by_cases h0 : r.size = 0
    · have h1 : ((r.size : Int) == 0) = true := beq_iff_eq.2 (by omega)
      have h2 : decide (r.size = 0) = true := decide_eq_true h0
      rw [h2]
      clear h0 h2 h
      go_enter Try.func26, Try.ntmps26
      go_wp2_with (first | (go_at_call 24; refine HG.out.mono ?_; rintro e w' ⟨rfl, rfl⟩) | (go_at_call 25; refine HL.out.mono ?_; rintro e w' ⟨rfl, rfl⟩))
      go_ret
      exact ⟨rfl, rfl⟩
    · have h1 : ((r.size : Int) == 0) = false := beq_eq_false_iff_ne.2 (by omega)
      have h2 : decide (r.size = 0) = false := decide_eq_false h0
      rw [h2]
      clear h0 h2 h
      go_enter Try.func26, Try.ntmps26
      go_wp2_with (first | (go_at_call 24; refine HG.out.mono ?_; rintro e w' ⟨rfl, rfl⟩) | (go_at_call 25; refine HL.out.mono ?_; rintro e w' ⟨rfl, rfl⟩))
      go_ret
      exact ⟨rfl, rfl⟩

set_option maxHeartbeats 400000 in
theorem read_any (s : ByteArray) (w : World) :
    Calls Try.prog 16 #[.string s] w fun e w' => e = .returned (.pointer (some ⟨w.heap.size, 0, none⟩)) ∧ w' = w.alloc (.cells #[.string s, .bool false] 48) := by
  go_enter Try.func16, Try.ntmps16
  go_wp2
  go_ret
  exact ⟨rfl, rfl⟩

theorem rd_new (s : ByteArray) (w : World) : Rd (w.alloc (.cells #[.string s, .bool false] 48)) w.heap.size s false := by
  refine ⟨?_, ?_, ?_, ?_⟩
  · rw [World.cell?_alloc_mark]; rfl
  · rw [World.cell?_alloc_mark]; rfl
  · rw [frozen?_alloc_cells]; simp [World.frozen?]
  · rw [frozen?_alloc_cells]; simp [World.frozen?]

theorem num258 : numB 2 258 = ⟨#[1, 2]⟩ := by rw [numB_yes (by decide)]; rfl
theorem ok258 : numOk 2 258 = true := by decide
theorem textAB : textB ⟨#[97, 98]⟩ = ⟨#[0, 2, 97, 98]⟩ := by
  rw [textB_yes (by decide), ByteArray.ext_iff]; rfl
theorem okAB : textOk ⟨#[97, 98]⟩ = true := by decide

set_option maxHeartbeats 400000 in
theorem awake_any (w : World) :
    Calls Try.prog 13 #[] w fun e w' => e = .returned (.bool true) ∧ Below w.heap.size w w' := by
  have hs := fun w => short_any 258 (by decide) w
  have ht := fun w => text_any ⟨#[97, 98]⟩ (by decide) w
  rw [num258, ok258] at hs
  rw [textAB, okAB] at ht
  have HS := Lib.hid hs
  have HT := Lib.hid ht
  clear hs ht
  go_enter Try.func13, Try.ntmps13
  go_wp2_with fail
  refine (HS.out _).mono ?_
  rintro e w1 ⟨rfl, hb1⟩
  go_wp2_with fail
  refine (HT.out _).mono ?_
  rintro e w2 ⟨rfl, hb2⟩
  go_wp2_with fail
  refine (read_any _ _).mono ?_
  rintro e w3 ⟨rfl, rfl⟩
  go_wp2_with fail
  refine (rshort_any _ _ _ _ (rd_new _ _) (by decide)).mono ?_
  rintro e w4 ⟨rfl, hr, hg⟩
  go_wp2_with fail
  refine (good_any _ _ _ _ hr).mono ?_
  rintro e w5 ⟨rfl, rfl⟩
  go_wp2
  go_ret
  exact ⟨rfl, ((hb1.trans (hb2.mono hb1.size)).alloc (Nat.le_trans hb1.size hb2.size) _).grown hg (by simp; exact Nat.le_succ_of_le (Nat.le_trans hb1.size hb2.size)) (by intro k hk; cases hk; exact Nat.le_trans hb1.size hb2.size)⟩

end Go.Proofs.Ytpdfgjmmlekbjaa
